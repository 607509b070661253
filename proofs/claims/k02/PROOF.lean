import PyProof.Rows.All
import Wide.All
import OpenK.AllK
import Wide.FinOn
import Lean
import PyProof.EqAt
import PyProof.EqKinds
import PyProof.TupleCall
import PyProof.StrLawsChain
import KE.KIntText
import PyProof.EnumFor
import PyProof.EnumMake
import PyProof.ZipIter
import PyProof.LayNew
import KE.KTurns
import PyProof.Rows.Range3
import KE.KRevSl
import KE.KDictList
import PyProof.Draws
import PyProof.Rows.RuleM_int
import PyProof.Rows.BitMore
import PyProof.NeKinds
import KE.KRevIter
import PyProof.JoinWalk
import KE.KDictSum
import KE.KSortTup
import KE.KTryMore
import PyProof.ExcArgs
import OpenK.KOwn
import PyProof.ExcBaseAll.ValueError
import KE.KLam
import KE.KNestM
import PyProof.Rows.SetFrom
import PyProof.AttrMissHeap
import KE.KDictOf
import PyProof.TupleKey
import PyProof.DictRoadsH
import PyProof.MeetsDict
import KE.KItemsList
import KE.KUnpack
import PySem.Challenge.RW_loomwright_k02_groups_told_over
set_option Elab.async false
set_option linter.all false
set_option maxRecDepth 100000
set_option maxHeartbeats 4000000
noncomputable section
namespace L2
open PySem
def Cw (s:Stmt) (j:Nat):Stmt:=match s with
  | .ClassDef _ _ _ body _ _ _ _ _ _ _=>body.getD j (.Pass ⟨0,0,0,0⟩)
  | _=> .Pass ⟨0,0,0,0⟩
def Cz (s:Stmt):Arguments:=match s with
  | .FunctionDef _ a _ _ _ _ _ _ _ _=>a
  | _=>{ posonlyargs:=[],args:=[],vararg:=none,kwonlyargs:=[],kw_defaults:=[],kwarg:=none,defaults:=[] }
def Bf (s:Stmt):List Stmt:=match s with
  | .FunctionDef _ _ b _ _ _ _ _ _ _=>b
  | _=>[]
def Aj (s:Stmt):Scope:=match s with
  | .FunctionDef _ _ _ _ _ _ sc _ _ _=>sc
  | _=>{ kind:= .function,names:=[],isGenerator:=false,isCoroutine:=false }
end L2
namespace K02
open PySem
def top (i:Nat):Stmt:=PySem.Challenge.pw_loomwright_k02_groups_told_over.main.body.getD i (.Pass ⟨0,0,0,0⟩)
end K02
namespace HX
open PySem PySem.W PySem.Calls PyProof.Rows
def topT (tb:String->Option Builtin) (p:Program) (w:World) (n₀:Nat) (ann:Option Value):Nat->SharedT->Thread->Option SharedT
  | 0,_,_=>none
  | n+1,s,t=>match through t with
    | true=>some s
    | false=>match stepOk n₀ ann t with
      | false=>none
      | true=>match stepT (denote tb) p w s t with
        | some (s',t')=>topT tb p w n₀ ann n s' t'
        | none=>none
theorem topT_of {tb:String->Option Builtin} {p:Program} {w:World} {n₀:Nat} {ann:Option Value}:∀ {n:Nat} {s s':SharedT} {t:Thread},topT tb p w n₀ ann n s t=some s'->topRun tb p w n₀ ann n s.abs t=some s'.abs
  | 0,_,_,_,h=>by cases h
  | n+1,s,s',t,h=>by
    unfold topT at h;unfold topRun;cases ht:through t with
    | true=>rw [ht] at h;cases h;rfl
    | false=>
      rw [ht] at h;cases hk:stepOk n₀ ann t with
      | false=>rw [hk] at h;cases h
      | true=>
        rw [hk] at h;cases hs:stepT (denote tb) p w s t with
        | none=>rw [hs] at h;cases h
        | some x=>
          obtain ⟨s2,t2⟩:=x;rw [hs] at h;dsimp only;rw [stepT_spec hs];exact topT_of h
def ofL:List Obj->Nat->BT->BT
  | [],_,t=>t
  | o::r,i,t=>ofL r (i+1) (t.ins i o)
def bootT (P:Params):BT:=ofL (boot_heap P).objs.toList 0 .nil
def fn0 (name qual:Str) (a:Arguments) (b:List Stmt) (sc:Scope):FuncData:=
  { name,qualname:=qual,params:=a,body:= .stmts b,scope:=sc,globals:=0,closure:=[],defaults:= .none,kwdefaults:= .none }
theorem left_run {p q:Program} {loose:List Str} {Xt:Shared->Bool} {α:Type} {Yf:Shared->α} {Ya:World->α} {N:Nat} {g0:Bool}
    (e:opening p=plainProg p.main.scope.names) (hN:Nat.ble 600 N=true) (f:∀ s,fenceModules? p s=some s)
    (hb:∀ P:Params,(absHeap (bootT P) 11 {},boot_drawn,(boot_heap P).isNs mainGlobals,(boot_heap P).objs.size,(boot_heap P).nsMap mainGlobals "__annotations__")=(boot_heap P,boot_drawn,true,11,some (.ref 6)))
    (run:∀ (w:World) (os:OsState),∃ s:Shared,topRun treeTable p w 11 (some (.ref 6)) N (⟨bootT w.params,11,{},Array.mk [],boot_drawn,boot_toks,os⟩:SharedT).abs (topStub p)=some s/\((staticsOk (importedModules p.main.body) (boot_heap w.params) s.heap&&namesBound p s.heap&&gensDone s&&laidKept (boot_heap w.params) s.heap),openSeen q loose (importedModules p.main.body) Xt g0 s,Yf s)=(true,openGood q loose,Ya w)):LeftO p q loose Xt Yf Ya N g0:=λ w=>by
  obtain ⟨⟨h,gs,d,k,os⟩,e1,e'⟩:=Option.map_eq_some_iff.mp (boot_open (p:=p) (N:=N) e hN f w);obtain ⟨rfl,rfl,rfl,rfl⟩:h=boot_heap w.params/\gs=Array.mk []/\d=boot_drawn/\k=boot_toks:=by simpa using e'
  have hb':=hb w.params;simp only [Prod.mk.injEq] at hb';obtain ⟨b1,_,b2,b3,b4⟩:=hb';obtain ⟨s,r,l⟩:=run w os;obtain ⟨l1,l2,l3⟩:_/\_/\_:=by simpa only [Prod.mk.injEq] using l
  have b0:(⟨bootT w.params,11,{},Array.mk [],boot_drawn,boot_toks,os⟩:SharedT).abs=⟨boot_heap w.params,Array.mk [],boot_drawn,boot_toks,os⟩:=by
    show (⟨absHeap (bootT w.params) 11 {},_,_,_,_⟩:Shared)=_;rw [b1]
  rw [b0] at r;have t:topFrom treeTable p w N ⟨boot_heap w.params,Array.mk [],boot_drawn,boot_toks,os⟩=some s:=by
    unfold topFrom;dsimp only;rw [b2,b3,b4];show Option.bind (topRun treeTable p w 11 (some (.ref 6)) N ⟨boot_heap w.params,Array.mk [],boot_drawn,boot_toks,os⟩ (topStub p)) _=_;rw [r];show (match staticsOk (importedModules p.main.body) (boot_heap w.params) s.heap&&namesBound p s.heap&&gensDone s&&laidKept (boot_heap w.params) s.heap with | true=>_ | false=>_)=_;rw [l1]
  unfold openEnds;rw [e1];show (topFrom treeTable p w N _).map _=_;rw [t];exact congrArg some (Prod.ext l2 l3)
theorem three {α β γ:Type} {a a':α} {b b':β} {c c':γ} (h:(a,c)=(a',c')) (k:b=b'):(a,b,c)=(a',b',c'):=by
  cases h;cases k;rfl
theorem hb (P:Params):(absHeap (bootT P) 11 {},boot_drawn,(boot_heap P).isNs mainGlobals,(boot_heap P).objs.size,(boot_heap P).nsMap mainGlobals "__annotations__")=(boot_heap P,boot_drawn,true,11,some (.ref 6)):=by kernel_rfl
end HX
namespace K02
open PySem L2 PySem.W PySem.Calls PyProof.Rows
abbrev Ob:=Params->Obj
abbrev dE (P:Params) (s:Str) (t:Tok) (v:Value):DictEntry:=⟨PyData.keyHash P s, .str s t,v⟩
abbrev dR (P:Params) (s:Str) (t:Tok) (a:Addr):DictEntry:=⟨PyData.keyHash P s, .str s t, .ref a⟩
abbrev tu (xs:Array Value):Obj:=⟨.type "tuple",none, .seq xs 0, #[]⟩
abbrev di (es:Array DictEntry) (n:Nat):Obj:=⟨.type "dict",none, .dict es n, #[]⟩
abbrev f0 (n q:Str) (st:Stmt):FuncData:=HX.fn0 n q (Cz st) (Bf st) (Aj st)
abbrev fo (n q:Str) (st:Stmt) (m:Str) (t:Tok) (c:Addr):Obj:=⟨.type "function",none, .func (fnOf n q (Cz st) (Bf st) (Aj st) .none .none .none (.str m t) none (.ref c) .none), #[]⟩
abbrev co (n q:Str) (t:Tok) (l ac nl:Int) (a:Addr) (b:Bool) (r:Addr) (c d e:Value) (k:Int) (t4:Tok):Obj:=⟨.type "code",none, .fields #[.str n t, .str q (t+1), .str "/claim/cut.py" (t+2), .int l 0, .int ac 0, .int 0 0, .int 0 0, .int nl 0, .ref a, .bool b, .int 181 0, .ref r, .none,c,d,e, .int k 0, .int l 0, .str "/claim/cut.py" t4], #[]⟩
def o3:Ob:=λ P=>di #[dE P "__name__" 165 (.str "law_loomwright_k02_groups_told_over" 470),dE P "__doc__" 166 .none,dE P "__package__" 167 .none,dE P "__loader__" 168 (.builtin "__main__.__loader__#opaque"),dE P "__spec__" 169 .none,dR P "__annotations__" 170 6,dR P "__builtins__" 171 4,dE P "__file__" 173 (.str "/claim/cut.py" 172),dE P "__cached__" 174 .none,dR P "LoomError" 206 24,dR P "BadRow" 233 44,dR P "BadWord" 258 63,dR P "TooMany" 285 82,dR P "NotPlain" 312 101,dR P "NotGrown" 339 120,dR P "BadDraft" 355 132,dR P "BadCloth" 371 144,dR P "OutOfPlace" 387 156,dE P "FIGURES" 391 (.str "0123456789" 390),dE P "MOST_FIGURES" 393 (.int 3 392),dR P "is_whole" 400 165,dR P "is_among" 409 172,dR P "number_of" 415 177,dE P "LEAST_TIMES" 419 (.int 2 418),dE P "MOST_TIMES" 421 (.int 60 420),dE P "OPENING" 423 (.str "(" 422),dE P "CLOSING" 425 (.str ")" 424),dR P "times_of" 433 184,dR P "can_stand" 443 191,dR P "taken" 454 198,dR P "spread" 469 205,dR P "_law_mixed" 479 212,dR P "_law_kinds" 485 217,dR P "_law_times" 491 222,dR P "_law_level" 504 229,dR P "_law_group" 515 236,dR P "_law_due" 526 243,dR P "_law_word" 534 250,dR P "_law_right" 544 257,dR P "_law_bent" 555 264,dR P "_law_told" 568 271,dR P "_law_asked" 582 278,dR P "law" 588 283] 43
def o15:Ob:=λ P=>tu #[(.type "ValueError")]
def o22:Ob:=λ P=>tu #[]
def o23:Ob:=λ P=>di #[dE P "__module__" 196 (.str "loomwright.errors" 187),dE P "__firstlineno__" 200 (.int 2 199),dR P "__static_attributes__" 201 22,dR P "__weakref__" 203 25,dE P "__doc__" 204 .none] 3
def o24:Ob:=λ P=>⟨(.type "type"),none,(.cls ⟨"LoomError",[(.type "ValueError")],[(.ref 24),(.type "ValueError"),(.type "Exception"),(.type "BaseException"),(.type "object")],23,"LoomError",true,[],[(.ref 44),(.ref 63),(.ref 82),(.ref 101),(.ref 120),(.ref 132),(.ref 144),(.ref 156)],false,none,false⟩), #[(some (.ref 15)),none,(some (.str "LoomError" 189)),(some (.str "LoomError" 197)),(some (.builtin "ValueError.__new__")),(some (.bool true))]⟩
def o25:Ob:=λ P=>⟨(.type "getset_descriptor"),none,(.fields #[(.str "__weakref__" 202),(.ref 24),(.builtin "ExceptionGroup.__weakref__"), .none]), #[]⟩
def o28:Ob:=λ P=>tu #[(.ref 24)]
def o35:Ob:=λ P=>tu #[]
def o37:Ob:=λ P=>tu #[(.str "self" 222),(.str "row" 223),(.str "word" 224)]
def o38:Ob:=λ P=>tu #[]
def o40:Ob:=λ P=>co "__init__" "BadRow.__init__" 219 6 3 3 35 true 36 (.ref 37) (.ref 38) (.ref 39) 225 226
def o41:Ob:=λ P=>fo "__init__" "BadRow.__init__" (Cw (top 2) 0) "loomwright.errors" 187 40
def o42:Ob:=λ P=>tu #[(.str "row" 228),(.str "word" 229)]
def o43:Ob:=λ P=>di #[dE P "__module__" 214 (.str "loomwright.errors" 187),dE P "__firstlineno__" 218 (.int 4 217),dR P "__init__" 227 41,dR P "__static_attributes__" 230 42,dE P "__doc__" 231 .none] 2
def o44:Ob:=λ P=>⟨(.type "type"),none,(.cls ⟨"BadRow",[(.ref 24)],[(.ref 44),(.ref 24),(.type "ValueError"),(.type "Exception"),(.type "BaseException"),(.type "object")],43,"BadRow",true,[],[],false,none,false⟩), #[(some (.ref 28)),none,(some (.str "BadRow" 207)),(some (.str "BadRow" 215)),(some (.builtin "ValueError.__new__")),(some (.bool true))]⟩
def o47:Ob:=λ P=>tu #[(.ref 24)]
def o54:Ob:=λ P=>tu #[]
def o56:Ob:=λ P=>tu #[(.str "self" 249),(.str "place" 250)]
def o57:Ob:=λ P=>tu #[]
def o59:Ob:=λ P=>co "__init__" "BadWord.__init__" 246 12 2 3 54 true 55 (.ref 56) (.ref 57) (.ref 58) 251 252
def o60:Ob:=λ P=>fo "__init__" "BadWord.__init__" (Cw (top 3) 0) "loomwright.errors" 187 59
def o61:Ob:=λ P=>tu #[(.str "place" 254)]
def o62:Ob:=λ P=>di #[dE P "__module__" 241 (.str "loomwright.errors" 187),dE P "__firstlineno__" 245 (.int 10 244),dR P "__init__" 253 60,dR P "__static_attributes__" 255 61,dE P "__doc__" 256 .none] 2
def o63:Ob:=λ P=>⟨(.type "type"),none,(.cls ⟨"BadWord",[(.ref 24)],[(.ref 63),(.ref 24),(.type "ValueError"),(.type "Exception"),(.type "BaseException"),(.type "object")],62,"BadWord",true,[],[],false,none,false⟩), #[(some (.ref 47)),none,(some (.str "BadWord" 234)),(some (.str "BadWord" 242)),(some (.builtin "ValueError.__new__")),(some (.bool true))]⟩
def o66:Ob:=λ P=>tu #[(.ref 24)]
def o73:Ob:=λ P=>tu #[]
def o75:Ob:=λ P=>tu #[(.str "self" 274),(.str "what" 275),(.str "many" 276)]
def o76:Ob:=λ P=>tu #[]
def o78:Ob:=λ P=>co "__init__" "TooMany.__init__" 271 17 3 3 73 true 74 (.ref 75) (.ref 76) (.ref 77) 277 278
def o79:Ob:=λ P=>fo "__init__" "TooMany.__init__" (Cw (top 4) 0) "loomwright.errors" 187 78
def o80:Ob:=λ P=>tu #[(.str "many" 280),(.str "what" 281)]
def o81:Ob:=λ P=>di #[dE P "__module__" 266 (.str "loomwright.errors" 187),dE P "__firstlineno__" 270 (.int 15 269),dR P "__init__" 279 79,dR P "__static_attributes__" 282 80,dE P "__doc__" 283 .none] 2
def o82:Ob:=λ P=>⟨(.type "type"),none,(.cls ⟨"TooMany",[(.ref 24)],[(.ref 82),(.ref 24),(.type "ValueError"),(.type "Exception"),(.type "BaseException"),(.type "object")],81,"TooMany",true,[],[],false,none,false⟩), #[(some (.ref 66)),none,(some (.str "TooMany" 259)),(some (.str "TooMany" 267)),(some (.builtin "ValueError.__new__")),(some (.bool true))]⟩
def o85:Ob:=λ P=>tu #[(.ref 24)]
def o92:Ob:=λ P=>tu #[]
def o94:Ob:=λ P=>tu #[(.str "self" 301),(.str "what" 302),(.str "number" 303)]
def o95:Ob:=λ P=>tu #[]
def o97:Ob:=λ P=>co "__init__" "NotPlain.__init__" 298 23 3 3 92 true 93 (.ref 94) (.ref 95) (.ref 96) 304 305
def o98:Ob:=λ P=>fo "__init__" "NotPlain.__init__" (Cw (top 5) 0) "loomwright.errors" 187 97
def o99:Ob:=λ P=>tu #[(.str "number" 307),(.str "what" 308)]
def Pq:Ob:=λ P=>di #[dE P "__module__" 293 (.str "loomwright.errors" 187),dE P "__firstlineno__" 297 (.int 21 296),dR P "__init__" 306 98,dR P "__static_attributes__" 309 99,dE P "__doc__" 310 .none] 2
def Nx:Ob:=λ P=>⟨(.type "type"),none,(.cls ⟨"NotPlain",[(.ref 24)],[(.ref 101),(.ref 24),(.type "ValueError"),(.type "Exception"),(.type "BaseException"),(.type "object")],100,"NotPlain",true,[],[],false,none,false⟩), #[(some (.ref 85)),none,(some (.str "NotPlain" 286)),(some (.str "NotPlain" 294)),(some (.builtin "ValueError.__new__")),(some (.bool true))]⟩
def O4:Ob:=λ P=>tu #[(.ref 24)]
def Oh:Ob:=λ P=>tu #[]
def Nz:Ob:=λ P=>tu #[(.str "self" 328),(.str "row" 329),(.str "column" 330)]
def P2:Ob:=λ P=>tu #[]
def OD:Ob:=λ P=>co "__init__" "NotGrown.__init__" 325 29 3 3 111 true 112 (.ref 113) (.ref 114) (.ref 115) 331 332
def N4:Ob:=λ P=>fo "__init__" "NotGrown.__init__" (Cw (top 6) 0) "loomwright.errors" 187 116
def Pg:Ob:=λ P=>tu #[(.str "column" 334),(.str "row" 335)]
def OL:Ob:=λ P=>di #[dE P "__module__" 320 (.str "loomwright.errors" 187),dE P "__firstlineno__" 324 (.int 27 323),dR P "__init__" 333 117,dR P "__static_attributes__" 336 118,dE P "__doc__" 337 .none] 2
def Os:Ob:=λ P=>⟨(.type "type"),none,(.cls ⟨"NotGrown",[(.ref 24)],[(.ref 120),(.ref 24),(.type "ValueError"),(.type "Exception"),(.type "BaseException"),(.type "object")],119,"NotGrown",true,[],[],false,none,false⟩), #[(some (.ref 104)),none,(some (.str "NotGrown" 313)),(some (.str "NotGrown" 321)),(some (.builtin "ValueError.__new__")),(some (.bool true))]⟩
def O6:Ob:=λ P=>tu #[(.ref 24)]
def PY:Ob:=λ P=>tu #[]
def Np:Ob:=λ P=>di #[dE P "__module__" 347 (.str "loomwright.errors" 187),dE P "__firstlineno__" 351 (.int 33 350),dR P "__static_attributes__" 352 130,dE P "__doc__" 353 .none] 2
def NV:Ob:=λ P=>⟨(.type "type"),none,(.cls ⟨"BadDraft",[(.ref 24)],[(.ref 132),(.ref 24),(.type "ValueError"),(.type "Exception"),(.type "BaseException"),(.type "object")],131,"BadDraft",true,[],[],false,none,false⟩), #[(some (.ref 123)),none,(some (.str "BadDraft" 340)),(some (.str "BadDraft" 348)),(some (.builtin "ValueError.__new__")),(some (.bool true))]⟩
def Pw:Ob:=λ P=>tu #[(.ref 24)]
def PV:Ob:=λ P=>tu #[]
def NI:Ob:=λ P=>di #[dE P "__module__" 363 (.str "loomwright.errors" 187),dE P "__firstlineno__" 367 (.int 35 366),dR P "__static_attributes__" 368 142,dE P "__doc__" 369 .none] 2
def Ps:Ob:=λ P=>⟨(.type "type"),none,(.cls ⟨"BadCloth",[(.ref 24)],[(.ref 144),(.ref 24),(.type "ValueError"),(.type "Exception"),(.type "BaseException"),(.type "object")],143,"BadCloth",true,[],[],false,none,false⟩), #[(some (.ref 135)),none,(some (.str "BadCloth" 356)),(some (.str "BadCloth" 364)),(some (.builtin "ValueError.__new__")),(some (.bool true))]⟩
def NC:Ob:=λ P=>tu #[(.ref 24)]
def P8:Ob:=λ P=>tu #[]
def ON:Ob:=λ P=>di #[dE P "__module__" 379 (.str "loomwright.errors" 187),dE P "__firstlineno__" 383 (.int 37 382),dR P "__static_attributes__" 384 154,dE P "__doc__" 385 .none] 2
def N2:Ob:=λ P=>⟨(.type "type"),none,(.cls ⟨"OutOfPlace",[(.ref 24)],[(.ref 156),(.ref 24),(.type "ValueError"),(.type "Exception"),(.type "BaseException"),(.type "object")],155,"OutOfPlace",true,[],[],false,none,false⟩), #[(some (.ref 147)),none,(some (.str "OutOfPlace" 372)),(some (.str "OutOfPlace" 380)),(some (.builtin "ValueError.__new__")),(some (.bool true))]⟩
def P4:Ob:=λ P=>tu #[]
def Oq:Ob:=λ P=>tu #[(.str "thing" 397)]
def NB:Ob:=λ P=>tu #[]
def Pt:Ob:=λ P=>co "is_whole" "is_whole" 394 42 1 3 159 true 160 (.ref 161) (.ref 162) (.ref 163) 398 399
def OT:Ob:=λ P=>fo "is_whole" "is_whole" (top 13) "loomwright.words" 388 164
def Oi:Ob:=λ P=>tu #[]
def Pb:Ob:=λ P=>tu #[(.str "thing" 404),(.str "least" 405),(.str "most" 406)]
def NS:Ob:=λ P=>tu #[]
def Pi:Ob:=λ P=>co "is_among" "is_among" 401 44 3 3 166 true 167 (.ref 168) (.ref 169) (.ref 170) 407 408
def Nv:Ob:=λ P=>fo "is_among" "is_among" (top 14) "loomwright.words" 388 171
def Pl:Ob:=λ P=>tu #[]
def NT:Ob:=λ P=>co "number_of" "number_of" 410 46 1 3 173 true 174 .none .none (.ref 175) 413 414
def Pe:Ob:=λ P=>fo "number_of" "number_of" (top 15) "loomwright.words" 388 176
def Qb:Ob:=λ P=>tu #[]
def N7:Ob:=λ P=>tu #[(.str "word" 429),(.str "times" 430)]
def P0:Ob:=λ P=>tu #[]
def Qh:Ob:=λ P=>co "times_of" "times_of" 426 59 1 3 178 true 179 (.ref 180) (.ref 181) (.ref 182) 431 432
def P9:Ob:=λ P=>fo "times_of" "times_of" (top 21) "loomwright.groups" 416 183
def Oz:Ob:=λ P=>tu #[]
def Og:Ob:=λ P=>tu #[(.str "word" 437),(.str "held" 438),(.str "times" 439),(.str "fits" 440)]
def PD:Ob:=λ P=>tu #[]
def Pf:Ob:=λ P=>co "can_stand" "can_stand" 434 64 4 3 185 true 186 (.ref 187) (.ref 188) (.ref 189) 441 442
def NK:Ob:=λ P=>fo "can_stand" "can_stand" (top 22) "loomwright.groups" 416 190
def OI:Ob:=λ P=>tu #[]
def PU:Ob:=λ P=>tu #[(.str "word" 447),(.str "held" 448),(.str "times" 449),(.str "inner" 450),(.str "many" 451)]
def Nm:Ob:=λ P=>tu #[]
def NZ:Ob:=λ P=>co "taken" "taken" 444 70 3 3 192 true 193 (.ref 194) (.ref 195) (.ref 196) 452 453
def OU:Ob:=λ P=>fo "taken" "taken" (top 23) "loomwright.groups" 416 197
def PP:Ob:=λ P=>tu #[]
def Qc:Ob:=λ P=>tu #[(.str "words" 458),(.str "most" 459),(.str "fits" 460),(.str "row" 461),(.str "held" 462),(.str "times" 463),(.str "count" 464),(.str "place" 465),(.str "word" 466)]
def N6:Ob:=λ P=>tu #[]
def Py:Ob:=λ P=>co "spread" "spread" 455 82 3 3 199 true 200 (.ref 201) (.ref 202) (.ref 203) 467 468
def PF:Ob:=λ P=>fo "spread" "spread" (top 24) "loomwright.groups" 416 204
def Qe:Ob:=λ P=>tu #[]
def Pn:Ob:=λ P=>tu #[(.str "_law_cell" 475),(.str "_law_k" 476)]
def O5:Ob:=λ P=>tu #[]
def Nu:Ob:=λ P=>co "_law_mixed" "_law_mixed" 472 97 2 3 206 true 207 (.ref 208) (.ref 209) (.ref 210) 477 478
def P1:Ob:=λ P=>fo "_law_mixed" "_law_mixed" (top 26) "law_loomwright_k02_groups_told_over" 470 211
def Pu:Ob:=λ P=>tu #[]
def Nq:Ob:=λ P=>co "_law_kinds" "_law_kinds" 480 100 1 3 213 true 214 .none .none (.ref 215) 483 484
def P3:Ob:=λ P=>fo "_law_kinds" "_law_kinds" (top 27) "law_loomwright_k02_groups_told_over" 470 216
def ND:Ob:=λ P=>tu #[]
def Ot:Ob:=λ P=>co "_law_times" "_law_times" 486 107 1 3 218 true 219 .none .none (.ref 220) 489 490
def Oy:Ob:=λ P=>fo "_law_times" "_law_times" (top 28) "law_loomwright_k02_groups_told_over" 470 221
def Pr:Ob:=λ P=>tu #[]
def NL:Ob:=λ P=>tu #[(.str "_law_state" 495),(.str "_law_most" 496),(.str "_law_goods" 497),(.str "_law_is_open" 498),(.str "_law_words" 499),(.str "_law_items" 500),(.str "_law_word_here" 501)]
def Pz:Ob:=λ P=>tu #[]
def NJ:Ob:=λ P=>co "_law_level" "_law_level" 492 114 4 3 223 true 224 (.ref 225) (.ref 226) (.ref 227) 502 503
def Oo:Ob:=λ P=>fo "_law_level" "_law_level" (top 29) "law_loomwright_k02_groups_told_over" 470 228
def Ou:Ob:=λ P=>tu #[]
def Oa:Ob:=λ P=>tu #[(.str "_law_state" 508),(.str "_law_most" 509),(.str "_law_goods" 510),(.str "_law_times_here" 511),(.str "_law_inner" 512)]
def Pa:Ob:=λ P=>tu #[]
def OQ:Ob:=λ P=>co "_law_group" "_law_group" 505 134 4 3 230 true 231 (.ref 232) (.ref 233) (.ref 234) 513 514
def Ol:Ob:=λ P=>fo "_law_group" "_law_group" (top 30) "law_loomwright_k02_groups_told_over" 470 235
def Qj:Ob:=λ P=>tu #[]
def NO:Ob:=λ P=>tu #[(.str "_law_words" 519),(.str "_law_most" 520),(.str "_law_goods" 521),(.str "_law_state" 522),(.str "_law_items" 523)]
def OB:Ob:=λ P=>tu #[]
def NR:Ob:=λ P=>co "_law_due" "_law_due" 516 147 3 3 237 true 238 (.ref 239) (.ref 240) (.ref 241) 524 525
def Nt:Ob:=λ P=>fo "_law_due" "_law_due" (top 31) "law_loomwright_k02_groups_told_over" 470 242
def Ow:Ob:=λ P=>tu #[]
def Qd:Ob:=λ P=>tu #[(.str "_law_cell" 530),(.str "_law_some" 531)]
def N9:Ob:=λ P=>tu #[]
def N1:Ob:=λ P=>co "_law_word" "_law_word" 527 155 1 3 244 true 245 (.ref 246) (.ref 247) (.ref 248) 532 533
def PH:Ob:=λ P=>fo "_law_word" "_law_word" (top 32) "law_loomwright_k02_groups_told_over" 470 249
def PR:Ob:=λ P=>tu #[]
def PB:Ob:=λ P=>tu #[(.str "_law_words" 538),(.str "_law_told_here" 539),(.str "_law_depth" 540),(.str "_law_word_here" 541)]
def OG:Ob:=λ P=>tu #[]
def OZ:Ob:=λ P=>co "_law_right" "_law_right" 535 158 1 3 251 true 252 (.ref 253) (.ref 254) (.ref 255) 542 543
def Pd:Ob:=λ P=>fo "_law_right" "_law_right" (top 33) "law_loomwright_k02_groups_told_over" 470 256
def NW:Ob:=λ P=>tu #[]
def On:Ob:=λ P=>tu #[(.str "_law_words" 548),(.str "_law_number" 549),(.str "_law_at" 550),(.str "_law_word_here" 551),(.str "_law_some" 552)]
def P5:Ob:=λ P=>tu #[]
def Pm:Ob:=λ P=>co "_law_bent" "_law_bent" 545 173 2 3 258 true 259 (.ref 260) (.ref 261) (.ref 262) 553 554
def OO:Ob:=λ P=>fo "_law_bent" "_law_bent" (top 34) "law_loomwright_k02_groups_told_over" 470 263
def OX:Ob:=λ P=>tu #[]
def NH:Ob:=λ P=>tu #[(.str "_law_words" 559),(.str "_law_most" 560),(.str "_law_goods" 561),(.str "_law_wrong" 562),(.str "_law_told_here" 563),(.str "e" 564)]
def Od:Ob:=λ P=>tu #[(.str "_law_goods" 565)]
def P7:Ob:=λ P=>co "_law_told" "_law_told" 556 179 3 3 265 true 266 (.ref 267) (.ref 268) (.ref 269) 566 567
def Ox:Ob:=λ P=>fo "_law_told" "_law_told" (top 35) "law_loomwright_k02_groups_told_over" 470 270
def NX:Ob:=λ P=>tu #[]
def OC:Ob:=λ P=>tu #[(.str "_law_words" 572),(.str "_law_most" 573),(.str "_law_goods" 574),(.str "_law_fits" 575),(.str "_law_wrong" 576),(.str "e" 577)]
def PN:Ob:=λ P=>tu #[(.str "_law_goods" 578),(.str "_law_asked_here" 579)]
def OP:Ob:=λ P=>co "_law_asked" "_law_asked" 569 191 3 3 272 true 273 (.ref 274) (.ref 275) (.ref 276) 580 581
def OF:Ob:=λ P=>fo "_law_asked" "_law_asked" (top 36) "law_loomwright_k02_groups_told_over" 470 277
def NP:Ob:=λ P=>tu #[]
def NA:Ob:=λ P=>co "law" "law" 583 205 1 3 279 true 280 .none .none (.ref 281) 586 587
def Nw:Ob:=λ P=>fo "law" "law" (top 37) "law_loomwright_k02_groups_told_over" 470 282
def Qo (P:Params):List Obj:=OC P::PN P::OP P::OF P::NP P::NA P::Nw P::[]
def Qr (P:Params):List Obj:=Pd P::NW P::On P::P5 P::Pm P::OO P::OX P::NH P::Od P::P7 P::Ox P::NX P::Qo P
def Qn (P:Params):List Obj:=OB P::NR P::Nt P::Ow P::Qd P::N9 P::N1 P::PH P::PR P::PB P::OG P::OZ P::Qr P
def ob9 (P:Params):List Obj:=Pr P::NL P::Pz P::NJ P::Oo P::Ou P::Oa P::Pa P::OQ P::Ol P::Qj P::NO P::Qn P
def ob8 (P:Params):List Obj:=PF P::Qe P::Pn P::O5 P::Nu P::P1 P::Pu P::Nq P::P3 P::ND P::Ot P::Oy P::ob9 P
def ob7 (P:Params):List Obj:=PD P::Pf P::NK P::OI P::PU P::Nm P::NZ P::OU P::PP P::Qc P::N6 P::Py P::ob8 P
def ob6 (P:Params):List Obj:=Pi P::Nv P::Pl P::NT P::Pe P::Qb P::N7 P::P0 P::Qh P::P9 P::Oz P::Og P::ob7 P
def ob5 (P:Params):List Obj:=NC P::P8 P::ON P::N2 P::P4 P::Oq P::NB P::Pt P::OT P::Oi P::Pb P::NS P::ob6 P
def ob4 (P:Params):List Obj:=N4 P::Pg P::OL P::Os P::O6 P::PY P::Np P::NV P::Pw P::PV P::NI P::Ps P::ob5 P
def ob3 (P:Params):List Obj:=o94 P::o95 P::o97 P::o98 P::o99 P::Pq P::Nx P::O4 P::Oh P::Nz P::P2 P::OD P::ob4 P
def ob2 (P:Params):List Obj:=o63 P::o66 P::o73 P::o75 P::o76 P::o78 P::o79 P::o80 P::o81 P::o82 P::o85 P::o92 P::ob3 P
def ob1 (P:Params):List Obj:=o41 P::o42 P::o43 P::o44 P::o47 P::o54 P::o56 P::o57 P::o59 P::o60 P::o61 P::o62 P::ob2 P
def ob0 (P:Params):List Obj:=boot_o_2 P::o3 P::o15 P::o22 P::o23 P::o24 P::o25 P::o28 P::o35 P::o37 P::o38 P::o40 P::ob1 P
def frag (P:Params):Frag:=(nat_lit 2,boot_o_2 P)::(nat_lit 3,o3 P)::(nat_lit 15,o15 P)::(nat_lit 22,o22 P)::(nat_lit 23,o23 P)::(nat_lit 24,o24 P)::(nat_lit 25,o25 P)::(nat_lit 28,o28 P)::(nat_lit 35,o35 P)::(nat_lit 37,o37 P)::(nat_lit 38,o38 P)::(nat_lit 40,o40 P)::(nat_lit 41,o41 P)::(nat_lit 42,o42 P)::(nat_lit 43,o43 P)::(nat_lit 44,o44 P)::(nat_lit 47,o47 P)::(nat_lit 54,o54 P)::(nat_lit 56,o56 P)::(nat_lit 57,o57 P)::(nat_lit 59,o59 P)::(nat_lit 60,o60 P)::(nat_lit 61,o61 P)::(nat_lit 62,o62 P)::(nat_lit 63,o63 P)::(nat_lit 66,o66 P)::(nat_lit 73,o73 P)::(nat_lit 75,o75 P)::(nat_lit 76,o76 P)::(nat_lit 78,o78 P)::(nat_lit 79,o79 P)::(nat_lit 80,o80 P)::(nat_lit 81,o81 P)::(nat_lit 82,o82 P)::(nat_lit 85,o85 P)::(nat_lit 92,o92 P)::(nat_lit 94,o94 P)::(nat_lit 95,o95 P)::(nat_lit 97,o97 P)::(nat_lit 98,o98 P)::(nat_lit 99,o99 P)::(nat_lit 100,Pq P)::(nat_lit 101,Nx P)::(nat_lit 104,O4 P)::(nat_lit 111,Oh P)::(nat_lit 113,Nz P)::(nat_lit 114,P2 P)::(nat_lit 116,OD P)::(nat_lit 117,N4 P)::(nat_lit 118,Pg P)::(nat_lit 119,OL P)::(nat_lit 120,Os P)::(nat_lit 123,O6 P)::(nat_lit 130,PY P)::(nat_lit 131,Np P)::(nat_lit 132,NV P)::(nat_lit 135,Pw P)::(nat_lit 142,PV P)::(nat_lit 143,NI P)::(nat_lit 144,Ps P)::(nat_lit 147,NC P)::(nat_lit 154,P8 P)::(nat_lit 155,ON P)::(nat_lit 156,N2 P)::(nat_lit 159,P4 P)::(nat_lit 161,Oq P)::(nat_lit 162,NB P)::(nat_lit 164,Pt P)::(nat_lit 165,OT P)::(nat_lit 166,Oi P)::(nat_lit 168,Pb P)::(nat_lit 169,NS P)::(nat_lit 171,Pi P)::(nat_lit 172,Nv P)::(nat_lit 173,Pl P)::(nat_lit 176,NT P)::(nat_lit 177,Pe P)::(nat_lit 178,Qb P)::(nat_lit 180,N7 P)::(nat_lit 181,P0 P)::(nat_lit 183,Qh P)::(nat_lit 184,P9 P)::(nat_lit 185,Oz P)::(nat_lit 187,Og P)::(nat_lit 188,PD P)::(nat_lit 190,Pf P)::(nat_lit 191,NK P)::(nat_lit 192,OI P)::(nat_lit 194,PU P)::(nat_lit 195,Nm P)::(nat_lit 197,NZ P)::(nat_lit 198,OU P)::(nat_lit 199,PP P)::(nat_lit 201,Qc P)::(nat_lit 202,N6 P)::(nat_lit 204,Py P)::(nat_lit 205,PF P)::(nat_lit 206,Qe P)::(nat_lit 208,Pn P)::(nat_lit 209,O5 P)::(nat_lit 211,Nu P)::(nat_lit 212,P1 P)::(nat_lit 213,Pu P)::(nat_lit 216,Nq P)::(nat_lit 217,P3 P)::(nat_lit 218,ND P)::(nat_lit 221,Ot P)::(nat_lit 222,Oy P)::(nat_lit 223,Pr P)::(nat_lit 225,NL P)::(nat_lit 226,Pz P)::(nat_lit 228,NJ P)::(nat_lit 229,Oo P)::(nat_lit 230,Ou P)::(nat_lit 232,Oa P)::(nat_lit 233,Pa P)::(nat_lit 235,OQ P)::(nat_lit 236,Ol P)::(nat_lit 237,Qj P)::(nat_lit 239,NO P)::(nat_lit 240,OB P)::(nat_lit 242,NR P)::(nat_lit 243,Nt P)::(nat_lit 244,Ow P)::(nat_lit 246,Qd P)::(nat_lit 247,N9 P)::(nat_lit 249,N1 P)::(nat_lit 250,PH P)::(nat_lit 251,PR P)::(nat_lit 253,PB P)::(nat_lit 254,OG P)::(nat_lit 256,OZ P)::(nat_lit 257,Pd P)::(nat_lit 258,NW P)::(nat_lit 260,On P)::(nat_lit 261,P5 P)::(nat_lit 263,Pm P)::(nat_lit 264,OO P)::(nat_lit 265,OX P)::(nat_lit 267,NH P)::(nat_lit 268,Od P)::(nat_lit 270,P7 P)::(nat_lit 271,Ox P)::(nat_lit 272,NX P)::(nat_lit 274,OC P)::(nat_lit 275,PN P)::(nat_lit 277,OP P)::(nat_lit 278,OF P)::(nat_lit 279,NP P)::(nat_lit 282,NA P)::(nat_lit 283,Nw P)::[]
def addrs:List Addr:=[2,3,15,22,23,24,25,28,35,37,38,40,41,42,43,44,47,54,56,57,59,60,61,62,63,66,73,75,76,78,79,80,81,82,85,92,94,95,97,98,99,100,101,104,111,113,114,116,117,118,119,120,123,130,131,132,135,142,143,144,147,154,155,156,159,161,162,164,165,166,168,169,171,172,173,176,177,178,180,181,183,184,185,187,188,190,191,192,194,195,197,198,199,201,202,204,205,206,208,209,211,212,213,216,217,218,221,222,223,225,226,228,229,230,232,233,235,236,237,239,240,242,243,244,246,247,249,250,251,253,254,256,257,258,260,261,263,264,265,267,268,270,271,272,274,275,277,278,279,282,283]
def fr0 (P:Params):Frag:=addrs.zip (ob0 P)
theorem Kn (P:Params):frag P=fr0 P:=by kernel_rfl
def view:Program:={ PySem.Challenge.pw_loomwright_k02_groups_told_over with main:={ PySem.Challenge.pw_loomwright_k02_groups_told_over.main with body:=[top 1,top 2,top 3,top 4,top 5,top 6,top 7,top 8,top 9,top 11,top 12,top 13,top 14,top 15,top 17,top 18,top 19,top 20,top 21,top 22,top 23,top 24,top 26,top 27,top 28,top 29,top 30,top 31,top 32,top 33,top 34,top 35,top 36,top 37] } }
abbrev Xt:Shared->Bool:=λ s=>xlAt view [] s&&recOk (RowW.records PySem.Challenge.rw_loomwright_k02_groups_told_over.row.toRowW) s
def tabs:List Addr:=[273,266]
theorem addrs_eq:∀ P:Params,addrs=(frag P).map (·.1):=λ _=>by kernel_rfl
abbrev hook:Hook:=kmHook frag addrs addrs_eq tabs
abbrev fuel:Nat:=5608
theorem Qi:(λ _=>true) (HX.topT treeTable view (aWorld 1) 0 none,view,fr0,PySem.Challenge.rw_loomwright_k02_groups_told_over)=true:=by k_qdec
theorem Qs (w:World) (os:OsState):(HX.topT treeTable PySem.Challenge.pw_loomwright_k02_groups_told_over w 11 (some (.ref 6)) fuel ⟨HX.bootT w.params,11,{},Array.mk [],boot_drawn,boot_toks,os⟩ (topStub PySem.Challenge.pw_loomwright_k02_groups_told_over)).map (λ s=>((staticsOk (importedModules PySem.Challenge.pw_loomwright_k02_groups_told_over.main.body) (boot_heap w.params) s.abs.heap&&namesBound PySem.Challenge.pw_loomwright_k02_groups_told_over s.abs.heap&&gensDone s.abs&&laidKept (boot_heap w.params) s.abs.heap),(addrs.map s.abs.heap.get?,tabs.map s.abs.heap.get?)))=some (true,((fr0 w.params).map λ p=>some p.2,tabs.map λ _=>some (tabObj #[]))):=by
  have _tw:=Qi;rw [PySem.W.Fast.te5923862056798008813,PySem.W.Fast.te2082073177150606992,PySem.W.Fast.te14364793385576792824,PySem.W.Fast.te9621378704136392807,PySem.W.Fast.te461847215256367993];kernel_rfl
theorem Qx (w:World) (os:OsState):(HX.topT treeTable PySem.Challenge.pw_loomwright_k02_groups_told_over w 11 (some (.ref 6)) fuel ⟨HX.bootT w.params,11,{},Array.mk [],boot_drawn,boot_toks,os⟩ (topStub PySem.Challenge.pw_loomwright_k02_groups_told_over)).map (λ s=>(openSeen view [] (importedModules PySem.Challenge.pw_loomwright_k02_groups_told_over.main.body) Xt true s.abs))=some (openGood view []):=by
  unfold Xt;rw [PySem.W.Fast.te5923862056798008813,PySem.W.Fast.te4187177175401517315,PySem.W.Fast.te2368527892694137696,PySem.W.Fast.te17348754343107190545,PySem.W.Fast.te11641302518496669523,PySem.W.Fast.te14364793385576792824,PySem.W.Fast.te9621378704136392807,PySem.W.Fast.te461847215256367993];kernel_rfl
theorem left:LeftO PySem.Challenge.pw_loomwright_k02_groups_told_over view [] Xt hook.obs hook.val fuel:=HX.left_run (by kernel_rfl) (by decide) (λ s=>by kernel_rfl) HX.hb λ w os=>by
  obtain ⟨s,r,l⟩:=Option.map_eq_some_iff.mp (Qs w os);obtain ⟨s2,r2,l2⟩:=Option.map_eq_some_iff.mp (Qx w os);cases r.symm.trans r2;rw [<-Kn] at l;exact ⟨s.abs,HX.topT_of r,HX.three l l2⟩
end K02
namespace L2
open PySem PySem.Spec PyProof.Rows
abbrev Key:=Sum Int Str
def EY:Key->Value->Bool
  | .inl k,v=>Value.isInt k v
  | .inr x,v=>Value.isStrOf x v
def Qt (w:World):Key->Int
  | .inl k=>hashInt k
  | .inr x=>hashStr w x
theorem Az:∀ {k:Key} {v:Value},EY k v=true->(∃ i t,k=Sum.inl i/\v=Value.int i t)\/(∃ x t,k=Sum.inr x/\v=Value.str x t)
  | .inl i,v,h=>by
    obtain ⟨t,e⟩:=Value.isInt_shape (k:=i) (v:=v) h;exact .inl ⟨i,t,rfl,e⟩
  | .inr x,v,h=>by
    obtain ⟨t,e⟩:=Value.isStrOf_shape (x:=x) (v:=v) h;exact .inr ⟨x,t,rfl,e⟩
theorem HY (i:Int) (t:Tok):EY (.inl i) (.int i t)=true:=by simp [EY,Value.isInt]
theorem Hz (x:Str) (t:Tok):EY (.inr x) (.str x t)=true:=by simp [EY,Value.isStrOf]
theorem MJ (a b:Int):decide ((Sum.inl a:Key)=Sum.inl b)=(a == b):=by
  by_cases e:a=b
  · subst e;simp
  · have h:¬ (Sum.inl a:Key)=Sum.inl b:=λ q=>e (Sum.inl.inj q);rw [decide_eq_false h];exact (beq_eq_false_iff_ne.mpr e).symm
theorem MV (a b:Str):decide ((Sum.inr a:Key)=Sum.inr b)=decide (a=b):=by
  by_cases e:a=b
  · subst e;simp
  · have h:¬ (Sum.inr a:Key)=Sum.inr b:=λ q=>e (Sum.inr.inj q);rw [decide_eq_false h,decide_eq_false e]
theorem MB (a:Int) (b:Str):decide ((Sum.inl a:Key)=Sum.inr b)=false:=decide_eq_false (λ q=>nomatch q)
theorem Mv (a:Str) (b:Int):decide ((Sum.inr a:Key)=Sum.inl b)=false:=decide_eq_false (λ q=>nomatch q)
def AA (prog:Program) (w:World):PySem.KeyKind prog w Key where
  is:=EY
  hash:=Qt w
  inj:=λ v a b ha hb=>by
    rcases Az ha with ⟨i,t,rfl,rfl⟩ | ⟨x,t,rfl,rfl⟩
    · rcases Az hb with ⟨j,u,rfl,e⟩ | ⟨y,u,rfl,e⟩
      · injection e with e1 _;rw [e1]
      · exact nomatch e
    · rcases Az hb with ⟨j,u,rfl,e⟩ | ⟨y,u,rfl,e⟩
      · exact nomatch e
      · injection e with e1 _;rw [e1]
  byValue:=λ k v h=>by
    rcases Az h with ⟨i,t,rfl,rfl⟩ | ⟨x,t,rfl,rfl⟩ <;> rfl
  pyHash:=λ hv h=>by
    rcases Az hv with ⟨i,t,rfl,rfl⟩ | ⟨x,t,rfl,rfl⟩
    · exact wpAny_pyHash_int h
    · exact wpAny_pyHash_str h
  eqBool:=λ hu hv h=>by
    rcases Az hu with ⟨i,t,rfl,rfl⟩ | ⟨x,t,rfl,rfl⟩
    · rcases Az hv with ⟨j,u,rfl,rfl⟩ | ⟨y,u,rfl,rfl⟩
      · rw [MJ] at h;exact wpAny_eqBool_int h
      · rw [MB] at h;exact SeqAt.EqAt.int_str i t y u _ _ _ _ h
    · rcases Az hv with ⟨j,u,rfl,rfl⟩ | ⟨y,u,rfl,rfl⟩
      · rw [Mv] at h;exact SeqAt.EqAt.str_int x t j u _ _ _ _ h
      · rw [MV] at h;exact wpAny_eqBool_str h
  «strs» := λ k x t v h=>by
    rcases Az h with ⟨i,u,rfl,e⟩ | ⟨y,u,rfl,e⟩
    · exact nomatch e
    · injection e with e1 _;subst e1;cases v <;> rfl
theorem Gs (prog:Program) (w:World) (i:Int) (t:Tok):(AA prog w).is (.inl i) (.int i t)=true:=HY i t
theorem Gv (prog:Program) (w:World) (x:Str) (t:Tok):(AA prog w).is (.inr x) (.str x t)=true:=Hz x t
inductive V where
  | non | bl (b:Bool) | int (i:Int) | str (x:Str) | byt (b:Array UInt8) | flt (b:UInt64) | ref (a:Addr) | ty (n:String)
  deriving DecidableEq
def RelV:V->Value->Prop
  | .non,u=>u=Value.none
  | .bl b,u=>u=Value.bool b
  | .int i,u=>∃ t,u=Value.int i t
  | .str x,u=>∃ t,u=Value.str x t
  | .byt b,u=>∃ t,u=Value.bytes b t
  | .flt b,u=>∃ t,u=Value.float b t
  | .ref a,u=>u=Value.ref a
  | .ty n,u=>u=Value.type n
abbrev Vals:List V->List Value->Prop:=Paired RelV
theorem Vals.length {xs:List V} {us:List Value} (r:Vals xs us):xs.length=us.length:=Paired.length r
theorem Vals.get:∀ {xs:List V} {us:List Value} {i:Nat} {x:V},Vals xs us->xs[i]?=some x->∃ u,us[i]?=some u/\RelV x u
  | _,_,_,_, .nil,e=>by simp at e
  | _,_,0,_, .cons r _,e=>by simp at e;subst e;exact ⟨_,rfl,r⟩
  | _,_,i+1,x, .cons _ t,e=>by
    obtain ⟨u,h1,h2⟩:=Vals.get (i:=i) (x:=x) t (by simpa using e);exact ⟨u,by simpa using h1,h2⟩
theorem Vals.set {x:V} {u:Value} (r:RelV x u):∀ {xs:List V} {us:List Value} (i:Nat),Vals xs us->Vals (xs.set i x) (us.set i u)
  | _,_,_, .nil=> .nil
  | _,_,0, .cons _ t=> .cons r t
  | _,_,i+1, .cons q t=> .cons q (Vals.set r i t)
theorem Vals.append:∀ {xs ys:List V} {us ws:List Value},Vals xs us->Vals ys ws->Vals (xs++ys) (us++ws)
  | _,_,_,_, .nil,s=>s
  | _,_,_,_, .cons r t,s=> .cons r (Vals.append t s)
theorem Vals.take:∀ {xs:List V} {us:List Value} (n:Nat),Vals xs us->Vals (xs.take n) (us.take n)
  | _,_,0,_=> .nil
  | _,_,_+1, .nil=> .nil
  | _,_,n+1, .cons r t=> .cons r (Vals.take n t)
theorem Vals.drop:∀ {xs:List V} {us:List Value} (n:Nat),Vals xs us->Vals (xs.drop n) (us.drop n)
  | _,_,0,r=>r
  | _,_,_+1, .nil=> .nil
  | _,_,n+1, .cons _ t=>Vals.drop n t
def RelO:Option V->Option Value->Prop
  | some v,some u=>RelV v u
  | none,none=>True
  | _,_=>False
def KV {κ:Type}:List (κ × V)->List (κ × Value)->Prop:=Paired λ (p:κ × V) (q:κ × Value)=>p.1=q.1/\RelV p.2 q.2
def kV:Key->V
  | .inl i=> .int i
  | .inr x=> .str x
inductive HO where
  | lst (xs:List V)
  | tup (xs:List V)
  | dK (kvs:List (Key × V)) | dT (kvs:List (List Key × V))
  | set (S:Int->Bool) (n:Nat)
  | ins (C dx:Addr) (fs:List (Str × V))
  | own (x:Addr)
  | xd (fs:List (Str × V))
  | met (f x:Addr)
  | rng (lo hi:Int)
  | frz (o:Obj) (u:HO)
  | tbl (ps:Array Value)
  | ext (φ:Heap->Prop)
abbrev Hp:=Addr->Option HO
def upd (H:Hp) (a:Addr) (o:HO):Hp:=λ b=>if b=a then some o else H b
theorem Ab {H:Hp} {a:Addr} {o:HO}:upd H a o a=some o:=by unfold upd;rw [if_pos rfl]
theorem Ai {H:Hp} {a b:Addr} {o:HO} (h:b≠a):upd H a o b=H b:=by unfold upd;rw [if_neg h]
theorem J9 {H:Hp} {a b:Addr} {o u:HO} (h:H a=some o) (h':H b=some u) (d:o≠u):a≠b:=by
  intro e;subst e;rw [h] at h';exact d (Option.some.inj h')
theorem AU {H:Hp} {a b:Addr} {o:HO} (h:H a=some o) (h':H b=none):a≠b:=by
  intro e;subst e;rw [h] at h';cases h'
section
variable (P:Program) (w:World)
def ObjOk (H:Hp) (h:Heap) (a:Addr):HO->Prop
  | .lst xs=>xs.length<=sizeLine/\∃ (its:List Value) (n:Nat),Vals xs its/\h.get? a=some { cls:= .type "list",data:= .seq its.toArray n }
  | .tup xs=>xs.length<=sizeLine/\∃ its:List Value,Vals xs its/\IsTup h a its.toArray
  | .dK kvs=>kvs.length<=sizeLine/\(a == sysModules)=false/\∃ vs,KV kvs vs/\h.DictOf (AA P w) a vs
  | .dT kvs=>kvs.length<=sizeLine/\(a == sysModules)=false/\∃ xs:List (List Key × Addr × Value),
      Paired (λ (p:List Key × V) (q:List Key × Addr × Value)=>p.1=q.1/\H q.2.1=some (.tup (p.1.map kV))/\RelV p.2 q.2.2) kvs xs/\
      ∃ o es ep,h.get? a=some o/\o.ExactDict/\o.data= .dict es ep/\es.toList=xs.map (entryOfKey (tupleKind (AA P w)))/\(xs.map (·.1)).Nodup
  | .set S n=>h.SetOf (intKind P w) a S n
  | .ins C dx fs=>H dx=some (.own a)/\fs.length<=1000/\dx≠a/\h.get? a=some (PySem.W.instObj C dx)/\
      ∃ mA,h.Ns1 dx mA/\(∀ f,RelO (fs.lookup f) (mA f))/\PySem.Within mA (fs.map (·.1))
  | .own _=>∃ o,h.get? a=some o
  | .xd fs=>∃ mA,h.Ns1 a mA/\∀ f,RelO (fs.lookup f) (mA f)
  | .rng lo hi=>∃ t u v,h.get? a=some { cls:= .type "range",data:= .fields #[.int lo t, .int hi u, .int 1 v] }
  | .frz o u=>h.get? a=some o/\ObjOk H h a u
  | .tbl ps=>h.get? a=some { cls:= .none,data:= .fields ps }
  | .met f x=>h.get? a=some (PySem.W.methodObj (.ref f) (.ref x))
  | .ext φ=>φ h/\(∃ o,h.get? a=some o)/\∀ h1 h2:Heap,φ h1->(∀ o,h1.get? a=some o->h2.get? a=some o)->φ h2
def HOk (H:Hp) (h:Heap):Prop:=∀ a o,H a=some o->ObjOk P w H h a o
end
section
variable {P:Program} {w:World} {H H':Hp} {h h':Heap} {a:Addr} {o:HO}
theorem ObjOk.lt (x:ObjOk P w H h a o):a<h.objs.size:=by
  cases o with
  | lst xs=>obtain ⟨_,_,_,_,e⟩:=x;exact Heap.lt_size e
  | tup xs=>obtain ⟨_,_,_,p⟩:=x;exact p.lt
  | dK kvs=>obtain ⟨_,_,_,_,o,_,_,e,_⟩:=x;exact Heap.lt_size e
  | dT kvs=>obtain ⟨_,_,_,_,o,_,_,e,_⟩:=x;exact Heap.lt_size e
  | set S n=>obtain ⟨o,_,_,_,e,_⟩:=x;exact Heap.lt_size e
  | ins C dx fs=>obtain ⟨_,_,_,e,_⟩:=x;exact Heap.lt_size e
  | own y=>obtain ⟨_,e⟩:=x;exact Heap.lt_size e
  | xd fs=>obtain ⟨_,⟨_,_,_,e,_⟩,_⟩:=x;exact Heap.lt_size e
  | rng lo hi=>obtain ⟨_,_,_,e⟩:=x;exact Heap.lt_size e
  | frz ob u=>obtain ⟨e,_⟩:=x;exact Heap.lt_size e
  | tbl ps=>exact Heap.lt_size (show h.get? a=some _ from x)
  | met f y=>exact Heap.lt_size (show h.get? a=some _ from x)
  | ext φ=>obtain ⟨_,⟨_,e⟩,_⟩:=x;exact Heap.lt_size e
theorem Paired.mapP {α β:Type} {F G:α->β->Prop}:∀ {l₁:List α} {l₂:List β},Paired F l₁ l₂->(∀ a b,F a b->G a b)->Paired G l₁ l₂
  | _,_, .nil,_=> .nil
  | _,_, .cons r t,f=> .cons (f _ _ r) (Paired.mapP t f)
theorem ObjOk.stay (x:ObjOk P w H h a o) (k:∀ b u,(b=a\/H b=some (.own a))->h.get? b=some u->h'.get? b=some u)
    (ho:∀ b,H b=some (.own a)->H' b=some (.own a)) (ht:∀ b xs,H b=some (.tup xs)->H' b=some (.tup xs)):ObjOk P w H' h' a o:=by
  induction o with
  | lst xs=>obtain ⟨z,its,n,r,e⟩:=x;exact ⟨z,its,n,r,k _ _ (.inl rfl) e⟩
  | tup xs=>obtain ⟨z,its,r,ob,e,c⟩:=x;exact ⟨z,its,r,ob,k _ _ (.inl rfl) e,c⟩
  | dK kvs=>obtain ⟨z,y,vs,r,ob,es,ep,e,c⟩:=x;exact ⟨z,y,vs,r,ob,es,ep,k _ _ (.inl rfl) e,c⟩
  | dT kvs=>
    obtain ⟨z,y,xs,r,ob,es,ep,e,c⟩:=x;exact ⟨z,y,xs,Paired.mapP r λ p q z=>⟨z.1,ht _ _ z.2.1,z.2.2⟩,ob,es,ep,k _ _ (.inl rfl) e,c⟩
  | set S n=>obtain ⟨ob,es,ep,t,e,c⟩:=x;exact ⟨ob,es,ep,t,k _ _ (.inl rfl) e,c⟩
  | ins C dx fs=>
    obtain ⟨d,z,ne,e,mA,⟨od,es,ep,e2,c⟩,r⟩:=x;exact ⟨ho _ d,z,ne,k _ _ (.inl rfl) e,mA,⟨od,es,ep,k _ _ (.inr d) e2,c⟩,r⟩
  | own y=>obtain ⟨ob,e⟩:=x;exact ⟨ob,k _ _ (.inl rfl) e⟩
  | xd fs=>obtain ⟨mA,⟨od,es,ep,e,c⟩,r⟩:=x;exact ⟨mA,⟨od,es,ep,k _ _ (.inl rfl) e,c⟩,r⟩
  | rng lo hi=>obtain ⟨t,u,v,e⟩:=x;exact ⟨t,u,v,k _ _ (.inl rfl) e⟩
  | frz ob u ih=>obtain ⟨e,q⟩:=x;exact ⟨k _ _ (.inl rfl) e,ih q⟩
  | tbl ps=>
    have e:h.get? a=some { cls:= .none,data:= .fields ps }:=x;show h'.get? a=some { cls:= .none,data:= .fields ps };exact k a _ (.inl rfl) e
  | met f y=>
    have e:h.get? a=some (PySem.W.methodObj (.ref f) (.ref y)):=x;show h'.get? a=some (PySem.W.methodObj (.ref f) (.ref y));exact k a _ (.inl rfl) e
  | ext φ=>obtain ⟨p,⟨o,e⟩,st⟩:=x;exact ⟨st _ _ p λ o q=>k _ _ (.inl rfl) q,⟨o,k _ _ (.inl rfl) e⟩,st⟩
theorem HOk.lt (x:HOk P w H h) (e:H a=some o):a<h.objs.size:=(x a o e).lt
theorem HOk.fresh (x:HOk P w H h) (e:h.objs.size<=a):H a=none:=by
  cases q:H a with
  | none=>rfl
  | some u=>exact absurd (Nat.lt_of_lt_of_le (x.lt q) e) (Nat.lt_irrefl _)
theorem HOk.kept (x:HOk P w H h) (k:∀ b u,h.get? b=some u->h'.get? b=some u):HOk P w H h':=λ a o e=>
  (x a o e).stay (λ b u _ q=>k b u q) (λ _ q=>q) λ _ _ q=>q
theorem HOk.laid (x:HOk P w H h) (k:∀ b u,h.get? b=some u->h'.get? b=some u) (hp:h.objs.size<=a) (new:ObjOk P w (upd H a o) h' a o):HOk P w (upd H a o) h':=λ b u e=>by
  have hn:=x.fresh hp;by_cases hb:b=a
  · subst hb;rw [Ab] at e;cases e;exact new
  · rw [Ai hb] at e;exact (x b u e).stay (λ c v _ q=>k c v q) (λ c q=>by rw [Ai (AU q hn)];exact q) λ c xs q=>by rw [Ai (AU q hn)];exact q
end
def Rd (H:Hp) (a:Addr) (u:HO):Prop:=H a=some u\/∃ o,H a=some (.frz o u)
theorem Rd.of {H:Hp} {a:Addr} {u:HO} (h:H a=some u):Rd H a u:= .inl h
theorem Rd.ok {P:Program} {w:World} {H:Hp} {h:Heap} {a:Addr} {u:HO} (r:Rd H a u) (x:HOk P w H h):ObjOk P w H h a u:=by
  rcases r with r | ⟨o,r⟩
  · exact x a u r
  · obtain ⟨_,q⟩:=x a _ r;exact q
def Mut:Option HO->Prop
  | some (.lst _)=>True
  | some (.dK _)=>True
  | some (.dT _)=>True
  | some (.set _ _)=>True
  | some (.ins _ _ _)=>True
  | some (.ext _)=>True
  | _=>False
section
variable {P:Program} {w:World} {H:Hp} {h h':Heap} {x e:Addr} {o':HO}
theorem HOk.write (ok:HOk P w H h) (mu:Mut (H x)) (he:e=x\/H e=some (.own x)) (k:∀ b u,b≠e->h.get? b=some u->h'.get? b=some u) (heo:∃ u,h'.get? e=some u)
    (new:ObjOk P w (upd H x o') h' x o'):HOk P w (upd H x o') h':=λ b u q=>by
  have nown:∀ c y,H c=some (.own y)->c≠x:=λ c y r z=>by subst z;rw [r] at mu;exact mu
  have ntup:∀ c xs,H c=some (.tup xs)->c≠x:=λ c xs r z=>by subst z;rw [r] at mu;exact mu
  by_cases hb:b=x
  · subst hb;rw [Ab] at q;cases q;exact new
  · rw [Ai hb] at q;by_cases hbe:b=e
    · have q':H b=some (.own x):=by
        rcases he with z | z
        · exact absurd (hbe.trans z) hb
        · rw [hbe];exact z
      rw [q] at q';cases q';obtain ⟨v,hv⟩:=heo;exact ⟨v,by rw [hbe];exact hv⟩
    · refine (ok b u q).stay (λ c v hc r=>k c v ?_ r) (λ c r=>by rw [Ai (nown c b r)];exact r) λ c xs r=>by rw [Ai (ntup c xs r)];exact r
      rcases hc with rfl | hc
      · exact hbe
      · rintro rfl;rcases he with z | z
        · exact nown c b hc z
        · rw [hc] at z;cases z;exact hb rfl
end
structure Un (fs ex:List Addr) (H H':Hp) (h h':Heap):Prop where
  keep:∀ b o,h.get? b=some o->H b=none->b∉fs->b∉ex->h'.get? b=some o
  slot:∀ b o,h.get? b=some o->H b=none->b∈fs->b∉ex->∃ sl,h'.get? b=some { o with slots:=sl }
  free:∀ b o,h.get? b=some o->H b=none->b∉ex->H' b=none
  there:∀ b o,h.get? b=some o->b∉ex->∃ o',h'.get? b=some o'
  tups:∀ b xs,H b=some (.tup xs)->H' b=some (.tup xs)
  frzs:∀ b o u,H b=some (.frz o u)->H' b=some (.frz o u)
  tbls:∀ b ps,H b=some (.tbl ps)->∃ more,H' b=some (.tbl (ps++more))
section
variable {fs fs' ex ex':List Addr} {H H1 H2:Hp} {h h1 h2 h':Heap} {a x e:Addr} {o:HO}
theorem Un.any (u:Un fs ex H H1 h h1) {b:Addr} {ob:Obj} (q:h.get? b=some ob) (n:H b=none) (hx:b∉ex):∃ sl,h1.get? b=some { ob with slots:=sl }:=by
  by_cases hb:b∈fs
  · exact u.slot b ob q n hb hx
  · exact ⟨ob.slots,u.keep b ob q n hb hx⟩
theorem Un.trans (a:Un fs ex H H1 h h1) (b:Un fs ex H1 H2 h1 h2):Un fs ex H H2 h h2 where
  keep:=λ c ob q n hc hx=>b.keep c ob (a.keep c ob q n hc hx) (a.free c ob q n hx) hc hx
  slot:=λ c ob q n hc hx=>by
    obtain ⟨sl,e1⟩:=a.slot c ob q n hc hx;obtain ⟨sl',e2⟩:=b.slot c _ e1 (a.free c ob q n hx) hc hx;exact ⟨sl',e2⟩
  free:=λ c ob q n hx=>by
    obtain ⟨o',e1⟩:=a.there c ob q hx;exact b.free c o' e1 (a.free c ob q n hx) hx
  there:=λ c ob q hx=>by
    obtain ⟨o',e1⟩:=a.there c ob q hx;exact b.there c o' e1 hx
  tups:=λ c xs q=>b.tups c xs (a.tups c xs q)
  frzs:=λ c ob xs q=>b.frzs c ob xs (a.frzs c ob xs q)
  tbls:=λ c ps q=>by
    obtain ⟨m1,e1⟩:=a.tbls c ps q;obtain ⟨m2,e2⟩:=b.tbls c _ e1;exact ⟨m1++m2,by rw [e2,Array.append_assoc]⟩
theorem Un.kept (k:∀ b u,h.get? b=some u->h'.get? b=some u):Un fs ex H H h h':=
  ⟨λ b ob q _ _ _=>k b ob q,λ b ob q _ _ _=>⟨ob.slots,k b ob q⟩,λ _ _ _ n _=>n,λ b ob q _=>⟨ob,k b ob q⟩,λ _ _ q=>q,λ _ _ _ q=>q,λ _ ps q=>⟨#[],by rw [q];simp⟩⟩
theorem Un.refl:Un fs ex H H h h:=Un.kept λ _ _ q=>q
theorem Un.laid (k:∀ b u,h.get? b=some u->h'.get? b=some u) (hp:h.objs.size<=a) (hn:H a=none):Un fs ex H (upd H a o) h h' where
  keep:=λ b u q _ _ _=>k b u q
  slot:=λ b u q _ _ _=>⟨u.slots,k b u q⟩
  free:=λ b u q n _=>by rw [Ai (Nat.ne_of_lt (Nat.lt_of_lt_of_le (Heap.lt_size q) hp))];exact n
  there:=λ b u q _=>⟨u,k b u q⟩
  tups:=λ b xs q=>by rw [Ai (AU q hn)];exact q
  frzs:=λ b u xs q=>by rw [Ai (AU q hn)];exact q
  tbls:=λ b ps q=>⟨#[],by rw [Ai (AU q hn),q];simp⟩
theorem Un.write (mu:Mut (H x)) (he:e=x\/H e=some (.own x)) (k:∀ b u,b≠e->h.get? b=some u->h'.get? b=some u) (heo:∃ u,h'.get? e=some u):Un fs ex H (upd H x o) h h':=by
  have hx:∀ b,H b=none->b≠x:=λ b n z=>by subst z;rw [n] at mu;exact mu
  have hb:∀ b,H b=none->b≠e:=λ b n z=>by
    subst z;rcases he with r | r
    · exact hx b n r
    · rw [n] at r;cases r
  have hm:∀ b u,H b=some u->¬ Mut (some u)->b≠x:=λ b u q nm z=>by subst z;rw [q] at mu;exact nm mu
  refine ⟨λ b u q n _ _=>k b u (hb b n) q,λ b u q n _ _=>⟨u.slots,k b u (hb b n) q⟩,λ b u q n _=>by rw [Ai (hx b n)];exact n,λ b u q _=> ?_,
    λ b xs q=>by rw [Ai (hm b _ q λ z=>z)];exact q,λ b u xs q=>by rw [Ai (hm b _ q λ z=>z)];exact q,λ b ps q=>⟨#[],by rw [Ai (hm b _ q λ z=>z),q];simp⟩⟩
  by_cases hbe:b=e
  · subst hbe;exact heo
  · exact ⟨u,k b u hbe q⟩
end
def trk (h:Heap) (H:Hp):List Addr:=(List.range h.objs.size).filter λ a=>(H a).isSome
def FG (h:Heap) (H:Hp):Heap:=PySem.W.hideAll h (trk h H)
theorem HZ (h:Heap) (H:Hp):(FG h H).objs.size=h.objs.size:=PySem.W.hideAll_size _ _
theorem Ej {h:Heap} {H:Hp} {b:Addr} {o:Obj} (e:h.get? b=some o) (n:H b=none):(FG h H).get? b=some o:=
  PySem.W.hideAll_get _ e λ hm=>by
    have q:(H b).isSome=true:=(List.mem_filter.mp hm).2;rw [n] at q;simp at q
theorem KM {h:Heap} {H:Hp} {b:Addr} {o:Obj} (e:(FG h H).get? b=some o):h.get? b=some o/\H b=none:=by
  have e':h.get? b=some o:=PySem.W.of_hideAll (trk h H) e;refine ⟨e',?_⟩;cases q:H b with
  | none=>rfl
  | some x=>
    have hm:b∈trk h H:=List.mem_filter.mpr ⟨List.mem_range.mpr (Heap.lt_size e'),by simp [q]⟩;have z:(FG h H).get? b=none:=PySem.W.hideAll_none (trk h H) hm;rw [z] at e;cases e
def KY (g h:Heap) (L:Addr):List (Addr × Obj):=(List.range h.objs.size).filterMap λ a=>if a=L\/(g.get? a).isSome=true then none else (h.get? a).map λ o=>(a,o)
def rest (g h:Heap) (L d:Addr):List (Addr × Obj):=(KY g h L).filter λ p=>decide (p.1≠d)
structure Mod (K:PySem.W.Frag) (mg:Str->Option Value) (base:Heap):Prop where
  kin:K.In base
  glob:base.Ns mainGlobals mg
  blt:∃ mb,base.Ns builtinsNs mb/\∀ x:Str,x≠"__name__"->mb x=bootBuiltins x
  nolimit:base.NoLimit
structure Cx where
  prog:Program
  w:World
  K:PySem.W.Frag
  mg:Str->Option Value
  base:Heap
  A:Around
  N:List Str
  s₀:Shared
  H₀:Hp
  env:Env
  outer:List Env
  stack:List Env
  ex:List Addr
  fn:Str->Bool
  calm:Bool
  pn:List (Addr × Obj)
  xe:Value->Shared->Prop
def frs (l:List Env):List Addr:=l.filterMap (·.frame)
abbrev Cx.fs (X:Cx):List Addr:=frs X.outer
def Vis (sc:Scope) (x:Str):Prop:=sc.names.lookup x=some .local\/sc.names.lookup x=some .cell\/sc.names.lookup x=some .free
def Loc (sc:Scope) (x:Str):Prop:=sc.names.lookup x=some .local\/sc.names.lookup x=some .cell
def Qv (env:Env) (h:Heap) (m:Str->Option Value) (x:Str) (u:Value):Prop:=
  (env.kindOf x=some .local/\m x=some u)\/((env.kindOf x=some .cell\/env.kindOf x=some .free)/\∃ c,env.cells.lookup x=some c/\h.IsCell c (some u))
structure Cx.Ok (X:Cx):Prop where
  mod:Mod X.K X.mg X.base
  kind:X.env.scope.kind= .function
  glob:X.env.globals=mainGlobals
  blt:X.env.builtins=builtinsNs
  above:X.s₀.heap.objs.size<=X.env.locals
  inj:∀ x y c,X.env.cells.lookup x=some c->X.env.cells.lookup y=some c->x=y
  has:∀ x,(X.env.kindOf x=some .cell\/X.env.kindOf x=some .free)->∃ c,X.env.cells.lookup x=some c
  cab:∀ x c,X.fn x=true->X.env.cells.lookup x=some c->X.s₀.heap.objs.size<=c
  hd:X.calm=true->X.A.handled=none
  frames:X.A.frames=some X.stack
  stk:X.stack=X.outer\/(X.stack=X.env::X.outer/\X.env.frame=some X.env.locals)
  exf:∀ b∈X.ex,b≠X.env.locals/\∀ x c,X.env.cells.lookup x=some c->c≠b
  bs:∀ b o,X.base.get? b=some o->X.s₀.heap.get? b=some o/\X.H₀ b=none
  bsz:X.base.objs.size<=X.s₀.heap.objs.size
  noex:∀ b o,X.base.get? b=some o->b∉X.ex
  exfs:∀ b∈X.ex,b∉X.fs
  funs:X.s₀.heap.FunFrames X.base X.outer
  frf:∀ b∈X.fs,X.H₀ b=none
structure Inv (X:Cx) (pins:List (Addr × Obj)) (σ:List (Option V)) (H:Hp) (s:Shared):Prop where
  ok:X.Ok
  os:s.os=X.s₀.os
  bare:AllBare s.gens
  base:Un X.fs X.ex X.H₀ H X.s₀.heap s.heap
  loc:∃ m,s.heap.Ns X.env.locals m/\∀ (i:Nat) (x:Str) (v:V),X.N[i]?=some x->σ[i]?=some (some v)->Vis X.env.scope x->∃ u,RelV v u/\Qv X.env s.heap m x u
  cell:∀ x c,X.env.cells.lookup x=some c->∃ v,s.heap.IsCell c v
  free:H X.env.locals=none
  freeC:∀ x c,X.env.cells.lookup x=some c->H c=none
  pin:∀ p∈X.pn++pins,s.heap.get? p.1=some p.2/\H p.1=none/\p.1≠X.env.locals/\p.1∉X.fs/\∀ v,p.2.data≠ .cell v
  hok:HOk X.prog X.w H s.heap
  len:σ.length=X.N.length
section
variable {X:Cx} {pins:List (Addr × Obj)} {σ:List (Option V)} {H H':Hp} {s:Shared} {h':Heap}
theorem Cx.Ok.nofr (ok:X.Ok) {b:Addr} {o:Obj} (e:X.base.get? b=some o):b∉X.fs:=λ hb=>by
  have:=(ok.funs.mem hb).1;rw [e] at this;cases this
theorem Inv.bs (I:Inv X pins σ H s):∀ b o,X.base.get? b=some o->s.heap.get? b=some o/\H b=none:=λ b o e=>
  ⟨I.base.keep b o (I.ok.bs b o e).1 (I.ok.bs b o e).2 (I.ok.nofr e) (I.ok.noex b o e),I.base.free b o (I.ok.bs b o e).1 (I.ok.bs b o e).2 (I.ok.noex b o e)⟩
theorem Inv.bk (I:Inv X pins σ H s):∀ b o,X.base.get? b=some o->s.heap.get? b=some o:=λ b o e=>(I.bs b o e).1
theorem Inv.mod (I:Inv X pins σ H s):Mod X.K X.mg X.base:=I.ok.mod
theorem Inv.kIn (I:Inv X pins σ H s):X.K.In s.heap:=I.ok.mod.kin.keeps I.bk
theorem Inv.fr (I:Inv X pins σ H s):∃ m,Fr X.base X.env.locals s.heap m:=
  let ⟨m,hn,_⟩:=I.loc
  ⟨m,hn,I.bk,Nat.le_trans I.ok.bsz I.ok.above⟩
theorem Inv.lt (I:Inv X pins σ H s):X.env.locals<s.heap.objs.size:=let ⟨_,hn,_⟩:=I.loc;hn.lt
theorem Inv.sz (I:Inv X pins σ H s):X.s₀.heap.objs.size<=s.heap.objs.size:=Nat.le_trans I.ok.above (Nat.le_of_lt I.lt)
theorem Inv.nofs (I:Inv X pins σ H s) {a:Addr} (h:s.heap.objs.size<=a):a∉X.fs:=λ hb=>by
  obtain ⟨_,o,ho,_⟩:=I.ok.funs.mem hb;exact absurd (Nat.lt_of_lt_of_le (Heap.lt_size ho) (Nat.le_trans I.sz h)) (Nat.lt_irrefl _)
theorem Inv.cne (I:Inv X pins σ H s):∀ x c,X.env.cells.lookup x=some c->c≠X.env.locals:=λ x c e z=>by
  obtain ⟨v,o,ho,hd⟩:=I.cell x c e;obtain ⟨m,⟨o',es,ep,ho',hd',_⟩,_⟩:=I.loc;rw [z,ho'] at ho;cases ho;rw [hd'] at hd;cases hd
theorem Inv.funs (I:Inv X pins σ H s):s.heap.FunFrames X.base X.outer:=by
  have all:∀ (l:List Env),(∀ b∈frs l,b∈X.fs)->X.s₀.heap.FunFrames X.base l->s.heap.FunFrames X.base l:=by
    intro l
    induction l with
    | nil=>intro _ _;trivial
    | cons env r ih=>
      intro hs hl;obtain ⟨hk,⟨L,o,hf,hn,ho,hd⟩,hr⟩:=hl;have hL:L∈X.fs:=hs L (by unfold frs;rw [List.filterMap_cons,hf];exact List.mem_cons_self);obtain ⟨sl,e⟩:=I.base.slot L o ho (I.ok.frf L hL) hL λ z=>I.ok.exfs L z hL;exact ⟨hk,⟨L,_,hf,hn,e,hd⟩,ih (λ b hb=>hs b (by unfold frs;rw [List.filterMap_cons,hf];exact List.mem_cons_of_mem _ hb)) hr⟩
  exact all X.outer (λ _ hb=>hb) I.ok.funs
theorem Inv.stack (I:Inv X pins σ H s):s.heap.FunFrames X.base X.stack:=by
  rcases I.ok.stk with e | ⟨e,hf⟩
  · rw [e];exact I.funs
  · rw [e];obtain ⟨m,hn,_⟩:=I.loc;refine .cons (by rw [I.ok.kind];decide) hf hn ?_ I.funs;exact Heap.get?_none_of_le (Nat.le_trans I.ok.bsz I.ok.above)
theorem Inv.stkSub (I:Inv X pins σ H s):∀ b∈frs X.stack,b∈X.env.locals::X.fs:=λ b hb=>by
  rcases I.ok.stk with e | ⟨e,hf⟩
  · rw [e] at hb;exact List.mem_cons_of_mem _ hb
  · rw [e] at hb;unfold frs at hb;rw [List.filterMap_cons,hf] at hb;exact hb
theorem Inv.stkFree (I:Inv X pins σ H s):∀ b∈frs X.stack,H b=none:=λ b hb=>by
  rcases List.mem_cons.mp (I.stkSub b hb) with e | hb
  · rw [e];exact I.free
  · obtain ⟨_,o,ho,_⟩:=I.ok.funs.mem hb;exact I.base.free b o ho (I.ok.frf b hb) λ z=>I.ok.exfs b z hb
theorem Inv.step {g':Array GenState} {t':Nat} {d':Drawn} {ch:List Addr} (I:Inv X pins σ H s)
    (hch:∀ b∈ch,(b∈X.ex\/X.s₀.heap.objs.size<=b)/\b≠X.env.locals/\(∀ x c,X.env.cells.lookup x=some c->c≠b)/\∀ p∈X.pn++pins,p.1≠b)
    (keep:∀ b o,b≠X.env.locals->b∉X.fs->b∉ch->s.heap.get? b=some o->H b=none->h'.get? b=some o)
    (slot:∀ b o,b≠X.env.locals->b∈X.fs->b∉ch->s.heap.get? b=some o->H b=none->∃ sl,h'.get? b=some { o with slots:=sl }) (free:∀ b o,b∉ch->s.heap.get? b=some o->H b=none->H' b=none)
    (there:∀ b o,b∉ch->s.heap.get? b=some o->∃ o',h'.get? b=some o')
    (tups:∀ b xs,H b=some (.tup xs)->H' b=some (.tup xs)) (frzs:∀ b o u,H b=some (.frz o u)->H' b=some (.frz o u)) (tbls:∀ b ps,H b=some (.tbl ps)->∃ more,H' b=some (.tbl (ps++more)))
    (ns:∀ m,s.heap.Ns X.env.locals m->h'.Ns X.env.locals m) (hok:HOk X.prog X.w H' h') (hg:AllBare g'):
    Inv X pins σ H' { s with heap:=h',gens:=g',drawn:=d',toks:=t' }:=by
  have neL:∀ b o,X.s₀.heap.get? b=some o->b≠X.env.locals:=λ b o e=>Nat.ne_of_lt (Nat.lt_of_lt_of_le (Heap.lt_size e) I.ok.above);have neC:∀ b o,X.s₀.heap.get? b=some o->b∉X.ex->b∉ch:=λ b o e hx hb=>by
    rcases (hch b hb).1 with z | z
    · exact hx z
    · exact absurd (Nat.lt_of_lt_of_le (Heap.lt_size e) z) (Nat.lt_irrefl _)
  have cellK:∀ x c,X.env.cells.lookup x=some c->∀ v,s.heap.IsCell c v->h'.IsCell c v:=λ x c e v ⟨o,ho,hd⟩=>by
    have nch:c∉ch:=λ z=>(hch c z).2.2.1 x c e rfl;by_cases hc:c∈X.fs
    · obtain ⟨sl,q⟩:=slot c o (I.cne x c e) hc nch ho (I.freeC x c e);exact ⟨_,q,hd⟩
    · exact ⟨o,keep c o (I.cne x c e) hc nch ho (I.freeC x c e),hd⟩
  refine ⟨I.ok,I.os,hg,⟨λ b o e n hb hx=> ?_,λ b o e n hb hx=> ?_,λ b o e n hx=> ?_,λ b o e hx=> ?_,λ b xs e=>tups b xs (I.base.tups b xs e),λ b o xs e=>frzs b o xs (I.base.frzs b o xs e),λ b ps e=> ?_⟩,?_,λ x c e=> ?_,?_,λ x c e=> ?_,λ p hp=> ?_,hok,I.len⟩
  · exact keep b o (neL b o e) hb (neC b o e hx) (I.base.keep b o e n hb hx) (I.base.free b o e n hx)
  · obtain ⟨sl,e1⟩:=I.base.slot b o e n hb hx;obtain ⟨sl',e2⟩:=slot b _ (neL b o e) hb (neC b o e hx) e1 (I.base.free b o e n hx);exact ⟨sl',e2⟩
  · obtain ⟨o',e1⟩:=I.base.there b o e hx;exact free b o' (neC b o e hx) e1 (I.base.free b o e n hx)
  · obtain ⟨o',e1⟩:=I.base.there b o e hx;exact there b o' (neC b o e hx) e1
  · obtain ⟨m1,e1⟩:=I.base.tbls b ps e;obtain ⟨m2,e2⟩:=tbls b _ e1;exact ⟨m1++m2,by rw [e2,Array.append_assoc]⟩
  · obtain ⟨m,hn,hl⟩:=I.loc;refine ⟨m,ns m hn,λ i x v e1 e2 e3=> ?_⟩;obtain ⟨u,r,l⟩:=hl i x v e1 e2 e3;refine ⟨u,r,?_⟩;rcases l with l | ⟨k,c,e,z⟩
    · exact .inl l
    · exact .inr ⟨k,c,e,cellK x c e _ z⟩
  · obtain ⟨v,z⟩:=I.cell x c e;exact ⟨v,cellK x c e v z⟩
  · obtain ⟨m,⟨o,_,_,ho,_⟩,_⟩:=I.loc;exact free _ o (λ z=>(hch _ z).2.1 rfl) ho I.free
  · obtain ⟨v,o,ho,hd⟩:=I.cell x c e;exact free c o (λ z=>(hch c z).2.2.1 x c e rfl) ho (I.freeC x c e)
  · obtain ⟨e,n,ne,nf,d⟩:=I.pin p hp;have nch:p.1∉ch:=λ z=>(hch p.1 z).2.2.2 p hp rfl;exact ⟨keep p.1 p.2 ne nf nch e n,free p.1 p.2 nch e n,ne,nf,d⟩
theorem Inv.un {t':Nat} (I:Inv X pins σ H s) (u:Un X.fs [] H H' s.heap h') (hok:HOk X.prog X.w H' h'):Inv X pins σ H' { s with heap:=h',toks:=t' }:=by
  obtain ⟨m,⟨o,es,ep,ho,r⟩,_⟩:=id I.loc;obtain ⟨sl,hL⟩:=u.any ho I.free (by simp);exact I.step (g':=s.gens) (d':=s.drawn) (ch:=[]) (λ _ z=>nomatch z) (λ b o _ hb _ e n=>u.keep b o e n hb (by simp)) (λ b o _ hb _ e n=>u.slot b o e n hb (by simp)) (λ b o _ e n=>u.free b o e n (by simp)) (λ b o _ e=>u.there b o e (by simp)) u.tups u.frzs u.tbls (λ m' hm=>by
    obtain ⟨o',es',ep',ho',r'⟩:=hm;rw [ho] at ho';cases ho';exact ⟨_,es',ep',hL,r'⟩) hok I.bare
theorem Inv.call {g':Array GenState} {t':Nat} {d':Drawn} {ch:List Addr} (I:Inv X pins σ H s) (u:Un (frs X.stack) ch H H' s.heap h') (hok:HOk X.prog X.w H' h') (hg:AllBare g')
    (hch:∀ b∈ch,(b∈X.ex\/X.s₀.heap.objs.size<=b)/\b≠X.env.locals/\(∀ x c,X.env.cells.lookup x=some c->c≠b)/\∀ p∈X.pn++pins,p.1≠b):
    Inv X pins σ H' { s with heap:=h',gens:=g',drawn:=d',toks:=t' }:=by
  obtain ⟨m,⟨o,es,ep,ho,r⟩,_⟩:=id I.loc;obtain ⟨sl,hL⟩:=u.any ho I.free λ z=>(hch _ z).2.1 rfl;exact I.step (ch:=ch) hch (λ b o hL hb hc e n=>u.keep b o e n (λ z=>(List.mem_cons.mp (I.stkSub b z)).elim hL hb) hc) (λ b o _ _ hc e n=>u.any e n hc) (λ b o hc e n=>u.free b o e n hc) (λ b o hc e=>u.there b o e hc) u.tups u.frzs u.tbls (λ m' hm=>by
    obtain ⟨o',es',ep',ho',r'⟩:=hm;rw [ho] at ho';cases ho';exact ⟨_,es',ep',hL,r'⟩) hok hg
theorem Inv.turned {t':Nat} {it:Addr} (I:Inv X pins σ H s) (k:∀ b o,b≠it->s.heap.get? b=some o->h'.get? b=some o) (hn:H it=none) (hL:it≠X.env.locals)
    (h1:it∈X.ex\/X.s₀.heap.objs.size<=it) (h2:∀ x c,X.env.cells.lookup x=some c->c≠it) (h3:∀ p∈X.pn++pins,p.1≠it):Inv X pins σ H { s with heap:=h',toks:=t' }:=by
  have nit:∀ b u,H b=some u->b≠it:=λ b u e z=>by rw [z,hn] at e;cases e
  refine I.step (g':=s.gens) (d':=s.drawn) (ch:=[it]) (λ b hb=> ?_) (λ b o _ _ hc e _=>k b o (λ z=>hc (by simp [z])) e) (λ b o _ _ hc e _=>⟨o.slots,k b o (λ z=>hc (by simp [z])) e⟩) (λ _ _ _ _ n=>n)
    (λ b o hc e=>⟨o,k b o (λ z=>hc (by simp [z])) e⟩) (λ _ _ e=>e) (λ _ _ _ e=>e) (λ b ps e=>⟨#[],by rw [e];simp⟩) (λ m hm=> ?_) (λ b u e=> ?_) I.bare
  · have e:b=it:=by simpa using hb
    subst e;exact ⟨h1,hL,h2,h3⟩
  · obtain ⟨o,es,ep,ho,r⟩:=hm;exact ⟨o,es,ep,k _ o (Ne.symm hL) ho,r⟩
  · refine (I.hok b u e).stay (λ c v hc q=>k c v ?_ q) (λ _ q=>q) λ _ _ q=>q;rcases hc with z | z
    · rw [z];exact nit b u e
    · exact nit c _ z
theorem Inv.tok (I:Inv X pins σ H s) (t:Nat):Inv X pins σ H { s with toks:=t }:=I.un (h':=s.heap) (t':=t) Un.refl I.hok
theorem Inv.kept {t':Nat} (I:Inv X pins σ H s) (k:∀ b u,s.heap.get? b=some u->h'.get? b=some u):Inv X pins σ H { s with heap:=h',toks:=t' }:=I.un (Un.kept k) (I.hok.kept k)
theorem Inv.laid {a:Addr} {o:HO} {t':Nat} (I:Inv X pins σ H s) (k:∀ b u,s.heap.get? b=some u->h'.get? b=some u) (hp:s.heap.objs.size<=a) (new:ObjOk X.prog X.w (upd H a o) h' a o):
    Inv X pins σ (upd H a o) { s with heap:=h',toks:=t' }:=I.un (Un.laid k hp (I.hok.fresh hp)) (I.hok.laid k hp new)
theorem Inv.write {x e:Addr} {o:HO} {t':Nat} (I:Inv X pins σ H s) (mu:Mut (H x)) (he:e=x\/H e=some (.own x)) (k:∀ b u,b≠e->s.heap.get? b=some u->h'.get? b=some u) (heo:∃ u,h'.get? e=some u)
    (new:ObjOk X.prog X.w (upd H x o) h' x o):Inv X pins σ (upd H x o) { s with heap:=h',toks:=t' }:=I.un (Un.write mu he k heo) (I.hok.write mu he k heo new)
theorem Inv.weak {σ':List (Option V)} (I:Inv X pins σ H s) (hl:σ'.length=σ.length) (w:∀ (i:Nat) v,σ'[i]?=some (some v)->σ[i]?=some (some v)):Inv X pins σ' H s:=
  ⟨I.ok,I.os,I.bare,I.base,let ⟨m,hn,hl'⟩:=I.loc;⟨m,hn,λ i x v e1 e2 e3=>hl' i x v e1 (w i v e2) e3⟩,I.cell,I.free,I.freeC,I.pin,I.hok,hl.trans I.len⟩
theorem Inv.pins_of {pins':List (Addr × Obj)} (I:Inv X pins σ H s) (h:∀ p∈pins',s.heap.get? p.1=some p.2/\H p.1=none/\p.1≠X.env.locals/\p.1∉X.fs/\∀ v,p.2.data≠ .cell v):Inv X pins' σ H s:=
  ⟨I.ok,I.os,I.bare,I.base,I.loc,I.cell,I.free,I.freeC,λ p hp=>(List.mem_append.mp hp).elim (λ z=>I.pin p (List.mem_append_left _ z)) (h p),I.hok,I.len⟩
theorem Ey {N:List Str} (hN:N.Nodup) {i j:Nat} {x:Str} (a:N[i]?=some x) (b:N[j]?=some x):i=j:=by
  obtain ⟨h1,e1⟩:=List.getElem?_eq_some_iff.mp a;obtain ⟨h2,e2⟩:=List.getElem?_eq_some_iff.mp b;exact (List.getElem_inj hN).mp (e1.trans e2.symm)
theorem Im {M:Model} {A:Around} {E:Value->Shared->Prop} {i:Nat} {x:Str} {v:V} {u:Value} {Q:Unit->Shared->Prop} (I:Inv X pins σ H s) (hN:X.N.Nodup) (hi:X.N[i]?=some x) (hx:Loc X.env.scope x) (r:RelV v u)
    (h:∀ s',Inv X pins (σ.set i (some v)) H s'->(∃ a,Heap.SameBut a s.heap s'.heap/\(a=X.env.locals\/X.env.cells.lookup x=some a))->Q () s') (hf:X.fn x=true\/X.env.scope.names.lookup x=some .local:=by first | exact .inl rfl | exact .inr rfl | assumption):wpAny M A (storeName X.env x u) Q E s:=by
  obtain ⟨m,hn,hl⟩:=id I.loc;have hcls:(X.env.scope.kind == .class||(X.env.scope.kind == .module&&X.env.locals != X.env.globals))=false:=by rw [I.ok.kind];rfl
  have hiσ:i<σ.length:=by rw [I.len];exact (List.getElem?_eq_some_iff.mp hi).1
  have cne:=I.cne;have tracked:∀ {a:Addr} {h':Heap},(∃ o,s.heap.get? a=some o/\H a=none)->Heap.SameBut a s.heap h'->HOk X.prog X.w H h':=λ {a h'} ha hs b ob e=>by
    obtain ⟨_,_,hfree⟩:=ha;refine (I.hok b ob e).stay (λ c w' hc q=>(hs.2 c ?_).trans q) (λ _ q=>q) λ _ _ q=>q;rintro rfl;rcases hc with rfl | hc
    · rw [hfree] at e;cases e
    · rw [hfree] at hc;cases hc
  rcases hx with hk | hk
  · refine wpAny_storeName_local hk hn (λ h' hn' hs=> ?_) hcls;obtain ⟨oL,_,_,hoL,_⟩:=id hn;refine h _ ⟨I.ok,I.os,I.bare,⟨λ b o e n hb hx=> ?_,λ b o e n hb hx=> ?_,I.base.free,λ b o e hx=> ?_,I.base.tups,I.base.frzs,I.base.tbls⟩,⟨_,hn',λ j y v' e1 e2 e3=> ?_⟩,λ y c e=> ?_,I.free,I.freeC,λ p hp=> ?_,tracked ⟨oL,hoL,I.free⟩ hs,by simpa using I.len⟩ ⟨_,hs, .inl rfl⟩
    · exact (hs.2 b (Nat.ne_of_lt (Nat.lt_of_lt_of_le (Heap.lt_size e) I.ok.above))).trans (I.base.keep b o e n hb hx)
    · obtain ⟨sl,e1⟩:=I.base.slot b o e n hb hx;exact ⟨sl,(hs.2 b (Nat.ne_of_lt (Nat.lt_of_lt_of_le (Heap.lt_size e) I.ok.above))).trans e1⟩
    · obtain ⟨o',e1⟩:=I.base.there b o e hx;exact ⟨o',(hs.2 b (Nat.ne_of_lt (Nat.lt_of_lt_of_le (Heap.lt_size e) I.ok.above))).trans e1⟩
    · by_cases hj:j=i
      · subst hj;rw [hi] at e1;cases e1;rw [List.getElem?_set_self hiσ] at e2;cases e2;exact ⟨u,r, .inl ⟨hk,by simp⟩⟩
      · rw [List.getElem?_set_ne (Ne.symm hj)] at e2;obtain ⟨u',r',q⟩:=hl j y v' e1 e2 e3;refine ⟨u',r',?_⟩;rcases q with ⟨k,e⟩ | ⟨k,c,e,z⟩
        · refine .inl ⟨k,?_⟩;have:y≠x:=λ e=>hj (Ey hN e1 (e▸hi));simp [this,e]
        · exact .inr ⟨k,c,e,z.sameBut hs (cne y c e)⟩
    · obtain ⟨w',z⟩:=I.cell y c e;exact ⟨w',z.sameBut hs (cne y c e)⟩
    · obtain ⟨e,n,ne,nf,d⟩:=I.pin p hp;exact ⟨(hs.2 p.1 ne).trans e,n,ne,nf,d⟩
  · have hfn:X.fn x=true:=by
      rcases hf with z | z
      · exact z
      · rw [z] at hk;cases hk
    obtain ⟨c,hc⟩:=I.ok.has x (.inl hk);obtain ⟨w',z⟩:=I.cell x c hc;refine wpAny_storeName_cell I.ok.kind hk hc z (λ h' hc' hs=> ?_);obtain ⟨oc,hoc,hocd⟩:=id z;refine h { s with heap:=h' } ⟨I.ok,I.os,I.bare,⟨λ b o e n hb hx=> ?_,λ b o e n hb hx=> ?_,I.base.free,λ b o e hx=> ?_,I.base.tups,I.base.frzs,I.base.tbls⟩,⟨m,hn.sameBut hs (Ne.symm (cne x c hc)),λ j y v' e1 e2 e3=> ?_⟩,λ y c' e=> ?_,I.free,I.freeC,λ p hp=> ?_,tracked ⟨oc,hoc,I.freeC x c hc⟩ hs,by simpa using I.len⟩ ⟨c,hs, .inr hc⟩
    · exact (hs.2 b (Nat.ne_of_lt (Nat.lt_of_lt_of_le (Heap.lt_size e) (I.ok.cab x c hfn hc)))).trans (I.base.keep b o e n hb hx)
    · obtain ⟨sl,e1⟩:=I.base.slot b o e n hb hx;exact ⟨sl,(hs.2 b (Nat.ne_of_lt (Nat.lt_of_lt_of_le (Heap.lt_size e) (I.ok.cab x c hfn hc)))).trans e1⟩
    · obtain ⟨o',e1⟩:=I.base.there b o e hx;exact ⟨o',(hs.2 b (Nat.ne_of_lt (Nat.lt_of_lt_of_le (Heap.lt_size e) (I.ok.cab x c hfn hc)))).trans e1⟩
    · by_cases hj:j=i
      · subst hj;rw [hi] at e1;cases e1;rw [List.getElem?_set_self hiσ] at e2;cases e2;exact ⟨u,r, .inr ⟨.inl hk,c,hc,hc'⟩⟩
      · rw [List.getElem?_set_ne (Ne.symm hj)] at e2;obtain ⟨u',r',q⟩:=hl j y v' e1 e2 e3;refine ⟨u',r',?_⟩;rcases q with q | ⟨k,c',e,z'⟩
        · exact .inl q
        · refine .inr ⟨k,c',e,z'.sameBut hs ?_⟩;rintro rfl;exact hj (Ey hN e1 (I.ok.inj _ _ _ e hc▸hi))
    · by_cases hcc:c'=c
      · subst hcc;exact ⟨_,hc'⟩
      · obtain ⟨w2,z2⟩:=I.cell y c' e;exact ⟨w2,z2.sameBut hs hcc⟩
    · obtain ⟨e,n,ne,nf,d⟩:=I.pin p hp;refine ⟨(hs.2 p.1 ?_).trans e,n,ne,nf,d⟩;intro q;rw [q,hoc] at e;have q':oc=p.2:=Option.some.inj e;exact d w' (by rw [<-q'];exact hocd)
theorem AY {M:Model} {A:Around} {E:Value->Shared->Prop} {i:Nat} {x:Str} {v:V} {u:Value} {Q:Unit->Shared->Prop} (I:Inv X pins σ H s) (hN:X.N.Nodup) (hi:X.N[i]?=some x) (hx:Loc X.env.scope x) (r:RelV v u)
    (h:∀ s',Inv X pins (σ.set i (some v)) H s'->Q () s') (hf:X.fn x=true\/X.env.scope.names.lookup x=some .local:=by first | exact .inl rfl | exact .inr rfl | assumption):wpAny M A (storeName X.env x u) Q E s:=
  Im I hN hi hx r (λ s' I' _=>h s' I') hf
theorem Inv.call' {s':Shared} {ch:List Addr} (I:Inv X pins σ H s) (ho:s'.os=s.os) (u:Un (frs X.stack) ch H H' s.heap s'.heap) (hok:HOk X.prog X.w H' s'.heap) (hg:AllBare s'.gens)
    (hch:∀ b∈ch,(b∈X.ex\/X.s₀.heap.objs.size<=b)/\b≠X.env.locals/\(∀ x c,X.env.cells.lookup x=some c->c≠b)/\∀ p∈X.pn++pins,p.1≠b):Inv X pins σ H' s':=by
  obtain ⟨h',g',d',t',o'⟩:=s';have e:o'=s.os:=ho;subst e;exact I.call (g':=g') (t':=t') (d':=d') u hok hg hch
end
abbrev XK:=Value->Option Addr->Hp->Prop
abbrev St:=List (Option V)
abbrev VK:=V->Hp->Prop
abbrev TE:=St->Hp->VK->Prop
abbrev TT:=St->Hp->(Bool->Hp->Prop)->Prop
abbrev TA:=St->Hp->(List V->Hp->Prop)->Prop
structure Ends where
  nx:St->Hp->Prop
  rt:VK
  bk:St->Hp->Prop:=λ _ _=>False
  ct:St->Hp->Prop:=λ _ _=>False
abbrev TS:=Ends->St->Hp->Prop
def EP (X:Cx) (pins:List (Addr × Obj)) (σ:St) (Q:VK) (u:Value) (s':Shared):Prop:=∃ v H',Inv X pins σ H' s'/\RelV v u/\Q v H'
def TP (X:Cx) (pins:List (Addr × Obj)) (σ:St) (Q:Bool->Hp->Prop) (b:Bool) (s':Shared):Prop:=∃ H',Inv X pins σ H' s'/\Q b H'
def AP (X:Cx) (pins:List (Addr × Obj)) (σ:St) (Q:List V->Hp->Prop) (us:List Value) (s':Shared):Prop:=∃ vs H',Inv X pins σ H' s'/\Vals vs us/\Q vs H'
def SP (X:Cx) (pins:List (Addr × Obj)) (D:Ends) (f:Flow) (s':Shared):Prop:=
  match f with
  | .next=>∃ σ' H',Inv X pins σ' H' s'/\D.nx σ' H'
  | .brk=>∃ σ' H',Inv X pins σ' H' s'/\D.bk σ' H'
  | .cont=>∃ σ' H',Inv X pins σ' H' s'/\D.ct σ' H'
  | .ret u=>∃ v σ' H',Inv X pins σ' H' s'/\RelV v u/\D.rt v H'
def PE (X:Cx) (e:Expr) (t:TE):Prop:=
  ∀ (pins:List (Addr × Obj)) (s:Shared) (σ:St) (H:Hp) (Q:VK),Inv X pins σ H s->t σ H Q->wpAny (model X.prog X.w) X.A (eval e X.env) (EP X pins σ Q) X.xe s
def PT (X:Cx) (e:Expr) (t:TT):Prop:=
  ∀ (pins:List (Addr × Obj)) (s:Shared) (σ:St) (H:Hp) (Q:Bool->Hp->Prop),Inv X pins σ H s->t σ H Q->wpAny (model X.prog X.w) X.A (isTrue e X.env (eval e X.env)) (TP X pins σ Q) X.xe s
def PW (X:Cx) (e:Expr) (t:TT):Prop:=
  ∀ (whole:Sem Value) (pins:List (Addr × Obj)) (s:Shared) (σ:St) (H:Hp) (Q:Bool->Hp->Prop),Inv X pins σ H s->t σ H Q->wpAny (model X.prog X.w) X.A (isTrue e X.env whole) (TP X pins σ Q) X.xe s
theorem PW.pt {X:Cx} {e:Expr} {t:TT} (h:PW X e t):PT X e t:=h _
def PA (X:Cx) (es:List Expr) (t:TA):Prop:=
  ∀ (pos:Pos) (pins:List (Addr × Obj)) (s:Shared) (σ:St) (H:Hp) (Q:List V->Hp->Prop),Inv X pins σ H s->t σ H Q->wpAny (model X.prog X.w) X.A (spliced (backTo pos (starEach es X.env))) (AP X pins σ Q) X.xe s
def PS (X:Cx) (st:Stmt) (t:TS):Prop:=
  ∀ (pins:List (Addr × Obj)) (s:Shared) (σ:St) (H:Hp) (D:Ends),Inv X pins σ H s->t D σ H->wpAny (model X.prog X.w) X.A (exec st X.env) (SP X pins D) X.xe s
def PSs (X:Cx) (st:List Stmt) (t:TS):Prop:=
  ∀ (pins:List (Addr × Obj)) (s:Shared) (σ:St) (H:Hp) (D:Ends),Inv X pins σ H s->t D σ H->wpAny (model X.prog X.w) X.A (execs st X.env) (SP X pins D) X.xe s
theorem thn {α:Type} {t:Sem α} {Q Q':α->Shared->Prop} {M:Model} {A:Around} {E:Value->Shared->Prop} {s:Shared} (h:wpAny M A t Q E s) (hQ:∀ a s,Q a s->Q' a s):wpAny M A t Q' E s:=wpAny_mono h hQ λ _ _ x=>x
section
variable {X:Cx}
theorem bin {a b:Expr} {ta tb:TE} (ha:PE X a ta) (hb:PE X b tb) {pins:List (Addr × Obj)} {s:Shared} {σ:St} {H:Hp} {R:V->V->Hp->Prop} (I:Inv X pins σ H s) (h:ta σ H λ x H1=>tb σ H1 λ y H2=>R x y H2)
    {α:Type} {Q:α->Shared->Prop} {f:Value->Value->Sem α}
    (hf:∀ v u s2 x y H2,Inv X pins σ H2 s2->RelV x v->RelV y u->R x y H2->wpAny (model X.prog X.w) X.A (f v u) Q X.xe s2):
    wpAny (model X.prog X.w) X.A (eval a X.env) (λ v s₁=>wpAny (model X.prog X.w) X.A (eval b X.env) (λ u s₂=>wpAny (model X.prog X.w) X.A (f v u) Q X.xe s₂) X.xe s₁) X.xe s:=by
  refine thn (ha pins s σ H _ I h) λ v s1 ⟨x,H1,I1,r1,q1⟩=> ?_;refine thn (hb pins s1 σ H1 _ I1 q1) λ u s2 ⟨y,H2,I2,r2,q2⟩=> ?_;exact hf v u s2 x y H2 I2 r1 r2 q2
def Ia (i:Nat):TE:=λ σ H Q=>∃ v,σ[i]?=some (some v)/\Q v H
def tC (v:V):TE:=λ _ H Q=>Q v H
theorem MO {i:Nat} {x:Str} {pos:Pos} (hN:X.N[i]?=some x) (hv:Vis X.env.scope x) (hd:(x == ("__debug__":Str))=false:=by decide) (hcd:(x == ("__classdict__":Str))=false:=by decide):PE X (.Name x pos) (Ia i):=by
  intro pins s σ H Q I h;obtain ⟨v,e,h⟩:=h;obtain ⟨m,hn,hl⟩:=I.loc;obtain ⟨u,r,l⟩:=hl i x v hN e hv;have fin:EP X pins σ Q u s:=⟨v,H,I,r,h⟩;rcases l with ⟨hk,hm⟩ | ⟨hk,c,hc,hcell⟩
  · exact wpAny_Name (wpAny_loadName_local I.ok.kind hk hn hm fin) hd
  · rcases hk with hk | hk
    · exact wpAny_Name (wpAny_loadName_cell I.ok.kind hk hc hcell fin) hd
    · exact wpAny_Name (wpAny_loadName_free I.ok.kind hk hc hcell fin hcd) hd
theorem Ag {i j pos}:PE X (.Constant (.int i) j pos) (tC (.int i)):=λ _ _ _ H _ I h=>wpAny_Constant_int ⟨.int i,H,I.tok _,⟨_,rfl⟩,h⟩
theorem Ju {b j pos}:PE X (.Constant (.bool b) j pos) (tC (.bl b)):=λ _ _ _ H _ I h=>Constant_bool ⟨.bl b,H,I,rfl,h⟩
theorem AQ {j pos}:PE X (.Constant .none j pos) (tC .non):=λ _ _ _ H _ I h=>Constant_none ⟨.non,H,I,rfl,h⟩
theorem Af {x j pos}:PE X (.Constant (.str x) j pos) (tC (.str x)):=λ _ _ _ H _ I h=>Calls.Constant_str ⟨.str x,H,I.tok _,⟨_,rfl⟩,h⟩
def Gl (X:Cx) (x:Str):Prop:=X.env.kindOf x=some .globalImplicit
theorem Cv {E:Value->Shared->Prop} {pins:List (Addr × Obj)} {s:Shared} {σ:St} {H:Hp} {x:Str} {u:Value} {pos:Pos} {Q:Value->Shared->Prop} (I:Inv X pins σ H s) (hg:Gl X x) (hm:X.mg x=some u) (h:Q u s)
    (hd:(x == ("__debug__":Str))=false:=by decide):wpAny (model X.prog X.w) X.A (eval (.Name x pos) X.env) Q E s:=
  Calls.Name_function_global I.ok.kind hg (Calls.loadGlobal_global (by rw [I.ok.glob];exact I.mod.glob.keeps I.bk) hm h) hd
theorem DY {E:Value->Shared->Prop} {pins:List (Addr × Obj)} {s:Shared} {σ:St} {H:Hp} {x:Str} {u:Value} {pos:Pos} {Q:Value->Shared->Prop} (I:Inv X pins σ H s) (hg:Gl X x) (hm:X.mg x=none) (hv:bootBuiltins x=some u) (h:Q u s)
    (hn:x≠"__name__":=by decide) (hd:(x == ("__debug__":Str))=false:=by decide):wpAny (model X.prog X.w) X.A (eval (.Name x pos) X.env) Q E s:=by
  obtain ⟨mb,h1,h2⟩:=I.mod.blt;exact Calls.Name_function_global I.ok.kind hg (Calls.loadGlobal_builtin (by rw [I.ok.glob];exact I.mod.glob.keeps I.bk) hm (by rw [I.ok.blt];exact h1.keeps I.bk) ((h2 x hn).trans hv) h) hd
theorem Fq {x:Str} {v:V} {u:Value} {pos:Pos} (hg:Gl X x) (hm:X.mg x=some u) (r:RelV v u) (hd:(x == ("__debug__":Str))=false:=by decide):PE X (.Name x pos) (tC v):=
  λ _ _ _ H _ I h=>Cv I hg hm ⟨v,H,I,r,h⟩ hd
theorem Lg {x:Str} {v:V} {u:Value} {pos:Pos} (hg:Gl X x) (hm:X.mg x=none) (hv:bootBuiltins x=some u) (r:RelV v u) (hn:x≠"__name__":=by decide) (hd:(x == ("__debug__":Str))=false:=by decide):PE X (.Name x pos) (tC v):=
  λ _ _ _ H _ I h=>DY I hg hm hv ⟨v,H,I,r,h⟩ hn hd
variable {a b:Expr} {ta tb:TE} {pos:Pos}
def PC (X:Cx) (op:CmpOp) (a b:Expr) (t:TE):Prop:=
  ∀ (pins:List (Addr × Obj)) (s:Shared) (σ:St) (H:Hp) (Q:VK),Inv X pins σ H s->t σ H Q->
    wpAny (model X.prog X.w) X.A (eval a X.env) (λ v s₁=>wpAny (model X.prog X.w) X.A (eval b X.env) (λ u s₂=>wpAny (model X.prog X.w) X.A (compareOp op v u) (EP X pins σ Q) X.xe s₂) X.xe s₁) X.xe s
theorem JE (b:Expr) {op:CmpOp} (h:op≠ .In) (h2:op≠ .NotIn):behindInMarks op b=false:=by
  have e1:(op == CmpOp.In)=false:=by cases op <;> first | rfl | exact absurd rfl h
  have e2:(op == CmpOp.NotIn)=false:=by cases op <;> first | rfl | exact absurd rfl h2
  cases b <;> simp [behindInMarks,e1,e2]
def tB (t:TE):TT:=λ σ H Q=>t σ H λ x H1=>∃ c,x= .bl c/\Q c H1
theorem Qm {op:CmpOp} {t:TE} (h:PC X op a b t) (h1:behindInMarks op b=false:=by first | exact JE _ (by decide) (by decide) | rfl):PT X (.Compare a [op] [b] pos) (tB t):=by
  intro pins s σ H Q I hw;refine wpAny_isTrue_Compare1 (thn (h pins s σ H _ I hw) λ v s1 h1=>thn h1 λ u s2 h2=>thn h2 λ c s3 ⟨x,H1,I1,r1,q1⟩=> ?_) h1;obtain ⟨d,rfl,q⟩:=q1;cases r1;exact wpAny_truthy_bool ⟨H1,I1,q⟩
theorem AZ {e:Expr} {t:TE} (h:PE X e t) (he:∀ whole,isTrue e X.env whole=(do let v <-whole;standAt e.pos;holding [v] (truthy v)):=by intro _;rfl):PT X e (tB t):=by
  intro pins s σ H Q I hw;refine isTrue_plain (thn (h pins s σ H _ I hw) λ v s1 ⟨x,H1,I1,r1,q1⟩=> ?_) (he _);obtain ⟨d,rfl,q⟩:=q1;cases r1;exact wpAny_truthy_bool ⟨H1,I1,q⟩
variable {tA tB':TT} {rest:List Expr}
def O0 (t u:TT):TT:=λ σ H Q=>t σ H λ c H1=>if c=true then u σ H1 Q else Q false H1
def tOr (t u:TT):TT:=λ σ H Q=>t σ H λ c H1=>if c=true then Q true H1 else u σ H1 Q
def Ph (t:TT):TT:=λ σ H Q=>t σ H λ c H1=>Q (!c) H1
theorem BP (ha:PT X a tA):PW X (.BoolOp .And [a] pos) tA:=by
  intro wh pins s σ H Q I h;refine isTrue_and (thn (ha pins s σ H Q I h) λ c s1 e=> ?_);cases c with
  | true=>exact isTrue_and_nil e
  | false=>exact e
theorem CM (ha:PT X a tA):PW X (.BoolOp .Or [a] pos) tA:=by
  intro wh pins s σ H Q I h;refine isTrue_or (thn (ha pins s σ H Q I h) λ c s1 e=> ?_);cases c with
  | false=>exact isTrue_or_nil e
  | true=>exact e
theorem CN (ha:PT X a tA) (hb:PW X (.BoolOp .And (b::rest) pos) tB'):PW X (.BoolOp .And (a::b::rest) pos) (O0 tA tB'):=by
  intro wh pins s σ H Q I h;refine isTrue_and (thn (ha pins s σ H _ I h) λ c s1 ⟨H1,I1,q1⟩=> ?_);cases c with
  | true=>exact hb wh pins s1 σ H1 Q I1 q1
  | false=>exact ⟨H1,I1,q1⟩
theorem Dj (ha:PT X a tA) (hb:PW X (.BoolOp .Or (b::rest) pos) tB'):PW X (.BoolOp .Or (a::b::rest) pos) (tOr tA tB'):=by
  intro wh pins s σ H Q I h;refine isTrue_or (thn (ha pins s σ H _ I h) λ c s1 ⟨H1,I1,q1⟩=> ?_);cases c with
  | true=>exact ⟨H1,I1,q1⟩
  | false=>exact hb wh pins s1 σ H1 Q I1 q1
theorem Ed (ha:PT X a tA):PT X (.UnaryOp .Not a pos) (Ph tA):=by
  intro pins s σ H Q I h;exact isTrue_not (ha pins s σ H (λ c H1=>Q (!c) H1) I h)
def Lx (ta tb:TE):TE:=λ σ H Q=>ta σ H λ x H1=>∃ c,x= .bl c/\if c=true then tb σ H1 Q else Q (.bl false) H1
def LB (ta:TE):TE:=λ σ H Q=>ta σ H λ x H1=>∃ c,x= .bl c/\Q (.bl (!c)) H1
theorem GN {op} {t:TE} (h:PE X a t):PE X (.BoolOp op [a] pos) t:=λ pins s σ H Q I hw=>BoolOp_one (h pins s σ H Q I hw)
theorem GB (ha:PE X a ta) (hb:PE X (.BoolOp .And (b::rest) pos) tb):PE X (.BoolOp .And (a::b::rest) pos) (Lx ta tb):=by
  intro pins s σ H Q I h;refine BoolOp_and (thn (ha pins s σ H _ I h) λ v s1 ⟨x,H1,I1,r1,q1⟩=> ?_);obtain ⟨c,rfl,q1⟩:=q1;cases r1;refine wpAny_truthy_bool ?_;cases c with
  | true=>exact hb pins s1 σ H1 Q I1 q1
  | false=>exact ⟨.bl false,H1,I1,rfl,q1⟩
theorem Jf (ha:PE X a ta):PE X (.UnaryOp .Not a pos) (LB ta):=by
  intro pins s σ H Q I h;refine UnaryOp_ (thn (ha pins s σ H _ I h) λ v s1 ⟨x,H1,I1,r1,q1⟩=> ?_);obtain ⟨c,rfl,q1⟩:=q1;cases r1;exact not_of (wpAny_truthy_bool ⟨.bl (!c),H1,I1,rfl,q1⟩)
def tIf (t:TT) (ta tb:TE):TE:=λ σ H Q=>t σ H λ c H1=>if c=true then ta σ H1 Q else tb σ H1 Q
theorem Eg {c:Expr} (hc:PT X c tA) (ha:PE X a ta) (hb:PE X b tb):PE X (.IfExp c a b pos) (tIf tA ta tb):=by
  intro pins s σ H Q I h;refine wpAny_IfExp (thn (hc pins s σ H _ I h) λ d s1 ⟨H1,I1,q1⟩=> ?_);cases d with
  | true=>exact ha pins s1 σ H1 Q I1 q1
  | false=>exact hb pins s1 σ H1 Q I1 q1
end
def SqL (K:PySem.W.Frag) (H:Hp) (a:Addr) (xs:List V):Prop:=
  Rd H a (.lst xs)\/
    ∃ (o:Obj) (its:Array Value) (n:Nat),K.lookup a=some o/\o.cls= .type "list"/\o.dict=none/\o.data= .seq its n/\its.size<=sizeLine/\Vals xs its.toList
def SqT (K:PySem.W.Frag) (H:Hp) (a:Addr) (xs:List V):Prop:=
  Rd H a (.tup xs)\/
    ∃ (o:Obj) (its:Array Value) (n:Nat),K.lookup a=some o/\o.cls= .type "tuple"/\o.data= .seq its n/\its.size<=sizeLine/\Vals xs its.toList
def Qz:Value->Option V
  | .none=>some .non
  | .bool b=>some (.bl b)
  | .int i _=>some (.int i)
  | .str x _=>some (.str x)
  | .bytes b _=>some (.byt b)
  | .float b _=>some (.flt b)
  | .ref a=>some (.ref a)
  | .type n=>some (.ty n)
  | _=>none
theorem RelV.abs {x:V} {u:Value} (r:RelV x u):Qz u=some x:=by
  cases x with
  | non=>cases r;rfl
  | bl _=>cases r;rfl
  | int _=>obtain ⟨t,rfl⟩:=r;rfl
  | str _=>obtain ⟨t,rfl⟩:=r;rfl
  | byt _=>obtain ⟨t,rfl⟩:=r;rfl
  | flt _=>obtain ⟨t,rfl⟩:=r;rfl
  | ref _=>cases r;rfl
  | ty _=>cases r;rfl
theorem RelV.inj {x y:V} {u:Value} (r:RelV x u) (q:RelV y u):x=y:=Option.some.inj (r.abs.symm.trans q.abs)
theorem Vals.inj:∀ {xs ys:List V} {us:List Value},Vals xs us->Vals ys us->xs=ys
  | _,_,_, .nil, .nil=>rfl
  | _,_,_, .cons r t, .cons r' t'=>by rw [r.inj r',Vals.inj t t']
section
variable {X:Cx} {pins:List (Addr × Obj)} {σ:St} {H:Hp} {s:Shared} {a:Addr} {xs ys:List V}
theorem SqL.of {K:PySem.W.Frag} (h:H a=some (.lst xs)):SqL K H a xs:= .inl (.inl h)
theorem SqT.of {K:PySem.W.Frag} (h:H a=some (.tup xs)):SqT K H a xs:= .inl (.inl h)
theorem Inv.list (I:Inv X pins σ H s) (h:SqL X.K H a xs):∃ its:List Value,Vals xs its/\PlainL s.heap a its.toArray/\xs.length<=sizeLine:=by
  rcases h with h | ⟨o,its,n,hk,hc,hd,hs,hz,r⟩
  · obtain ⟨z,its,n,r,e⟩:=h.ok I.hok;exact ⟨its,r,⟨_,n,e,rfl,rfl,rfl⟩,z⟩
  · refine ⟨its.toList,r,⟨o,n,I.kIn a o hk,hc,hd,by simpa using hs⟩,?_⟩;have e:=r.length;simp only [Array.length_toList] at e;omega
theorem Inv.tuple (I:Inv X pins σ H s) (h:SqT X.K H a xs):∃ its:List Value,Vals xs its/\IsTup s.heap a its.toArray/\xs.length<=sizeLine:=by
  rcases h with h | ⟨o,its,n,hk,hc,hs,hz,r⟩
  · obtain ⟨z,its,r,p⟩:=h.ok I.hok;exact ⟨its,r,p,z⟩
  · refine ⟨its.toList,r,⟨o,I.kIn a o hk,hc,n,by simpa using hs⟩,?_⟩;have e:=r.length;simp only [Array.length_toList] at e;omega
theorem Inv.list_inj (I:Inv X pins σ H s) (h:SqL X.K H a xs) (h':SqL X.K H a ys):xs=ys:=by
  obtain ⟨its,r,⟨o,n,e,_,_,d⟩,_⟩:=I.list h;obtain ⟨its',r',⟨o',n',e',_,_,d'⟩,_⟩:=I.list h';rw [e] at e';cases e';rw [d] at d';injection d' with d1 _;have:its=its':=by simpa using congrArg Array.toList d1
  subst this;exact r.inj r'
theorem Inv.tuple_inj (I:Inv X pins σ H s) (h:SqT X.K H a xs) (h':SqT X.K H a ys):xs=ys:=by
  obtain ⟨its,r,⟨o,e,_,n,d⟩,_⟩:=I.tuple h;obtain ⟨its',r',⟨o',e',_,n',d'⟩,_⟩:=I.tuple h';rw [e] at e';cases e';rw [d] at d';injection d' with d1 _;have:its=its':=by simpa using congrArg Array.toList d1
  subst this;exact r.inj r'
end
abbrev Cx.wish (X:Cx) (E:Value->Shared->Prop):Cx:={ X with xe:=E }
abbrev Cx.nox (X:Cx):Cx:=X.wish λ _ _=>False
theorem Cx.Ok.wish {X:Cx} (ok:X.Ok) (E:Value->Shared->Prop):(X.wish E).Ok:=
  ⟨ok.mod,ok.kind,ok.glob,ok.blt,ok.above,ok.inj,ok.has,ok.cab,ok.hd,ok.frames,ok.stk,ok.exf,ok.bs,ok.bsz,ok.noex,ok.exfs,ok.funs,ok.frf⟩
theorem Cx.Ok.unwish {X:Cx} {E:Value->Shared->Prop} (ok:(X.wish E).Ok):X.Ok:=
  ⟨ok.mod,ok.kind,ok.glob,ok.blt,ok.above,ok.inj,ok.has,ok.cab,ok.hd,ok.frames,ok.stk,ok.exf,ok.bs,ok.bsz,ok.noex,ok.exfs,ok.funs,ok.frf⟩
section
variable {X:Cx} {pins:List (Addr × Obj)} {σ:St} {H:Hp} {s:Shared} {E:Value->Shared->Prop}
theorem Inv.wish (I:Inv X pins σ H s) (E:Value->Shared->Prop):Inv (X.wish E) pins σ H s:=⟨I.ok.wish E,I.os,I.bare,I.base,I.loc,I.cell,I.free,I.freeC,I.pin,I.hok,I.len⟩
theorem Inv.unwish (I:Inv (X.wish E) pins σ H s):Inv X pins σ H s:=⟨I.ok.unwish,I.os,I.bare,I.base,I.loc,I.cell,I.free,I.freeC,I.pin,I.hok,I.len⟩
theorem SP.unwish {D:Ends} {f:Flow} {s':Shared} (h:SP (X.wish E) pins D f s'):SP X pins D f s':=by
  cases f with
  | next=>obtain ⟨σ',H',I,q⟩:=h;exact ⟨σ',H',I.unwish,q⟩
  | brk=>obtain ⟨σ',H',I,q⟩:=h;exact ⟨σ',H',I.unwish,q⟩
  | cont=>obtain ⟨σ',H',I,q⟩:=h;exact ⟨σ',H',I.unwish,q⟩
  | ret u=>obtain ⟨v,σ',H',I,r,q⟩:=h;exact ⟨v,σ',H',I.unwish,r,q⟩
theorem PSs.nox {st:List Stmt} {t:TS} (h:PSs X.nox st t):PSs X st t:=λ pins s σ H D I hw=>
  wpAny_mono (h pins s σ H D (I.wish _) hw) (λ _ _ q=>q.unwish) λ _ _ z=>False.elim z
end
section
variable {X:Cx} {st:Stmt} {rest:List Stmt} {t u:TS} {e:Expr} {te:TE} {pos:Pos}
def LP:TS:=λ D σ H=>D.nx σ H
def Oc (t u:TS):TS:=λ D σ H=>t { D with nx:=u D } σ H
theorem As:PSs X [] LP:=λ _ _ σ H _ I h=>wpAny_execs_nil ⟨σ,H,I,h⟩
theorem Ad (h1:PS X st t) (h2:PSs X rest u):PSs X (st::rest) (Oc t u):=by
  intro pins s σ H D I h;refine wpAny_execs_cons (thn (h1 pins s σ H { D with nx:=u D } I h) λ f s1 q=> ?_);cases f with
  | next=>
    obtain ⟨σ',H',I',q⟩:=q;exact h2 pins s1 σ' H' D I' q
  | ret v=>exact q
  | brk=>exact q
  | cont=>exact q
theorem Ah (h1:PS X st t):PSs X [st] t:=by
  intro pins s σ H D I h;refine wpAny_execs_cons (thn (h1 pins s σ H D I h) λ f s1 q=> ?_);cases f with
  | next=>exact wpAny_execs_nil q
  | ret v=>exact q
  | brk=>exact q
  | cont=>exact q
theorem Inv.quiet {pins:List (Addr × Obj)} {σ:St} {H:Hp} {s:Shared} (I:Inv X pins σ H s):interactive X.env=false:=by simp [interactive,I.ok.kind]
def Lz (te:TE):TS:=λ D σ H=>te σ H λ _ H1=>D.nx σ H1
theorem AM (he:PE X e te) (hs:swapsWith e none pos.line X.env=pure false:=by rfl):PS X (.Expr e pos) (Lz te):=by
  intro pins s σ H D I h;exact wpAny_Expr_any (thn (he pins s σ H _ I h) λ v s1 ⟨x,H1,I1,r1,q1⟩=>⟨σ,H1,I1,q1⟩) I.quiet hs
def ML (te:TE):TS:=λ D σ H=>te σ H D.rt
theorem Aq (he:PE X e te):PS X (.Return (some e) pos) (ML te):=by
  intro pins s σ H D I h;exact wpAny_Return_some (thn (he pins s σ H _ I h) λ v s1 ⟨x,H1,I1,r1,q1⟩=>⟨x,σ,H1,I1,r1,q1⟩)
def Hr (c:TT) (t u:TS):TS:=λ D σ H=>c σ H λ b H1=>if b=true then t D σ H1 else u D σ H1
theorem Ax {c:Expr} {a b:List Stmt} {tc:TT} (hc:PT X c tc) (ha:PSs X a t) (hb:PSs X b u):PS X (.If c a b pos) (Hr tc t u):=by
  intro pins s σ H D I h;refine wpAny_If (thn (hc pins s σ H _ I h) λ d s1 ⟨H1,I1,q1⟩=> ?_);cases d with
  | true=>exact ha pins s1 σ H1 D I1 q1
  | false=>exact hb pins s1 σ H1 D I1 q1
end
abbrev TG:=V->St->Hp->(St->Hp->Prop)->Prop
abbrev TGs:=List V->St->Hp->(St->Hp->Prop)->Prop
def PG (X:Cx) (target:Expr) (t:TG):Prop:=
  ∀ (pins:List (Addr × Obj)) (s:Shared) (σ:St) (H:Hp) (v:V) (u:Value) (Q:St->Hp->Prop),Inv X pins σ H s->RelV v u->t v σ H Q->
    wpAny (model X.prog X.w) X.A (assign target X.env u) (λ _ s'=>∃ σ' H',Inv X pins σ' H' s'/\Q σ' H') X.xe s
def PGs (X:Cx) (ts:List Expr) (t:TGs):Prop:=
  ∀ (pins:List (Addr × Obj)) (s:Shared) (σ:St) (H:Hp) (vs:List V) (us:List Value) (Q:St->Hp->Prop),Inv X pins σ H s->Vals vs us->t vs σ H Q->
    wpAny (model X.prog X.w) X.A (assignInOrder ((assignEach ts X.env).map (·.2)) us) (λ _ s'=>∃ σ' H',Inv X pins σ' H' s'/\Q σ' H') X.xe s
abbrev TIp:=V->V->Hp->VK->Prop
def PIp (X:Cx) (op:Operator) (t:TIp):Prop:=
  ∀ (pins:List (Addr × Obj)) (s:Shared) (σ:St) (H:Hp) (x y:V) (v u:Value) (Q:VK),Inv X pins σ H s->RelV x v->RelV y u->t x y H Q->
    wpAny (model X.prog X.w) X.A (inplaceOp op v u) (EP X pins σ Q) X.xe s
section
variable {X:Cx} {pos:Pos}
def AC (i:Nat):TG:=λ v σ H Q=>Q (σ.set i (some v)) H
theorem C6 {i:Nat} {x:Str} (hN:X.N.Nodup) (hi:X.N[i]?=some x) (hx:Loc X.env.scope x) (hf:X.fn x=true\/X.env.scope.names.lookup x=some .local:=by first | exact .inl rfl | exact .inr rfl | assumption):PG X (.Name x pos) (AC i):=by
  intro pins s σ H v u Q I r h;exact wpAny_assign_Name (AY I hN hi hx r (λ s' I'=>⟨_,H,I',h⟩) hf)
def J2:TGs:=λ vs σ H Q=>vs=[]/\Q σ H
def C0 (t:TG) (u:TGs):TGs:=λ vs σ H Q=>∃ v r,vs=v::r/\t v σ H λ σ' H'=>u r σ' H' Q
theorem G8:PGs X [] J2:=by
  intro pins s σ H vs us Q I r h;obtain ⟨e,h⟩:=h;subst e;cases r;exact assignInOrder_nil ⟨σ,H,I,h⟩
theorem Dg {e:Expr} {es:List Expr} {t:TG} {u:TGs} (h1:PG X e t) (h2:PGs X es u)
    (hs:(assignEach (e::es) X.env).map (·.2)=assign e X.env::(assignEach es X.env).map (·.2):=by rfl):PGs X (e::es) (C0 t u):=by
  intro pins s σ H vs us Q I r h;obtain ⟨v,vr,e1,h⟩:=h;subst e1;cases r with
  | cons r rr=>
    rw [hs];refine assignInOrder_cons (thn (h1 pins s σ H _ _ _ I r h) λ _ s1 ⟨σ1,H1,I1,q1⟩=> ?_);exact h2 pins s1 σ1 H1 _ _ Q I1 rr q1
def HI (K:PySem.W.Frag) (n:Nat) (t:TGs):TG:=λ v σ H Q=>∃ a xs,v= .ref a/\SqT K H a xs/\xs.length=n/\t xs σ H Q
theorem JB {es:List Expr} {k:Nat} {t:TGs} {n:Nat} (hc:X.calm=true) (h:PGs X es t)
    (hn:(assignEach es X.env).length=n:=by rfl) (hst:(assignEach es X.env).findIdx? (·.1)=none:=by rfl):PG X (.Tuple es k pos) (HI X.K n t):=by
  intro pins s σ H v u Q I r hw;obtain ⟨a,xs,e1,hq,hl,hw⟩:=hw;subst e1;cases r;obtain ⟨its,rv,ht,hz⟩:=I.tuple hq;refine assign_Tuple_tuple (I.ok.hd hc) ht (by simp [hn, <-hl,rv.length]) hst λ h' hx=> ?_;have I1:Inv X pins σ H { s with heap:=h' }:=I.kept (t':=s.toks) λ b o e=>hx b o (Nat.ne_of_lt (Heap.lt_size e)) e;exact h pins _ σ H xs _ Q I1 (by simpa using rv) hw
def Le (te:TE) (g:TG):TS:=λ D σ H=>te σ H λ x H1=>g x σ H1 D.nx
theorem An {i:Nat} {x:Str} {e:Expr} {te:TE} {pos':Pos} (hN:X.N.Nodup) (hi:X.N[i]?=some x) (hx:Loc X.env.scope x) (he:PE X e te) (hs:swapsWith e (some (.Name x pos')) pos.line X.env=pure false:=by rfl) (hf:X.fn x=true\/X.env.scope.names.lookup x=some .local:=by first | exact .inl rfl | exact .inr rfl | assumption):
    PS X (.Assign [.Name x pos'] e pos) (Le te (AC i)):=by
  intro pins s σ H D I h;refine wpAny_Assign_Name (thn (he pins s σ H _ I h) λ v s1 ⟨y,H1,I1,r1,q1⟩=> ?_) hs;exact AY I1 hN hi hx r1 (λ s2 I2=>⟨_,H1,I2,q1⟩) hf
def Pp (i:Nat) (te:TE) (ti:TIp):TS:=λ D σ H=>∃ x,σ[i]?=some (some x)/\te σ H λ y H1=>ti x y H1 λ z H2=>D.nx (σ.set i (some z)) H2
theorem Mm {i:Nat} {x:Str} {e:Expr} {te:TE} {op:Operator} {ti:TIp} {pos':Pos} (hN:X.N.Nodup) (hi:X.N[i]?=some x) (hx:Loc X.env.scope x) (he:PE X e te) (ho:PIp X op ti) (hf:X.fn x=true\/X.env.scope.names.lookup x=some .local:=by first | exact .inl rfl | exact .inr rfl | assumption):
    PS X (.AugAssign (.Name x pos') op e pos) (Pp i te ti):=by
  intro pins s σ H D I h;obtain ⟨v,e1,h⟩:=h;obtain ⟨m,hn,hl⟩:=I.loc;have vis:Vis X.env.scope x:=by rcases hx with k | k;exact .inl k;exact .inr (.inl k)
  obtain ⟨u,r,l⟩:=hl i x v hi e1 vis;refine wpAny_AugAssign_Name ?_;have go:wpAny (model X.prog X.w) X.A (eval e X.env) (λ w s₂=>wpAny (model X.prog X.w) X.A (inplaceOp op u w) (λ r s₃=>wpAny (model X.prog X.w) X.A (storeName X.env x r) (λ _=>SP X pins D .next) X.xe s₃) X.xe s₂) X.xe s:=by
    refine thn (he pins s σ H _ I h) λ w s1 ⟨y,H1,I1,r1,q1⟩=> ?_;refine thn (ho pins s1 σ H1 v y u w _ I1 r r1 q1) λ z s2 ⟨zv,H2,I2,r2,q2⟩=> ?_;exact AY I2 hN hi hx r2 (λ s3 I3=>⟨_,H2,I3,q2⟩) hf
  rcases l with ⟨hk,hm⟩ | ⟨hk,c,hc,hcell⟩
  · exact wpAny_loadName_local I.ok.kind hk hn hm go
  · rcases hk with hk | hk
    · exact wpAny_loadName_cell I.ok.kind hk hc hcell go
    · rcases hx with k | k
      · have:X.env.scope.names.lookup x=some .free:=hk;rw [k] at this;cases this
      · have:X.env.scope.names.lookup x=some .free:=hk;rw [k] at this;cases this
end
section
variable {X:Cx} {pos:Pos}
def J7 (c:TT) (tb:TS):TS:=λ D σ H=>∃ W:Nat->St->Hp->Prop,(∃ m,W m σ H)/\∀ m σ H,W m σ H->
  c σ H λ b H1=>if b=true then ∃ N:St->Hp->Prop,(∀ σ' H',N σ' H'->∃ m',m'<m/\W m' σ' H')/\tb { D with nx:=N,ct:=N,bk:=D.nx } σ H1 else D.nx σ H1
theorem Jx {c:Expr} {body:List Stmt} {tc:TT} {tb:TS} (hp:PassesOwn (model X.prog X.w) X.A X.env X.xe) (hc:PT X c tc) (hb:PSs X body tb):PS X (.While c body [] pos) (J7 tc tb):=by
  intro pins s σ H D I h;obtain ⟨W,⟨m0,w0⟩,turn⟩:=h;refine wpAny_While (codeAny_whileLoop (λ n s'=>∃ σ' H',Inv X pins σ' H' s'/\W n σ' H') ?_ m0 ⟨σ,H,I,w0⟩);rintro n s1 ⟨σ1,H1,I1,w1⟩;refine wpAny_passesOwn hp (thn (hc pins s1 σ1 H1 _ I1 (turn n σ1 H1 w1)) λ b s2 ⟨H2,I2,q2⟩=> ?_);cases b with
  | true=>
    obtain ⟨N,hN,q2⟩:=q2;rw [if_pos rfl];refine wpAny_passesOwn hp (thn (hb pins s2 σ1 H2 _ I2 q2) λ f s3 q3=> ?_);cases f with
    | next=>
      obtain ⟨σ3,H3,I3,n3⟩:=q3;obtain ⟨m',hm,w3⟩:=hN σ3 H3 n3;exact ⟨m',hm,σ3,H3,I3,w3⟩
    | cont=>
      obtain ⟨σ3,H3,I3,n3⟩:=q3;obtain ⟨m',hm,w3⟩:=hN σ3 H3 n3;exact ⟨m',hm,σ3,H3,I3,w3⟩
    | brk=>exact q3
    | ret v=>exact q3
  | false=>
    rw [if_neg Bool.false_ne_true];exact wpAny_execs_nil ⟨σ1,H2,I2,q2⟩
end
structure It where
  go:Nat->Hp->Prop
  yld:Nat->Hp->V->Hp->Prop
  stop:Nat->Hp->Prop
def CO (X:Cx) (pins:List (Addr × Obj)) (H:Hp) (b:Addr):Prop:=
  H b=none/\b≠X.env.locals/\b∉X.fs/\(b∈X.ex\/X.s₀.heap.objs.size<=b)/\(∀ x c,X.env.cells.lookup x=some c->c≠b)/\∀ p∈X.pn++pins,p.1≠b
theorem Inv.fpOk {X:Cx} {pins:List (Addr × Obj)} {σ:St} {H H':Hp} {s:Shared} {b:Addr} (I:Inv X pins σ H s) (hb:s.heap.objs.size<=b) (hn:H' b=none):CO X pins H' b:=by
  refine ⟨hn,Nat.ne_of_gt (Nat.lt_of_lt_of_le I.lt hb),I.nofs hb, .inr (Nat.le_trans I.sz hb),λ x c e z=> ?_,λ p hp z=> ?_⟩
  · obtain ⟨v,q⟩:=I.cell x c e;exact absurd (Nat.lt_of_lt_of_le q.lt (by rw [z];exact hb)) (Nat.lt_irrefl _)
  · exact absurd (Nat.lt_of_lt_of_le (Heap.lt_size (I.pin p hp).1) (by rw [z];exact hb)) (Nat.lt_irrefl _)
structure Turn (P:Program) (w:World) (K:PySem.W.Frag) (tg:Expr) (J:It) (fp:List Addr) (it:Addr) (tn:Nat->Heap->Prop):Prop where
  mem:it∈fp
  obj:∀ i h,tn i h->∀ b∈fp,∃ o,h.get? b=some o/\∀ v,o.data≠ .cell v
  keep:∀ i h h',tn i h->(∀ b∈fp,∀ o,h.get? b=some o->h'.get? b=some o)->tn i h'
  item:∀ (X:Cx),X.prog=P->X.w=w->X.K=K->X.calm=true->∀ (i:Nat) (pins:List (Addr × Obj)) (s:Shared) (σ:St) (H:Hp) (E:Value->Shared->Prop),Inv X pins σ H s->(∀ b∈fp,CO X pins H b)->tn i s.heap->J.go i H->
    wpAny (model P w) X.A (pyNext (.ref it)) (λ r s1=>∃ u,r=some u/\
      wpAny (model P w) X.A (letOwnedTupleGo tg (.ref it) u) (λ _ s2=>∃ x H',Inv X pins σ H' s2/\RelV x u/\J.yld i H x H'/\tn (i+1) s2.heap/\∀ b∈fp,H' b=none) E s1) E s
  done:∀ (X:Cx),X.prog=P->X.w=w->X.K=K->X.calm=true->∀ (i:Nat) (pins:List (Addr × Obj)) (s:Shared) (σ:St) (H:Hp) (E:Value->Shared->Prop),Inv X pins σ H s->(∀ b∈fp,CO X pins H b)->tn i s.heap->J.stop i H->
    wpAny (model P w) X.A (pyNext (.ref it)) (λ r s1=>r=none/\Inv X pins σ H s1) E s
  self:∀ (A:Around) (i:Nat) (s:Shared) (Q:Value->Shared->Prop) (E:Value->Shared->Prop),tn i s.heap->Q (.ref it) s->wpAny (model P w) A (pyIter (.ref it)) Q E s
abbrev TI:=St->Hp->(It->Hp->Prop)->Prop
def PIE (X:Cx) (pins:List (Addr × Obj)) (σ:St) (tg:Expr) (R:It->Hp->Prop) (itv:Value) (s2:Shared):Prop:=
  ∃ (it:Addr) (fp:List Addr) (tn:Nat->Heap->Prop) (J:It) (H':Hp),itv= .ref it/\Inv X pins σ H' s2/\Turn X.prog X.w X.K tg J fp it tn/\tn 0 s2.heap/\(∀ b∈fp,CO X pins H' b)/\R J H'
def PI (X:Cx) (tg iter:Expr) (wi:TI):Prop:=
  ∀ (pins:List (Addr × Obj)) (s:Shared) (σ:St) (H:Hp) (R:It->Hp->Prop),Inv X pins σ H s->wi σ H R->
    wpAny (model X.prog X.w) X.A (eval iter X.env) (λ v s1=>wpAny (model X.prog X.w) X.A (pyIter v) (PIE X pins σ tg R) X.xe s1) X.xe s
theorem IB {M:Model} {A:Around} {E:Value->Shared->Prop} {s:Shared} {tg:Expr} {it:Addr} {u:Value} {o:Obj} {n:String} {vs:Array Value} {Q:Unit->Shared->Prop} (ho:s.heap.get? it=some o) (hc:o.cls= .type n) (hd:o.data= .fields vs)
    (hn:["enumerate","zip","dict_itemiterator","dict_reverseitemiterator","odict_iterator","itertools.zip_longest","itertools.pairwise"].contains n=false) (hQ:Q () s):wpAny M A (letOwnedTupleGo tg (.ref it) u) Q E s:=by
  unfold letOwnedTupleGo;cases tg <;> first
    | exact wpAny_pure hQ
    | (cases u <;> first
        | exact wpAny_pure hQ
        | (refine wpAny_bind (wpAny_load ho ?_)
           rw [hc,hd];show wpAny M A (if (["enumerate","zip","dict_itemiterator","dict_reverseitemiterator","odict_iterator","itertools.zip_longest","itertools.pairwise"].contains n&&vs[0]? == some (rawInt _))=true then _ else _) Q E s;rw [if_neg (by intro h;rw [hn,Bool.false_and] at h;cases h)];exact wpAny_pure hQ))
def Itl (K:PySem.W.Frag) (a:Addr):It:=
  ⟨λ i H=>∃ xs x,SqL K H a xs/\xs[i]?=some x,λ i H x H'=>H'=H/\∀ xs,SqL K H a xs->xs[i]?=some x,λ i H=>∃ xs,SqL K H a xs/\xs.length<=i⟩
def Itt (K:PySem.W.Frag) (a:Addr):It:=
  ⟨λ i H=>∃ xs x,SqT K H a xs/\xs[i]?=some x,λ i H x H'=>H'=H/\∀ xs,SqT K H a xs->xs[i]?=some x,λ i H=>∃ xs,SqT K H a xs/\xs.length<=i⟩
def Itr (lo:Int) (n:Nat):It:=⟨λ i _=>i<n,λ i H x H'=>H'=H/\x= .int (lo+i),λ i _=>n<=i⟩
theorem HH {P:Program} {w:World} {K:PySem.W.Frag} {tg:Expr} (a it:Addr):Turn P w K tg (Itl K a) [it] it (λ i h=>h.IsListIter it a i) where
  mem:=by simp
  obj:=λ i h st b hb=>by
    have e:b=it:=by simpa using hb
    subst e;obtain ⟨o,e,c,d⟩:=st;exact ⟨o,e,λ v z=>by rw [d] at z;cases z⟩
  keep:=λ i h h' st k=>st.at λ o e=>k it (by simp) o e
  item:=by
    intro X hP hw hK hc i pins s σ H E I hf st hg;subst hP hw hK;obtain ⟨xs,x,hq,hx⟩:=hg;obtain ⟨its,rv,p,hz⟩:=I.list hq;obtain ⟨u,hu,ru⟩:=rv.get hx;obtain ⟨f0,f1,f2,f3,f4,f5⟩:=hf it (by simp);refine wpAny_pyNext_list_item st p.isList (x:=u) (by simpa using hu) λ h' st' sb=> ?_;have I1:Inv X pins σ H { s with heap:=h' }:=I.turned (t':=s.toks) (λ b o hb e=>(sb.2 b hb).trans e) f0 f1 f3 f4 f5;obtain ⟨o,e,c,d⟩:=id st';exact ⟨u,rfl,IB (s:={ s with heap:=h' }) e c d (by decide) ⟨x,H,I1,ru,⟨rfl,λ ys hy=>by rw [I.list_inj hy hq];exact hx⟩,st',λ b hb=>(hf b hb).1⟩⟩
  done:=by
    intro X hP hw hK hc i pins s σ H E I hf st hg;subst hP hw hK;obtain ⟨xs,hq,hx⟩:=hg;obtain ⟨its,rv,p,hz⟩:=I.list hq;obtain ⟨f0,f1,f2,f3,f4,f5⟩:=hf it (by simp);have hl:=rv.length;exact wpAny_pyNext_list_end (I.ok.hd hc) st p.isList (by simp;omega) λ h' eb=>⟨rfl,I.turned (t':=s.toks) (λ b o hb e=>eb b o hb e) f0 f1 f3 f4 f5⟩
  self:=λ _ _ _ _ _ st h=>wpAny_pyIter_listiter st h
theorem GR {P:Program} {w:World} {K:PySem.W.Frag} {tg:Expr} (it:Addr) (lo:Int) (n:Nat):Turn P w K tg (Itr lo n) [it] it (λ i h=>IsRangeIter h it (lo+(i:Nat)*1) ((n:Int) - (i:Nat)) 1) where
  mem:=by simp
  obj:=λ i h st b hb=>by
    have e:b=it:=by simpa using hb
    subst e;exact ⟨_,st,λ v z=>by
      have z':Data.fields _=Data.cell v:=z;cases z'⟩
  keep:=λ i h h' st k=>k it (by simp) _ st
  item:=by
    intro X hP hw hK hc i pins s σ H E I hf st hg;subst hP hw hK;obtain ⟨f0,f1,f2,f3,f4,f5⟩:=hf it (by simp);have W:=Walks.range (prog:=X.prog) (w:=X.w) (I.ok.hd hc) it lo 1 n;refine W.item i s _ _ hg st λ v h' tk hv st' kk=> ?_;obtain ⟨t,rfl⟩:=hv;have I1:Inv X pins σ H { s with heap:=h',toks:=tk }:=I.turned (λ b o hb e=>kk b o (by simpa using hb) e) f0 f1 f3 f4 f5;refine ⟨_,rfl,IB (s:={ s with heap:=h',toks:=tk }) (n:="range_iterator") st' rfl rfl (by decide) ⟨.int (lo+i),H,I1,⟨t,?_⟩,⟨rfl,rfl⟩,st',λ b hb=>(hf b hb).1⟩⟩;rw [Int.mul_one]
  done:=by
    intro X hP hw hK hc i pins s σ H E I hf st hg;subst hP hw hK;obtain ⟨f0,f1,f2,f3,f4,f5⟩:=hf it (by simp);exact wpAny_pyNext_range_end (I.ok.hd hc) st (by have:n<=i:=hg;omega) λ h' eb=>⟨rfl,I.turned (t':=s.toks) (λ b o hb e=>eb b o hb e) f0 f1 f3 f4 f5⟩
  self:=λ _ _ _ _ _ st h=>wpAny_pyIter_rangeiter st h
section
variable {X:Cx} {tg:Expr}
def Jg (K:PySem.W.Frag) (tl:TE):TI:=λ σ H R=>tl σ H λ x H1=>∃ a,x= .ref a/\(∃ xs,SqL K H1 a xs)/\R (Itl K a) H1
theorem Ky {l:Expr} {tl:TE} (hl:PE X l tl):PI X tg l (Jg X.K tl):=by
  intro pins s σ H R I h;refine thn (hl pins s σ H _ I h) λ v s1 ⟨x,H1,I1,r1,q1⟩=> ?_;obtain ⟨a,e,⟨xs,hq⟩,q⟩:=q1;subst e;cases r1;obtain ⟨its,rv,p,hz⟩:=I1.list hq;refine wpAny_pyIter_list p.isList ?_;refine ⟨s1.heap.objs.size,[s1.heap.objs.size],_,_,H1,rfl,I1.kept (t':=s1.toks) λ b o e=>Heap.get?_push_of_some _ e,HH a _,⟨_,Heap.get?_push_size _ rfl,rfl,rfl⟩,λ b hb=> ?_,q⟩;have e:b=s1.heap.objs.size:=by simpa using hb
  subst e;exact I1.fpOk (Nat.le_refl _) (I1.hok.fresh (Nat.le_refl _))
theorem JK {pins:List (Addr × Obj)} {σ:St} {H:Hp} {s:Shared} {R:It->Hp->Prop} {E:Value->Shared->Prop} {lo hi:Int} {t u v:Tok} {tk:Nat} (I:Inv X pins σ H s) (h1: -(2 ^ 62)<=lo) (h2:lo<2 ^ 62) (h3: -(2 ^ 62)<=hi) (h4:hi<2 ^ 62)
    (q:R (Itr lo (hi - lo).toNat) H):wpAny (model X.prog X.w) X.A (pyIter (.ref s.heap.objs.size)) (PIE X pins σ tg R) E { s with heap:=s.heap.push { cls:= .type "range",data:= .fields #[.int lo t, .int hi u, .int 1 v] },toks:=tk }:=by
  refine wpAny_pyIter_range (IsRange.new ..) (small_one h1 h2 h3 h4) ?_;have I1:Inv X pins σ H { s with heap:=s.heap.push { cls:= .type "range",data:= .fields #[.int lo t, .int hi u, .int 1 v] },toks:=tk }:=I.kept λ b o e=>Heap.get?_push_of_some _ e;refine ⟨(s.heap.push { cls:= .type "range",data:= .fields #[.int lo t, .int hi u, .int 1 v] }).objs.size,[(s.heap.push { cls:= .type "range",data:= .fields #[.int lo t, .int hi u, .int 1 v] }).objs.size],_,_,H,rfl,
    I1.kept (t':=tk) λ b o e=>Heap.get?_push_of_some _ e,GR _ lo (hi - lo).toNat,?_,λ b hb=> ?_,q⟩
  · have e1:lo+((0:Nat):Int)*1=lo:=by simp
    have e2:(((hi - lo).toNat:Nat):Int) - ((0:Nat):Int)=Builtin.Range.rangeSize lo hi 1:=by rw [rangeSize_one];split <;> omega
    show IsRangeIter _ _ (lo+((0:Nat):Int)*1) ((((hi - lo).toNat:Nat):Int) - ((0:Nat):Int)) 1;rw [e1,e2];exact Heap.get?_push_size _ rfl
  · have e:b=(s.heap.push { cls:= .type "range",data:= .fields #[.int lo t, .int hi u, .int 1 v] }).objs.size:=by simpa using hb
    subst e;exact I1.fpOk (Nat.le_refl _) (I1.hok.fresh (Nat.le_refl _))
def LM (ta:TA):TI:=λ σ H R=>ta σ H λ vs H1=>∃ j:Int,vs=[.int j]/\ -(2 ^ 62)<=j/\j<2 ^ 62/\R (Itr 0 j.toNat) H1
theorem HJ {a:Expr} {ta:TA} {p pos:Pos} (hg:Gl X "range") (hm:X.mg "range"=none) (ha:PA X [a] ta) (hs:starEach [a] X.env=[(false,eval a X.env)]:=by rfl):PI X tg (.Call (.Name "range" p) [a] [] pos) (LM ta):=by
  intro pins s σ H R I h;refine Call_ (DY I hg hm boot_range (PyProof.Rows.callWith_type1 (thn (ha pos pins s σ H _ I h) λ us s1 ⟨vs,H1,I1,r1,q1⟩=> ?_) hs rfl));obtain ⟨j,e,q1,q2,q⟩:=q1;subst e;cases r1 with
  | cons r rr=>
    cases rr;obtain ⟨t,rfl⟩:=r;exact call_range_1 (JK I1 (by omega) (by omega) q1 q2 (by simpa using q))
def N8 (wi:TI) (g:TG) (tb:TS):TS:=λ D σ H=>wi σ H λ J H1=>∃ W:Nat->Nat->St->Hp->Prop,(∃ m,W 0 m σ H1)/\∀ i m σ H,W i m σ H->
  (J.stop i H/\D.nx σ H)\/(J.go i H/\∃ N:St->Hp->Prop,(∀ σ' H',N σ' H'->∃ m',m'<m/\W (i+1) m' σ' H')/\∀ x H',J.yld i H x H'->g x σ H' λ σ2 H2=>tb { D with nx:=N,ct:=N,bk:=D.nx } σ2 H2)
def EF (fp:List Addr) (h:Heap):List (Addr × Obj):=fp.filterMap λ b=>(h.get? b).map λ o=>(b,o)
theorem BW {fp:List Addr} {h:Heap} {b:Addr} {o:Obj} (hb:b∈fp) (e:h.get? b=some o):(b,o)∈EF fp h:=List.mem_filterMap.mpr ⟨b,hb,by rw [e];rfl⟩
theorem HR {fp:List Addr} {h:Heap} {p:Addr × Obj} (hp:p∈EF fp h):p.1∈fp/\h.get? p.1=some p.2:=by
  obtain ⟨b,hb,e⟩:=List.mem_filterMap.mp hp;cases q:h.get? b with
  | none=>rw [q] at e;cases e
  | some o=>
    rw [q] at e;have e':(b,o)=p:=Option.some.inj e;subst e';exact ⟨hb,q⟩
theorem Inv.pinned {pins:List (Addr × Obj)} {σ:St} {H:Hp} {s:Shared} {fp:List Addr} (I:Inv X pins σ H s) (hf:∀ b∈fp,CO X pins H b) (ho:∀ b∈fp,∃ o,s.heap.get? b=some o/\∀ v,o.data≠ .cell v):Inv X (pins++EF fp s.heap) σ H s:=
  I.pins_of λ p hp=>(List.mem_append.mp hp).elim (λ z=>I.pin p (List.mem_append_right _ z)) λ z=>by
    obtain ⟨hb,e⟩:=HR z;obtain ⟨f0,f1,f2,_⟩:=hf p.1 hb;obtain ⟨o,e',d⟩:=ho p.1 hb;rw [e] at e';cases e';exact ⟨e,f0,f1,f2,d⟩
theorem Inv.unpinned {pins pl:List (Addr × Obj)} {σ:St} {H:Hp} {s:Shared} (I:Inv X (pins++pl) σ H s):Inv X pins σ H s:=I.pins_of λ p hp=>I.pin p (List.mem_append_right _ (List.mem_append_left _ hp))
theorem Gy {iter:Expr} {body:List Stmt} {wi:TI} {g:TG} {tb:TS} {pos:Pos} (hp:PassesOwn (model X.prog X.w) X.A X.env X.xe) (hc:X.calm=true) (hi:PI X tg iter wi) (hg:PG X tg g) (hb:PSs X body tb)
    (hs:∀ x,foldedSetIterable iter X.env x=pure x:=by intro _;rfl):PS X (.For tg iter body [] pos) (N8 wi g tb):=by
  intro pins s σ H D I h;refine wpAny_For (thn (hi pins s σ H _ I h) λ v s1 h1=>thn h1 λ itv s2 h2=> ?_) hs;obtain ⟨it,fp,tn,J,H2,e,I2,T,st2,f2,W,⟨m0,w0⟩,turn⟩:=h2;subst e;have stat:∀ {H':Hp},(∀ b∈fp,H' b=none)->∀ b∈fp,CO X pins H' b:=λ hn b hb=>⟨hn b hb,(f2 b hb).2⟩;refine codeAny_forLoop_any (λ n s'=>∃ i σ' H',Inv X pins σ' H' s'/\tn i s'.heap/\(∀ b∈fp,H' b=none)/\W i n σ' H') ?_ m0 ⟨0,σ,H2,I2,st2,λ b hb=>(f2 b hb).1,w0⟩;rintro n s3 ⟨i,σ3,H3,I3,st3,fr3,w3⟩;rcases turn i n σ3 H3 w3 with ⟨stop,qn⟩ | ⟨go,N,hN,step⟩
  · refine wpAny_passesOwn hp (thn (T.done X rfl rfl rfl hc i pins s3 σ3 H3 X.xe I3 (stat fr3) st3 stop) λ r s4 ⟨hr,I4⟩=> ?_);subst hr;exact wpAny_execs_nil ⟨σ3,H3,I4,qn⟩
  · refine wpAny_passesOwn hp (thn (T.item X rfl rfl rfl hc i pins s3 σ3 H3 X.xe I3 (stat fr3) st3 go) λ r s4 ⟨u,hr,h4⟩=> ?_);subst hr;refine wpAny_passesOwn hp (thn h4 λ _ s5 ⟨x,H5,I5,r5,y5,st5,fr5⟩=> ?_);have I5':=I5.pinned (stat fr5) (T.obj _ _ st5);refine wpAny_passesOwn hp (thn (hg _ s5 σ3 H5 x u _ I5' r5 (step x H5 y5)) λ _ s6 ⟨σ6,H6,I6,q6⟩=> ?_);refine wpAny_passesOwn hp (thn (hb _ s6 σ6 H6 _ I6 q6) λ f s7 q7=> ?_);have again:∀ {σ7:St} {H7:Hp},Inv X (pins++EF fp s5.heap) σ7 H7 s7->N σ7 H7->∃ m,m<n/\∃ i σ' H',Inv X pins σ' H' s7/\tn i s7.heap/\(∀ b∈fp,H' b=none)/\W i m σ' H':=λ {σ7 H7} I7 n7=>by
      obtain ⟨m',hm,w7⟩:=hN σ7 H7 n7;refine ⟨m',hm,i+1,σ7,H7,I7.unpinned,T.keep _ _ _ st5 λ b hb o e=>(I7.pin (b,o) (List.mem_append_right _ (List.mem_append_right _ (BW hb e)))).1,λ b hb=> ?_,w7⟩;obtain ⟨o,e,d⟩:=T.obj _ _ st5 b hb;exact (I7.pin (b,o) (List.mem_append_right _ (List.mem_append_right _ (BW hb e)))).2.1
    cases f with
    | next=>obtain ⟨σ7,H7,I7,n7⟩:=q7;exact again I7 n7
    | cont=>obtain ⟨σ7,H7,I7,n7⟩:=q7;exact again I7 n7
    | brk=>obtain ⟨σ7,H7,I7,q7⟩:=q7;exact ⟨σ7,H7,I7.unpinned,q7⟩
    | ret v=>obtain ⟨x7,σ7,H7,I7,r7,q7⟩:=q7;exact ⟨x7,σ7,H7,I7.unpinned,r7,q7⟩
end
abbrev R2:=V->V->Hp->VK->Prop
def OpR (X:Cx) (f:Value->Value->Sem Value) (r:R2):Prop:=
  ∀ (pins:List (Addr × Obj)) (s:Shared) (σ:St) (H:Hp) (x y:V) (v u:Value) (Q:VK),Inv X pins σ H s->RelV x v->RelV y u->r x y H Q->
    wpAny (model X.prog X.w) X.A (f v u) (EP X pins σ Q) X.xe s
def UnR (X:Cx) (f:Value->Sem Value) (r:V->Hp->VK->Prop):Prop:=
  ∀ (pins:List (Addr × Obj)) (s:Shared) (σ:St) (H:Hp) (x:V) (v:Value) (Q:VK),Inv X pins σ H s->RelV x v->r x H Q->
    wpAny (model X.prog X.w) X.A (f v) (EP X pins σ Q) X.xe s
def Ba (X:Cx) (f:Value) (r:List V->Hp->VK->Prop):Prop:=
  ∀ (pins:List (Addr × Obj)) (s:Shared) (σ:St) (H:Hp) (xs:List V) (us:List Value) (Q:VK),Inv X pins σ H s->Vals xs us->r xs H Q->
    wpAny (model X.prog X.w) X.A (call f us) (EP X pins σ Q) X.xe s
def Qw (X:Cx) (r:V->Hp->(Bool->Hp->Prop)->Prop):Prop:=
  ∀ (pins:List (Addr × Obj)) (s:Shared) (σ:St) (H:Hp) (x:V) (v:Value) (Q:Bool->Hp->Prop),Inv X pins σ H s->RelV x v->r x H Q->
    wpAny (model X.prog X.w) X.A (truthy v) (TP X pins σ Q) X.xe s
def tOp (r:R2) (ta tb:TE):TE:=λ σ H Q=>ta σ H λ x H1=>tb σ H1 λ y H2=>r x y H2 Q
def tUn (r:V->Hp->VK->Prop) (ta:TE):TE:=λ σ H Q=>ta σ H λ x H1=>r x H1 Q
def rI (C:Int->Int->Prop) (g:Int->Int->V):R2:=λ x y H Q=>∃ i j,x= .int i/\y= .int j/\C i j/\Q (g i j) H
def rI0 (g:Int->Int->V):R2:=λ x y H Q=>∃ i j,x= .int i/\y= .int j/\Q (g i j) H
def rU (g:Int->V):V->Hp->VK->Prop:=λ x H Q=>∃ i,x= .int i/\Q (g i) H
section
variable {X:Cx} {a b c:Expr} {ta tb tc:TE} {pos:Pos}
theorem Nd (ha:PE X a ta) (hb:PE X b tb) {pins:List (Addr × Obj)} {s:Shared} {σ:St} {H:Hp} {R:V->V->Hp->Prop} (I:Inv X pins σ H s)
    (h:ta σ H λ x H1=>tb σ H1 λ y H2=>R x y H2) {Q:Value->Shared->Prop} {f:Value->Value->Sem Value}
    (hf:∀ v u s2 x y H2,Inv X pins σ H2 s2->RelV x v->RelV y u->R x y H2->wpAny (model X.prog X.w) X.A (f v u) Q X.xe s2):
    wpAny (model X.prog X.w) X.A (eval a X.env) (λ v s₁=>wpAny (model X.prog X.w) X.A (eval b X.env) (λ u s₂=>wpAny (model X.prog X.w) X.A (f v u) Q X.xe s₂) X.xe s₁) X.xe s:=by
  refine thn (ha pins s σ H _ I h) λ v s1 ⟨x,H1,I1,r1,q1⟩=> ?_;refine thn (hb pins s1 σ H1 _ I1 q1) λ u s2 ⟨y,H2,I2,r2,q2⟩=> ?_;exact hf v u s2 x y H2 I2 r1 r2 q2
theorem Am {op:Operator} {r:R2} (ho:OpR X (binaryOp op) r) (ha:PE X a ta) (hb:PE X b tb):PE X (.BinOp a op b pos) (tOp r ta tb):=by
  intro pins s σ H Q I h;exact wpAny_BinOp (Nd ha hb I h λ v u s2 x y H2 I2 rx ry q=>ho pins s2 σ H2 x y v u Q I2 rx ry q)
theorem EV {op:UnaryOp} {r:V->Hp->VK->Prop} (ho:UnR X (unaryOp op) r) (ha:PE X a ta):PE X (.UnaryOp op a pos) (tUn r ta):=by
  intro pins s σ H Q I h;exact UnaryOp_ (thn (ha pins s σ H _ I h) λ v s1 ⟨x,H1,I1,r1,q1⟩=>ho pins s1 σ H1 x v Q I1 r1 q1)
theorem opI {f:Value->Value->Sem Value} {C:Int->Int->Prop} {g:Int->Int->Int}
    (rule:∀ (i j:Int) (t u:Tok) (s:Shared) (Q:Value->Shared->Prop) (E:Value->Shared->Prop),C i j->Q (.int (g i j) s.toks) { s with toks:=s.toks+1 }->wpAny (model X.prog X.w) X.A (f (.int i t) (.int j u)) Q E s):
    OpR X f (rI C λ i j=> .int (g i j)):=by
  intro pins s σ H x y v u Q I rx ry h;obtain ⟨i,j,rfl,rfl,hc,q⟩:=h;obtain ⟨t,rfl⟩:=rx;obtain ⟨t',rfl⟩:=ry;exact rule i j t t' s _ _ hc ⟨.int (g i j),H,I.tok _,⟨_,rfl⟩,q⟩
theorem M6 {f:Value->Value->Sem Value} {g:Int->Int->Int}
    (rule:∀ (i j:Int) (t u:Tok) (s:Shared) (Q:Value->Shared->Prop) (E:Value->Shared->Prop),Q (.int (g i j) s.toks) { s with toks:=s.toks+1 }->wpAny (model X.prog X.w) X.A (f (.int i t) (.int j u)) Q E s):
    OpR X f (rI0 λ i j=> .int (g i j)):=by
  intro pins s σ H x y v u Q I rx ry h;obtain ⟨i,j,rfl,rfl,q⟩:=h;obtain ⟨t,rfl⟩:=rx;obtain ⟨t',rfl⟩:=ry;exact rule i j t t' s _ _ ⟨.int (g i j),H,I.tok _,⟨_,rfl⟩,q⟩
theorem L7 {f:Value->Value->Sem Value} {g:Int->Int->Bool}
    (rule:∀ (i j:Int) (t u:Tok) (s:Shared) (Q:Value->Shared->Prop) (E:Value->Shared->Prop),Q (.bool (g i j)) s->wpAny (model X.prog X.w) X.A (f (.int i t) (.int j u)) Q E s):
    OpR X f (rI0 λ i j=> .bl (g i j)):=by
  intro pins s σ H x y v u Q I rx ry h;obtain ⟨i,j,rfl,rfl,q⟩:=h;obtain ⟨t,rfl⟩:=rx;obtain ⟨t',rfl⟩:=ry;exact rule i j t t' s _ _ ⟨.bl (g i j),H,I,rfl,q⟩
def CMul (i j:Int):Prop:=(-(2 ^ 64)<i/\i<2 ^ 64)\/(-(2 ^ 64)<j/\j<2 ^ 64)
theorem CMul.ok {i j:Int} (h:CMul i j):IntMulOk i j:=by
  rcases h with ⟨h1,h2⟩ | ⟨h1,h2⟩
  · exact .of_left (intBits_le_64 h1 h2)
  · exact .of_right (intBits_le_64 h1 h2)
theorem AG:OpR X (binaryOp .Add) (rI0 λ i j=> .int (i+j)):=M6 λ _ _ _ _ _ _ _ q=>add_int q
theorem By:OpR X (binaryOp .Sub) (rI0 λ i j=> .int (i - j)):=M6 λ _ _ _ _ _ _ _ q=>sub_int q
theorem EE:OpR X (binaryOp .Mult) (rI CMul λ i j=> .int (i*j)):=opI λ _ _ _ _ _ _ _ hc q=>mul_int q hc.ok
theorem AS:OpR X (binaryOp .Mod) (rI (λ _ j=>0<j) λ i j=> .int (i%j)):=opI λ i j _ _ _ _ _ hc q=>by
  have h1:(0:Int)<j:=hc;exact mod_int' (by omega) (by rw [Int.fmod_eq_emod_of_nonneg i (by omega)];exact q)
theorem Li:OpR X (inplaceOp .Add) (rI0 λ i j=> .int (i+j)):=M6 λ _ _ _ _ _ _ _ q=>iadd_int q
theorem unI {f:Value->Sem Value} {g:Int->Int}
    (rule:∀ (i:Int) (t:Tok) (s:Shared) (Q:Value->Shared->Prop) (E:Value->Shared->Prop),Q (.int (g i) s.toks) { s with toks:=s.toks+1 }->wpAny (model X.prog X.w) X.A (f (.int i t)) Q E s):
    UnR X f (rU λ i=> .int (g i)):=by
  intro pins s σ H x v Q I rx h;obtain ⟨i,rfl,q⟩:=h;obtain ⟨t,rfl⟩:=rx;exact rule i t s _ _ ⟨.int (g i),H,I.tok _,⟨_,rfl⟩,q⟩
theorem Dm:UnR X (unaryOp .USub) (rU λ i=> .int (-i)):=unI λ _ _ _ _ _ q=>neg_int q
end
def Pc:V->V->Bool
  | .non, .non=>true | .non, .int _=>true | .int _, .non=>true | .non, .bl _=>true | .bl _, .non=>true | .non, .str _=>true | .str _, .non=>true
  | .int _, .int _=>true | .bl _, .bl _=>true | .str _, .str _=>true | .byt _, .byt _=>true
  | .int _, .str _=>true | .str _, .int _=>true | .bl _, .str _=>true | .str _, .bl _=>true
  | _,_=>false
def rEq:R2:=λ x y H Q=>Pc x y=true/\Q (.bl (decide (x=y))) H
def rNe:R2:=λ x y H Q=>Pc x y=true/\Q (.bl (!decide (x=y))) H
theorem Hj {i j:Int}:decide (V.int i=V.int j)=(i == j):=by
  rw [Bool.eq_iff_iff];simp
theorem IF {i j:Bool}:decide (V.bl i=V.bl j)=(i == j):=by
  rw [Bool.eq_iff_iff];simp
theorem G4 {i j:Str}:decide (V.str i=V.str j)=(i == j):=by
  rw [Bool.eq_iff_iff];simp
theorem GS {i j:Array UInt8}:decide (V.byt i=V.byt j)=(i.toList == j.toList):=by
  rw [Bool.eq_iff_iff];cases i;cases j;simp
section
variable {X:Cx} {a b c:Expr} {ta tb tc:TE} {pos:Pos}
theorem Au {pins:List (Addr × Obj)} {σ:St} {H:Hp} {s:Shared} {Q:VK} {k k':Bool} (I:Inv X pins σ H s) (q:Q (.bl k) H) (e:k=k'):EP X pins σ Q (.bool k') s:=by
  subst e;exact ⟨.bl k,H,I,rfl,q⟩
theorem BH:OpR X (compareOp .Eq) rEq:=by
  intro pins s σ H x y v u Q I rx ry h;obtain ⟨hs,q⟩:=h;cases x with
  | non=>
    cases rx;cases y with
    | non=>cases ry;exact PySem.EqNone.eq_none_none (Au I q (by simp))
    | bl j=>cases ry;exact PySem.EqNone.eq_none_bool (Au I q (by simp))
    | int j=>obtain ⟨t',rfl⟩:=ry;exact PySem.EqNone.eq_none_int (Au I q (by simp))
    | str j=>obtain ⟨t',rfl⟩:=ry;exact PySem.EqNone.eq_none_str (Au I q (by simp))
    | _=>exact absurd (show false=true from hs) Bool.false_ne_true
  | bl i=>
    cases rx;cases y with
    | non=>cases ry;exact PySem.EqNone.eq_bool_none (Au I q (by simp))
    | bl j=>cases ry;exact eq_bool (Au I q IF)
    | str j=>obtain ⟨t',rfl⟩:=ry;exact PySem.EqMixed.eq_bool_str (Au I q (by simp))
    | _=>exact absurd (show false=true from hs) Bool.false_ne_true
  | int i=>
    obtain ⟨t,rfl⟩:=rx;cases y with
    | non=>cases ry;exact PySem.EqNone.eq_int_none (Au I q (by simp))
    | int j=>obtain ⟨t',rfl⟩:=ry;exact eq_int (Au I q Hj)
    | str j=>obtain ⟨t',rfl⟩:=ry;exact PySem.EqMixed.eq_int_str (Au I q (by simp))
    | _=>exact absurd (show false=true from hs) Bool.false_ne_true
  | str i=>
    obtain ⟨t,rfl⟩:=rx;cases y with
    | non=>cases ry;exact PySem.EqNone.eq_str_none (Au I q (by simp))
    | bl j=>cases ry;exact PySem.EqMixed.eq_str_bool (Au I q (by simp))
    | int j=>obtain ⟨t',rfl⟩:=ry;exact PySem.EqMixed.eq_str_int (Au I q (by simp))
    | str j=>obtain ⟨t',rfl⟩:=ry;exact eq_str (Au I q G4)
    | _=>exact absurd (show false=true from hs) Bool.false_ne_true
  | byt i=>
    obtain ⟨t,rfl⟩:=rx;cases y with
    | byt j=>obtain ⟨t',rfl⟩:=ry;exact PySem.W.eq_bytes (Au I q GS)
    | _=>exact absurd (show false=true from hs) Bool.false_ne_true
  | _=>cases y <;> exact absurd (show false=true from hs) Bool.false_ne_true
theorem J8:OpR X (compareOp .NotEq) rNe:=by
  intro pins s σ H x y v u Q I rx ry h;obtain ⟨hs,q⟩:=h;cases x with
  | non=>
    cases rx;cases y with
    | non=>cases ry;exact PySem.EqNone.ne_none_none (Au I q (by simp))
    | bl j=>cases ry;exact PySem.EqNone.ne_none_bool (Au I q (by simp))
    | int j=>obtain ⟨t',rfl⟩:=ry;exact PySem.EqNone.ne_none_int (Au I q (by simp))
    | str j=>obtain ⟨t',rfl⟩:=ry;exact PySem.EqNone.ne_none_str (Au I q (by simp))
    | _=>exact absurd (show false=true from hs) Bool.false_ne_true
  | bl i=>
    cases rx;cases y with
    | non=>cases ry;exact PySem.EqNone.ne_bool_none (Au I q (by simp))
    | bl j=>cases ry;exact ne_bool (Au I q (congrArg not IF))
    | str j=>obtain ⟨t',rfl⟩:=ry;exact PySem.EqMixed.ne_bool_str (Au I q (by simp))
    | _=>exact absurd (show false=true from hs) Bool.false_ne_true
  | int i=>
    obtain ⟨t,rfl⟩:=rx;cases y with
    | non=>cases ry;exact PySem.EqNone.ne_int_none (Au I q (by simp))
    | int j=>obtain ⟨t',rfl⟩:=ry;exact ne_int (Au I q (congrArg not Hj))
    | str j=>obtain ⟨t',rfl⟩:=ry;exact PySem.EqMixed.ne_int_str (Au I q (by simp))
    | _=>exact absurd (show false=true from hs) Bool.false_ne_true
  | str i=>
    obtain ⟨t,rfl⟩:=rx;cases y with
    | non=>cases ry;exact PySem.EqNone.ne_str_none (Au I q (by simp))
    | bl j=>cases ry;exact PySem.EqMixed.ne_str_bool (Au I q (by simp))
    | int j=>obtain ⟨t',rfl⟩:=ry;exact PySem.EqMixed.ne_str_int (Au I q (by simp))
    | str j=>obtain ⟨t',rfl⟩:=ry;exact ne_str (Au I q (congrArg not G4))
    | _=>exact absurd (show false=true from hs) Bool.false_ne_true
  | byt i=>
    obtain ⟨t,rfl⟩:=rx;cases y with
    | byt j=>obtain ⟨t',rfl⟩:=ry;exact PySem.W.ne_bytes (Au I q (congrArg not GS))
    | _=>exact absurd (show false=true from hs) Bool.false_ne_true
  | _=>cases y <;> exact absurd (show false=true from hs) Bool.false_ne_true
theorem LO:OpR X (compareOp .Lt) (rI0 λ i j=> .bl (decide (i<j))):=L7 λ _ _ _ _ _ _ _ q=>lt_int q
theorem He:OpR X (compareOp .LtE) (rI0 λ i j=> .bl (decide (i<=j))):=L7 λ _ _ _ _ _ _ _ q=>le_int q
theorem Ci:OpR X (compareOp .Gt) (rI0 λ i j=> .bl (decide (j<i))):=L7 λ _ _ _ _ _ _ _ q=>gt_int q
theorem Do:OpR X (compareOp .In) (λ x y H Q=>∃ i j,x= .str i/\y= .str j/\Q (.bl (!(Builtin.Str.occurrences j i 0 j.length 1).isEmpty)) H):=by
  intro pins s σ H x y v u Q I rx ry h;obtain ⟨i,j,rfl,rfl,q⟩:=h;obtain ⟨t,rfl⟩:=rx;obtain ⟨t',rfl⟩:=ry;exact in_str (Au I q rfl)
theorem IK:OpR X (compareOp .Is) (λ x y H Q=>y= .non/\Q (.bl (decide (x= .non))) H):=by
  intro pins s σ H x y v u Q I rx ry h;obtain ⟨rfl,q⟩:=h;cases ry;refine is_none_gen (Au I q ?_);cases x <;> first
    | (cases rx;rfl)
    | (obtain ⟨t,rfl⟩:=rx;rfl)
theorem DR:OpR X (compareOp .IsNot) (λ x y H Q=>y= .non/\Q (.bl (!decide (x= .non))) H):=by
  intro pins s σ H x y v u Q I rx ry h;obtain ⟨rfl,q⟩:=h;cases ry;refine isnot_none_gen (Au I q ?_);cases x <;> first
    | (cases rx;rfl)
    | (obtain ⟨t,rfl⟩:=rx;rfl)
theorem Fm:OpR X (compareOp .NotIn) (λ x y H Q=>∃ i j,x= .str i/\y= .str j/\Q (.bl (!(!(Builtin.Str.occurrences j i 0 j.length 1).isEmpty))) H):=by
  intro pins s σ H x y v u Q I rx ry h;obtain ⟨i,j,rfl,rfl,q⟩:=h;obtain ⟨t,rfl⟩:=rx;obtain ⟨t',rfl⟩:=ry;exact notIn_str (Au I q rfl)
theorem Ap (b:Expr) {op:CmpOp} (h:op≠ .In:=by decide) (h2:op≠ .NotIn:=by decide):behindInMarks op b=false:=by
  have e1:(op == CmpOp.In)=false:=by cases op <;> first | rfl | exact absurd rfl h
  have e2:(op == CmpOp.NotIn)=false:=by cases op <;> first | rfl | exact absurd rfl h2
  cases b <;> simp [behindInMarks,e1,e2]
theorem Bv {op:CmpOp} {r:R2} (ho:OpR X (compareOp op) r) (ha:PE X a ta) (hb:PE X b tb) (hm:behindInMarks op b=false):PE X (.Compare a [op] [b] pos) (tOp r ta tb):=by
  intro pins s σ H Q I h;exact wpAny_Compare1 (Nd ha hb I h λ v u s2 x y H2 I2 rx ry q=>ho pins s2 σ H2 x y v u Q I2 rx ry q) hm
def Jk (t:TE):TT:=λ σ H Q=>t σ H λ x H'=>∃ k,x= .bl k/\Q k H'
theorem Al {op:CmpOp} {r:R2} (ho:OpR X (compareOp op) r) (ha:PE X a ta) (hb:PE X b tb) (hm:behindInMarks op b=false):PT X (.Compare a [op] [b] pos) (Jk (tOp r ta tb)):=by
  intro pins s σ H Q I h;refine wpAny_isTrue_Compare1 (thn (ha pins s σ H _ I h) λ v s1 ⟨x,H1,I1,r1,q1⟩=>thn (hb pins s1 σ H1 _ I1 q1) λ u s2 ⟨y,H2,I2,r2,q2⟩=>
    thn (ho pins s2 σ H2 x y v u _ I2 r1 r2 q2) λ c s3 ⟨z,H3,I3,r3,k,e,q3⟩=> ?_) hm
  subst e;cases r3;exact wpAny_truthy_bool ⟨H3,I3,q3⟩
def GI (r r':R2) (ta tb tc:TE):TE:=λ σ H Q=>ta σ H λ x H1=>tb σ H1 λ y H2=>r x y H2 λ z H3=>∃ k,z= .bl k/\
  (if k=true then tc σ H3 λ w' H4=>r' y w' H4 Q else Q (.bl false) H3)
theorem JO {op op':CmpOp} {r r':R2} (ho:OpR X (compareOp op) r) (ho':OpR X (compareOp op') r') (ha:PE X a ta) (hb:PE X b tb) (hc:PE X c tc)
    (hm:lastMarks [op,op'] [b,c]=false:=by with_unfolding_all rfl):PE X (.Compare a [op,op'] [b,c] pos) (GI r r' ta tb tc):=by
  intro pins s σ H Q I h;refine Compare_chain (thn (ha pins s σ H _ I h) λ v s1 ⟨x,H1,I1,r1,q1⟩=>chain_link (thn (hb pins s1 σ H1 _ I1 q1) λ u s2 ⟨y,H2,I2,r2,q2⟩=>
    thn (ho pins s2 σ H2 x y v u _ I2 r1 r2 q2) λ d s3 ⟨z,H3,I3,r3,k,e,q3⟩=> ?_)) hm
  subst e;cases r3;refine wpAny_truthy_bool ?_;cases k with
  | false=>exact ite_ff ⟨.bl false,H3,I3,rfl,q3⟩
  | true=>exact ite_tt (chain_last (thn (hc pins s3 σ H3 _ I3 q3) λ w' s4 ⟨z',H4,I4,r4,q4⟩=>ho' pins s4 σ H4 y z' u w' Q I4 r2 r4 q4))
theorem JV {op op':CmpOp} {r r':R2} (ho:OpR X (compareOp op) r) (ho':OpR X (compareOp op') r') (ha:PE X a ta) (hb:PE X b tb) (hc:PE X c tc)
    (hm:lastMarks [op,op'] [b,c]=false:=by with_unfolding_all rfl):PT X (.Compare a [op,op'] [b,c] pos) (Jk (GI r r' ta tb tc)):=by
  intro pins s σ H Q I h;refine isTrue_chain (thn (ha pins s σ H _ I h) λ v s1 ⟨x,H1,I1,r1,q1⟩=>test_link (thn (hb pins s1 σ H1 _ I1 q1) λ u s2 ⟨y,H2,I2,r2,q2⟩=>
    thn (ho pins s2 σ H2 x y v u _ I2 r1 r2 q2) λ d s3 ⟨z,H3,I3,r3,k,e,q3⟩=> ?_)) hm
  subst e;cases r3;refine wpAny_truthy_bool ?_;cases k with
  | false=>
    obtain ⟨k',e',q'⟩:=q3;cases e';exact ite_ff ⟨H3,I3,q'⟩
  | true=>
    refine ite_tt (test_last (thn (hc pins s3 σ H3 _ I3 q3) λ w' s4 ⟨z',H4,I4,r4,q4⟩=>thn (ho' pins s4 σ H4 y z' u w' _ I4 r2 r4 q4) λ d' s5 ⟨z2,H5,I5,r5,k2,e2,q5⟩=> ?_));subst e2;cases r5;exact wpAny_truthy_bool ⟨H5,I5,q5⟩
def Qp (K:PySem.W.Frag) (x:V) (H:Hp) (k:Bool):Prop:=
  match x with
  | .non=>k=false
  | .bl b=>k=b
  | .int i=>k=(i != 0)
  | .str y=>y.length<=sizeLine/\k=((y.length:Int) != 0)
  | .byt y=>y.size<=sizeLine/\k=((y.size:Int) != 0)
  | .ref p=>(∃ xs,SqL K H p xs/\k= !xs.isEmpty)\/(∃ xs,SqT K H p xs/\k= !xs.isEmpty)\/∃ kvs,H p=some (.dK kvs)/\k= !kvs.isEmpty
  | _=>False
theorem Gz {κ:Type} {kvs:List (κ × V)} {vs:List (κ × Value)} (r:KV kvs vs):(!vs.isEmpty)= !kvs.isEmpty:=by
  cases r <;> rfl
theorem Ea {xs:List V} {its:List Value} (r:Vals xs its):(!its.toArray.isEmpty)= !xs.isEmpty:=by
  cases r <;> simp
theorem FD:(sizeLine:Nat)<2 ^ 63:=by rw [sizeLine_eq];decide
theorem Ql:Qw X (λ x H Q=>∃ k,Qp X.K x H k/\Q k H):=by
  intro pins s σ H x v Q I rx h;obtain ⟨k,e,q⟩:=h;have hl:=FD;have hs:sizeLine=16777216:=sizeLine_eq;cases x with
  | non=>
    cases rx;have e':k=false:=e;subst e';exact truthy_none ⟨H,I,q⟩
  | bl b=>
    cases rx;have e':k=b:=e;subst e';exact wpAny_truthy_bool ⟨H,I,q⟩
  | int i=>
    obtain ⟨t,rfl⟩:=rx;have e':k=(i != 0):=e;subst e';exact PySem.P.truthy_int ⟨H,I,q⟩
  | str y=>
    obtain ⟨t,rfl⟩:=rx;obtain ⟨hy,e'⟩:y.length<=sizeLine/\k=((y.length:Int) != 0):=e;subst e';exact PySem.P.truthy_str (by omega) ⟨H,I.tok _,q⟩
  | byt y=>
    obtain ⟨t,rfl⟩:=rx;obtain ⟨hy,e'⟩:y.size<=sizeLine/\k=((y.size:Int) != 0):=e;subst e';exact PySem.W.truthy_bytes (by omega) ⟨H,I.tok _,q⟩
  | ref p=>
    cases rx;have e':(∃ xs,SqL X.K H p xs/\k= !xs.isEmpty)\/(∃ xs,SqT X.K H p xs/\k= !xs.isEmpty)\/∃ kvs,H p=some (.dK kvs)/\k= !kvs.isEmpty:=e;rcases e' with ⟨xs,hx,e'⟩ | ⟨xs,hx,e'⟩ | ⟨kvs,hx,e'⟩
    · subst e';obtain ⟨its,r,pl,hz⟩:=I.list hx;have hlen:=r.length;exact wpAny_truthy_list pl.isList (by simp only [List.size_toArray];omega) ⟨H,I.tok _,by rw [Ea r];exact q⟩
    · subst e';obtain ⟨its,r,pl,hz⟩:=I.tuple hx;have hlen:=r.length;exact truthy_tuple pl (by simp only [List.size_toArray];omega) ⟨H,I.tok _,by rw [Ea r];exact q⟩
    · subst e';obtain ⟨hz,hS,vs,r,m⟩:kvs.length<=sizeLine/\(p == sysModules)=false/\∃ vs,KV kvs vs/\s.heap.DictOf (AA X.prog X.w) p vs:=I.hok p _ hx;have hlen:kvs.length=vs.length:=Paired.length r;exact wpAny_truthy_dict hS m (by omega) ⟨H,I.tok _,by rw [Gz r];exact q⟩
  | _=>exact (show False from e).elim
theorem DD {x:V} {us:List Value} (r:Vals [x] us):∃ u,us=[u]/\RelV x u:=by
  cases r with
  | cons r1 r2=>cases r2;exact ⟨_,rfl,r1⟩
theorem JI {x y:V} {us:List Value} (r:Vals [x,y] us):∃ u w',us=[u,w']/\RelV x u/\RelV y w':=by
  cases r with
  | cons r1 r2=>
    cases r2 with
    | cons r3 r4=>cases r4;exact ⟨_,_,rfl,r1,r3⟩
theorem HK:Ba X (.type "int") (λ xs H Q=>(∃ i,xs=[.int i]/\Q (.int i) H)\/∃ k,xs=[.bl k]/\Q (.int (if k then 1 else 0)) H):=by
  intro pins s σ H xs us Q I r h;rcases h with ⟨i,rfl,q⟩ | ⟨k,rfl,q⟩
  · obtain ⟨u,rfl,t,rfl⟩:=DD r;exact call_int_int ⟨.int i,H,I,⟨_,rfl⟩,q⟩
  · obtain ⟨u,rfl,r1⟩:=DD r;cases r1;exact call_int_bool ⟨.int (if k then 1 else 0),H,I.tok _,⟨_,rfl⟩,q⟩
def NQ (K:PySem.W.Frag) (x:V) (H:Hp) (n:Nat):Prop:=
  match x with
  | .str y=>y.length<=sizeLine/\n=y.length
  | .byt y=>y.size<=sizeLine/\n=y.size
  | .ref p=>(∃ xs,SqL K H p xs/\n=xs.length)\/∃ xs,SqT K H p xs/\n=xs.length
  | _=>False
theorem II:Ba X (.builtin "len") (λ xs H Q=>∃ x n,xs=[x]/\NQ X.K x H n/\Q (.int n) H):=by
  intro pins s σ H xs us Q I r h;obtain ⟨x,n,rfl,e,q⟩:=h;obtain ⟨u,rfl,rx⟩:=DD r;have hl:=FD;have hs:sizeLine=16777216:=sizeLine_eq;cases x with
  | str y=>
    obtain ⟨t,rfl⟩:=rx;obtain ⟨hy,e'⟩:y.length<=sizeLine/\n=y.length:=e;subst e';exact len_str (by omega) ⟨.int _,H,I.tok _,⟨_,rfl⟩,q⟩
  | byt y=>
    obtain ⟨t,rfl⟩:=rx;obtain ⟨hy,e'⟩:y.size<=sizeLine/\n=y.size:=e;subst e';exact PySem.W.len_bytes (by omega) ⟨.int _,H,I.tok _,⟨_,rfl⟩,q⟩
  | ref p=>
    cases rx;have e':(∃ xs,SqL X.K H p xs/\n=xs.length)\/∃ xs,SqT X.K H p xs/\n=xs.length:=e;rcases e' with ⟨xs,hx,e'⟩ | ⟨xs,hx,e'⟩
    · subst e';obtain ⟨its,r',pl,hz⟩:=I.list hx;have hlen:=r'.length;exact Calls.call_len_list pl.isList (by simp only [List.size_toArray];omega) ⟨.int xs.length,H,I.tok _,⟨_,by simp only [List.size_toArray];rw [hlen]⟩,q⟩
    · subst e';obtain ⟨its,r',pl,hz⟩:=I.tuple hx;have hlen:=r'.length;exact len_tuple pl (by simp only [List.size_toArray];omega) ⟨.int xs.length,H,I.tok _,⟨_,by simp only [List.size_toArray];rw [hlen]⟩,q⟩
  | _=>exact (show False from e).elim
end
structure ObjM (h:Heap) (x dx C:Addr) (mA:Str->Option Value):Prop where
  obj:h.get? x=some (PySem.W.instObj C dx)
  ns:h.Ns1 dx mA
  ne:dx≠x
theorem Hn {h:Heap} {dx:Addr} {mA:Str->Option Value} (n:h.Ns1 dx mA):∃ od,h.get? dx=some od/\∀ name,PySem.W.lookIn name od=some (mA name):=by
  obtain ⟨o,es,ep,ho,hd,hk,_,hm⟩:=n;refine ⟨o,ho,λ name=> ?_⟩;have e:=hm name;unfold nsFind findBy at e;rw [<-Array.find?_toList] at e;unfold PySem.W.lookIn;rw [hd];dsimp only;split
  · rename_i y q
    rw [q] at e;exact congrArg some e
  · rename_i q
    rw [q] at e;have a:es.toList.any (·.refKey)=false:=by
      rw [List.any_eq_false];intro y hy;obtain ⟨z,t,hkey⟩:=hk y (Array.mem_toList_iff.mp hy);simp [DictEntry.refKey,hkey]
    have a':¬ es.toList.any (·.refKey)=true:=by rw [a];exact Bool.false_ne_true
    rw [if_neg a'];exact congrArg some e
theorem ObjM.look {h:Heap} {x dx C:Addr} {mA:Str->Option Value} (I:ObjM h x dx C mA):∃ od,PySem.W.InstAt h x (PySem.W.instObj C dx) C (some od)/\∀ name,PySem.W.lookIn name od=some (mA name):=
  let ⟨od,ho,hl⟩:=Hn I.ns
  ⟨od,⟨I.obj,rfl,rfl,ho⟩,hl⟩
section
variable {prog:Program} {w:World} {A:Around} {E:Value->Shared->Prop} {s:Shared} {K:PySem.W.Frag} {x dx C f:Addr} {mA:Str->Option Value} {name:Str} {v:Value}
end
def DJ (f:Str) (v:V):List (Str × V)->List (Str × V)
  | []=>[(f,v)]
  | (g,x)::r=>if g=f then (g,v)::r else (g,x)::DJ f v r
theorem DG (f g:Str) (v:V):∀ fs:List (Str × V),(DJ f v fs).lookup g=if g=f then some v else fs.lookup g
  | []=>by
    show List.lookup g [(f,v)]=_;by_cases h:g=f
    · have hb:(g == f)=true:=beq_iff_eq.mpr h;simp only [List.lookup,hb,if_pos h]
    · have hb:(g == f)=false:=beq_eq_false_iff_ne.mpr h;simp only [List.lookup,hb,if_neg h]
  | (k,x)::r=>by
    have ih:=DG f g v r;rw [show DJ f v ((k,x)::r)=(if k=f then (k,v)::r else (k,x)::DJ f v r) from rfl];by_cases hk:k=f
    · rw [if_pos hk];by_cases h:g=k
      · have hb:(g == k)=true:=beq_iff_eq.mpr h;simp only [List.lookup,hb,if_pos (h.trans hk)]
      · have hb:(g == k)=false:=beq_eq_false_iff_ne.mpr h;simp only [List.lookup,hb,if_neg (λ e:g=f=>h (e.trans hk.symm))]
    · rw [if_neg hk];by_cases h:g=k
      · have hb:(g == k)=true:=beq_iff_eq.mpr h;simp only [List.lookup,hb,if_neg (λ e:g=f=>hk (h.symm.trans e))]
      · have hb:(g == k)=false:=beq_eq_false_iff_ne.mpr h;simp only [List.lookup,hb];exact ih
theorem Ds (f:Str) (v:V):∀ fs:List (Str × V),f∈(DJ f v fs).map (·.1)/\∀ g,g∈fs.map (·.1)->g∈(DJ f v fs).map (·.1)
  | []=>⟨by simp [DJ],λ g h=>by simp at h⟩
  | (k,x)::r=>by
    obtain ⟨i1,i2⟩:=Ds f v r;rw [show DJ f v ((k,x)::r)=(if k=f then (k,v)::r else (k,x)::DJ f v r) from rfl];by_cases hk:k=f
    · rw [if_pos hk];subst hk;exact ⟨by simp,λ g h=>by simpa using h⟩
    · rw [if_neg hk];refine ⟨?_,λ g h=> ?_⟩
      · rw [List.map_cons];exact List.mem_cons_of_mem _ i1
      · rw [List.map_cons] at h ⊢;rcases List.mem_cons.mp h with e | e
        · exact List.mem_cons.mpr (.inl e)
        · exact List.mem_cons_of_mem _ (i2 g e)
theorem RelO.some_of {v:V} {o:Option Value} (r:RelO (some v) o):∃ u,o=some u/\RelV v u:=by
  cases o with
  | none=>exact (show False from r).elim
  | some u=>exact ⟨u,rfl,r⟩
theorem HM {v:V} {u:Value} (r:RelV v u):PySem.W.handedIn u=true:=by
  cases v with
  | non=>cases (show u=Value.none from r);rfl
  | bl b=>cases (show u=Value.bool b from r);rfl
  | int i=>obtain ⟨t,e⟩:=(show ∃ t,u=Value.int i t from r);cases e;rfl
  | str x=>obtain ⟨t,e⟩:=(show ∃ t,u=Value.str x t from r);cases e;rfl
  | byt b=>obtain ⟨t,e⟩:=(show ∃ t,u=Value.bytes b t from r);cases e;rfl
  | flt b=>obtain ⟨t,e⟩:=(show ∃ t,u=Value.float b t from r);cases e;rfl
  | ref a=>cases (show u=Value.ref a from r);rfl
  | ty n=>cases (show u=Value.type n from r);rfl
section
variable {P:Program} {w:World} {H H':Hp} {h h':Heap} {a C dx:Addr} {fs fs':List (Str × V)}
theorem Ll (hok:HOk P w H h) (e:H a=some (.ins C dx fs)):∃ mA,ObjM h a dx C mA/\(∀ f,RelO (fs.lookup f) (mA f))/\PySem.Within mA (fs.map (·.1))/\fs.length<=1000/\H dx=some (.own a):=by
  obtain ⟨d,z,ne,ob,mA,n,r,q⟩:=(show ObjOk P w H h a (.ins C dx fs) from hok a _ e);exact ⟨mA,⟨ob,n,ne⟩,r,q,z,d⟩
end
structure Cls (K:PySem.W.Frag) (C:Addr):Prop where
  pg:PySem.W.plainGet K C Str.empty=true
  hd:PySem.W.hasDictIn K C=true
  po:PySem.W.plainOver K C=true
  sa:PySem.W.findIn K (.ref C) "__setattr__"=some (some (.builtin "object.__setattr__"))
theorem Cls.get {K:PySem.W.Frag} {C:Addr} (c:Cls K C) (f:Str):PySem.W.plainGet K C f=true:=c.pg
def NoAttr (K:PySem.W.Frag) (C:Addr) (f:Str):Prop:=PySem.W.findIn K (.ref C) f=some none
structure Con (K:PySem.W.Frag) (C:Addr) (f:Str) (v:V) (u:Value):Prop where
  at_:PySem.W.findIn K (.ref C) f=some (some u)
  rel:RelV v u
  get:PySem.W.specialIn K u "__get__"=some none
  cp:PySem.W.copiedNames.contains f=false
structure Meth (K:PySem.W.Frag) (C:Addr) (m:Str) (f:Addr):Prop where
  at_:PySem.W.findIn K (.ref C) m=some (some (.ref f))
  fn:PySem.W.isFn K (.ref f)=true
  kp:PySem.W.keepIn K (.ref f)=true
section
variable {X:Cx} {pins:List (Addr × Obj)} {σ:St} {H:Hp} {s:Shared} {a C dx:Addr} {fs:List (Str × V)} {f:Str} {v:V} {A:Around} {E:Value->Shared->Prop}
theorem Ln {prog:Program} {w:World} {env:Env} {e:Expr} {f:Str} {pos:Pos} {s:Shared} {Q:Value->Shared->Prop} (hb:attributeBase e f env (eval e env)=eval e env)
    (h:wpAny (model prog w) A (eval e env) (λ o s₁=>wpAny (model prog w) A (getAttr o f true) Q E s₁) E s):wpAny (model prog w) A (eval (.Attribute e f pos) env) Q E s:=
  Attribute_any_ h (by rw [arm_eval_Attribute,hb])
end
section
variable {X:Cx} {o e value:Expr} {f:Str} {pos pos' tpos:Pos} {ta tv:TE}
end
section
variable {X:Cx} {pins:List (Addr × Obj)} {σ:St} {H:Hp} {s:Shared} {A:Around} {E:Value->Shared->Prop} {Q:Value->Shared->Prop} {c:Value} {b:Bool}
inductive TyOf (K:PySem.W.Frag) (H:Hp):V->Value->Prop where
  | non:TyOf K H .non (.type "NoneType")
  | bl (x:Bool):TyOf K H (.bl x) (.type "bool")
  | int (i:Int):TyOf K H (.int i) (.type "int")
  | str (x:Str):TyOf K H (.str x) (.type "str")
  | flt (x:UInt64):TyOf K H (.flt x) (.type "float")
  | lst {a:Addr} {xs:List V} (e:H a=some (.lst xs)):TyOf K H (.ref a) (.type "list")
  | frz {a:Addr} {o:Obj} {xs:List V} (e:H a=some (.frz o (.lst xs))):TyOf K H (.ref a) (.type "list")
  | tup {a:Addr} {xs:List V} (e:H a=some (.tup xs)):TyOf K H (.ref a) (.type "tuple")
  | dK {a:Addr} {kvs:List (Key × V)} (e:H a=some (.dK kvs)):TyOf K H (.ref a) (.type "dict")
  | dT {a:Addr} {kvs:List (List Key × V)} (e:H a=some (.dT kvs)):TyOf K H (.ref a) (.type "dict")
  | ins {a C dx:Addr} {fs:List (Str × V)} (e:H a=some (.ins C dx fs)) (cl:Cls K C) (ha:PySem.W.findIn K (.ref C) "__class__"=some (some (.builtin "object.__class__")))
      (hn:PySem.W.specialIn K (.builtin "object.__class__") "__get__"=some (some (.builtin "getset_descriptor.__get__"))) (htk:PySem.W.takesIn K (.builtin "object.__class__")=some true)
      (hm:PySem.W.mroIn K C (.type "object")=some true):TyOf K H (.ref a) (.ref C)
theorem ES {x:V} {u t:Value} (I:Inv X pins σ H s) (rx:RelV x u) (ty:TyOf X.K H x t) (e:PySem.W.kitOne X.K t c=some b) (h:∀ tk,Q (.bool b) { s with toks:=tk }):
    wpAny (model X.prog X.w) A (call (.builtin "isinstance") [u,c]) Q E s:=by
  cases ty with
  | non=>cases (show u=Value.none from rx);exact PySem.W.kia_one PySem.W.kitx_none I.kIn True.intro e (λ z=>nomatch z) h
  | bl y=>cases (show u=Value.bool y from rx);exact PySem.W.kia_one PySem.W.kitx_bool I.kIn True.intro e (λ z=>nomatch z) h
  | int i=>obtain ⟨t,q⟩:=(show ∃ t,u=Value.int i t from rx);cases q;exact PySem.W.kia_one PySem.W.kitx_int I.kIn True.intro e (λ z=>nomatch z) h
  | str y=>obtain ⟨t,q⟩:=(show ∃ t,u=Value.str y t from rx);cases q;exact PySem.W.kia_one PySem.W.kitx_str I.kIn True.intro e (λ z=>nomatch z) h
  | flt y=>obtain ⟨t,q⟩:=(show ∃ t,u=Value.float y t from rx);cases q;exact PySem.W.kia_one PySem.W.kitx_float I.kIn True.intro e (λ z=>nomatch z) h
  | @lst a xs ea=>
    cases (show u=Value.ref a from rx);obtain ⟨_,_,n,_,h1⟩:=(show ObjOk X.prog X.w H s.heap a (.lst xs) from I.hok a _ ea);exact PySem.W.kia_one PySem.W.kitx_list I.kIn ⟨_,h1,rfl⟩ e (λ z=>nomatch z) h
  | @frz a ob xs ea=>
    cases (show u=Value.ref a from rx);obtain ⟨_,_,_,n,_,h1⟩:=(show ObjOk X.prog X.w H s.heap a (.frz ob (.lst xs)) from I.hok a _ ea);exact PySem.W.kia_one PySem.W.kitx_list I.kIn ⟨_,h1,rfl⟩ e (λ z=>nomatch z) h
  | @tup a xs ea=>
    cases (show u=Value.ref a from rx);obtain ⟨_,_,_,p⟩:=(show ObjOk X.prog X.w H s.heap a (.tup xs) from I.hok a _ ea);obtain ⟨o,h1,h2,_⟩:=p;exact PySem.W.kia_one PySem.W.kitx_tuple I.kIn ⟨o,h1,h2⟩ e (λ z=>nomatch z) h
  | @dK a kvs ea=>
    cases (show u=Value.ref a from rx);obtain ⟨_,_,vs,_,p⟩:=(show ObjOk X.prog X.w H s.heap a (.dK kvs) from I.hok a _ ea);obtain ⟨o,es,ep,h1,h2,_⟩:=p;exact PySem.W.kia_one PySem.W.kitx_dict I.kIn ⟨o,h1,h2.1⟩ e (λ z=>nomatch z) h
  | @dT a kvs ea=>
    cases (show u=Value.ref a from rx);obtain ⟨_,_,xs,_,o,es,ep,h1,h2,_⟩:=(show ObjOk X.prog X.w H s.heap a (.dT kvs) from I.hok a _ ea);exact PySem.W.kia_one PySem.W.kitx_dict I.kIn ⟨o,h1,h2.1⟩ e (λ z=>nomatch z) h
  | @ins a C dx fs ea cl ha hn htk hm=>
    cases (show u=Value.ref a from rx);obtain ⟨mA,O,_⟩:=Ll I.hok ea;obtain ⟨od,J,_⟩:=O.look;exact PySem.W.kia_one (PySem.W.kitx_own (cl.get _) cl.hd ha hn htk hm) I.kIn J e (λ z=>nomatch z) h
end
structure Room (k:Nat) (A:Around):Prop where
  hd:A.handled=none
  dp:A.depth+3*k+5<recursionLimit
  un:A.units+16*k+200<cLine
theorem Room.mono {j k:Nat} {A:Around} (r:Room k A) (h:j<=k):Room j A:=⟨r.hd,by have:=r.dp;omega,by have:=r.un;omega⟩
theorem Room.deeper {k:Nat} {A:Around} (r:Room (k+1) A) (env:Env):Room k (A.deeper env):=
  ⟨r.hd,by have:=r.dp;show A.depth+1+3*k+5<_;omega,by have:=r.un;show A.units+3+16*k+200<_;omega⟩
theorem GP {A:Around} {C:Addr} {us:List Value} {kw:List (Str × Value)}:(A.under (.builtin "type.__call__" ⟨.ref C::us,kw⟩)).depth=A.depth+1:=by
  first | rfl | simp [Around.under,Code.weight,Code.isCreation,Code.isGuard,Code.isCaller,Code.frames,Code.isFrame,guardIds]
theorem GD {A:Around} {C:Addr} {us:List Value} {kw:List (Str × Value)}:(A.under (.builtin "type.__call__" ⟨.ref C::us,kw⟩)).units=A.units+1:=by
  first | rfl | simp [Around.under,Code.cUnits,Code.frames,Code.isFrame]
theorem Room.make {k:Nat} {A:Around} (r:Room (k+1) A) (C:Addr) (us:List Value) (kw:List (Str × Value)):Room k (A.under (.builtin "type.__call__" ⟨.ref C::us,kw⟩)):=
  ⟨r.hd,by have:=r.dp;rw [GP];omega,by have:=r.un;rw [GD];omega⟩
theorem Room.depth {k:Nat} {A:Around} (r:Room k A):A.depth<recursionLimit:=by have:=r.dp;omega
theorem Room.units0 {k:Nat} {A:Around} (r:Room k A):A.units<cLine:=by have:=r.un;omega
def Kd:TA:=λ _ H Q=>Q [] H
def Gb (ta:TE) (tr:TA):TA:=λ σ H Q=>ta σ H λ x H1=>tr σ H1 λ xs H2=>Q (x::xs) H2
section
variable {X:Cx} {e:Expr} {es:List Expr} {te:TE} {t:TA} {pos:Pos}
theorem Ac:PA X [] Kd:=λ _ _ _ _ H Q I h=>Calls.spliced_nil ⟨[],H,I, .nil,h⟩
theorem Aa (ha:PE X e te) (hr:PA X es t) (hs:starEach (e::es) X.env=(false,eval e X.env)::starEach es X.env:=by rfl):PA X (e::es) (Gb te t):=by
  intro pos pins s σ H Q I h;rw [hs];show wpAny _ _ (spliced ((false,eval e X.env)::backTo pos (starEach es X.env))) _ _ s;refine Calls.spliced_cons (thn (ha pins s σ H _ I h) λ u s1 ⟨x,H1,I1,r1,q1⟩=> ?_);exact thn (hr pos pins s1 σ H1 _ I1 q1) λ us s2 ⟨xs,H2,I2,r2,q2⟩=>⟨x::xs,H2,I2, .cons r1 r2,q2⟩
def N3 (t:TA):TE:=λ σ H Q=>t σ H λ xs H1=>xs.length<=sizeLine/\∀ p,H1 p=none->Q (.ref p) (upd H1 p (.tup xs))
def Mp (t:TA):TE:=λ σ H Q=>t σ H λ xs H1=>xs.length<=sizeLine/\∀ p,H1 p=none->Q (.ref p) (upd H1 p (.lst xs))
theorem BV {x1} (h:PA X es t):PE X (.Tuple es x1 pos) (N3 t):=by
  intro pins s σ H Q I hq;refine wpAny_Tuple_spliced (thn (h pos pins s σ H _ I hq) λ us s1 ⟨xs,H1,I1,r,z,q⟩=>⟨by rw [<-r.length];exact z,?_⟩);have hf:H1 s1.heap.objs.size=none:=I1.hok.fresh (Nat.le_refl _);refine ⟨.ref s1.heap.objs.size,upd H1 s1.heap.objs.size (.tup xs),I1.laid (t':=s1.toks) (λ b u e=>Heap.get?_push_of_some _ e) (Nat.le_refl _) ?_,rfl,q _ hf⟩;exact ⟨z,us,r,⟨_,Heap.get?_push_size _ rfl,rfl,_,rfl⟩⟩
theorem Av (h:PA X es t):PE X (.List es pos) (Mp t):=by
  intro pins s σ H Q I hq;refine wpAny_List_spliced (thn (h pos pins s σ H _ I hq) λ us s1 ⟨xs,H1,I1,r,z,q⟩=>⟨by rw [<-r.length];exact z,?_⟩);have hf:H1 s1.heap.objs.size=none:=I1.hok.fresh (Nat.le_refl _);refine ⟨.ref s1.heap.objs.size,upd H1 s1.heap.objs.size (.lst xs),I1.laid (t':=s1.toks) (λ b u e=>Heap.get?_push_of_some _ e) (Nat.le_refl _) ?_,rfl,q _ hf⟩;exact ⟨z,us,0,r,Heap.get?_push_size _ rfl⟩
end
abbrev Sp:=List V->Hp->VK->XK->Prop
abbrev CXT:=List Env->Hp->Shared->XK->Value->Shared->Prop
structure Env0 (P:Program) (w:World) (K:PySem.W.Frag) (mg:Str->Option Value) (base:Heap) (A:Around) (outer:List Env) (s:Shared) (H:Hp):Prop where
  frames:A.frames=some outer
  mod:Mod K mg base
  bs:∀ b o,base.get? b=some o->s.heap.get? b=some o/\H b=none
  bsz:base.objs.size<=s.heap.objs.size
  funs:s.heap.FunFrames base outer
  frf:∀ b∈frs outer,H b=none
  hok:HOk P w H s.heap
  bare:AllBare s.gens
def CE (outer:List Env) (P:Program) (w:World) (H:Hp) (s:Shared) (Q:VK) (u:Value) (s':Shared):Prop:=
  ∃ v H',s'.os=s.os/\AllBare s'.gens/\Un (frs outer) [] H H' s.heap s'.heap/\HOk P w H' s'.heap/\RelV v u/\Q v H'
def CR (CX:CXT) (outer:List Env) (P:Program) (w:World) (H:Hp) (s:Shared) (Q:VK) (E:XK) (r:Result) (s':Shared):Prop:=
  match r with
  | .ok (.ret u)=>CE outer P w H s Q u s'
  | .ok _=>False
  | .error e=>CX outer H s E e s'
structure FnOk (P:Program) (w:World) (K:PySem.W.Frag) (mg:Str->Option Value) (base:Heap) (CX:CXT) (k:Nat) (f:Addr) (fd:FuncData) (ps:List Str) (sp:Sp):Prop where
  len:∀ vs H Q E,sp vs H Q E->vs.length=ps.length
  run:∀ (A:Around) (outer:List Env) (s:Shared) (H:Hp) (args:Args) (us:List Value) (vs:List V) (Q:VK) (E:XK),Room k A->Env0 P w K mg base A outer s H->BindsTo s fd args (ps.zip us)->Vals vs us->sp vs H Q E->
    codeAny (model P w) A (.call (.ref f) args) (CR CX outer P w H s Q E) s
theorem FnOk.imp {P:Program} {w:World} {K:PySem.W.Frag} {mg:Str->Option Value} {base:Heap} {CX:CXT} {k:Nat} {f:Addr} {fd:FuncData} {ps:List Str} {sp sp':Sp} (F:FnOk P w K mg base CX k f fd ps sp)
    (h:∀ vs H Q E,sp' vs H Q E->sp vs H Q E):FnOk P w K mg base CX k f fd ps sp':=
  ⟨λ vs H Q E q=>F.len vs H Q E (h _ _ _ _ q),λ A outer s H args us vs Q E hr he hb hv hs=>F.run A outer s H args us vs Q E hr he hb hv (h _ _ _ _ hs)⟩
theorem Env0.make {P:Program} {w:World} {K:PySem.W.Frag} {mg:Str->Option Value} {base:Heap} {A:Around} {outer:List Env} {s:Shared} {H:Hp} (e:Env0 P w K mg base A outer s H) (C:Addr) (us:List Value) (kw:List (Str × Value)):
    Env0 P w K mg base (A.under (.builtin "type.__call__" ⟨.ref C::us,kw⟩)) outer s H:=⟨by first | exact e.frames | (simpa [Around.under,Code.envs,Code.isFrame,pushEnvs] using e.frames),e.mod,e.bs,e.bsz,e.funs,e.frf,e.hok,e.bare⟩
section
variable {X:Cx} {pins:List (Addr × Obj)} {σ:St} {H:Hp} {s s':Shared}
theorem Inv.env0 (I:Inv X pins σ H s):Env0 X.prog X.w X.K X.mg X.base X.A X.stack s H:=
  ⟨I.ok.frames,I.ok.mod,I.bs,Nat.le_trans I.ok.bsz I.sz,I.stack,I.stkFree,I.hok,I.bare⟩
theorem Inv.after {Q:VK} {u:Value} (I:Inv X pins σ H s) (h:CE X.stack X.prog X.w H s Q u s'):EP X pins σ Q u s':=by
  obtain ⟨v,H',os,bare,un,hok,r,q⟩:=h;obtain ⟨hh,g,d,t,os'⟩:=s';obtain rfl:os'=s.os:=os;exact ⟨v,H',I.call (h':=hh) (g':=g) (d':=d) (t':=t) (ch:=[]) un hok bare (λ b z=>absurd z (by simp)),r,q⟩
end
def G5 (sp:Sp) (dvs:List V) (E:XK) (t:TA):TE:=λ σ H Q=>t σ H λ vs H1=>sp (vs++dvs) H1 Q E
def Binds (K:PySem.W.Frag) (fd:FuncData) (ps:List Str) (ds:List Value):Prop:=
  ∀ (s:Shared) (us:List Value),K.In s.heap->(us++ds).length=ps.length->BindsTo s fd ⟨us,[]⟩ (ps.zip (us++ds))
theorem Binds.all {K:PySem.W.Frag} {fd:FuncData} {ps:List Str} (h:∀ us:List Value,us.length=ps.length->bindArgs fd ⟨us,[]⟩=pure (ps.zip us)):Binds K fd ps []:=λ s us _ hl=>by
  rw [List.append_nil] at hl ⊢;exact .of_eq (h us hl)
def CK (CX:CXT) (X:Cx) (E:XK):Prop:=∀ (pins:List (Addr × Obj)) (σ:St) (H:Hp) (s:Shared) (e:Value) (s':Shared),Inv X pins σ H s->CX X.stack H s E e s'->X.xe e s'
section
variable {X:Cx} {CX:CXT} {k:Nat} {f C:Addr} {fd:FuncData} {ps:List Str} {sp:Sp} {dvs:List V} {ds:List Value} {E:XK} {x m:Str} {p pos apos:Pos} {e o:Expr} {es:List Expr} {ta:TE} {t:TA}
theorem MY {pins:List (Addr × Obj)} {σ:St} {H:Hp} {s:Shared} {Q:VK} {us:List Value} {vs:List V} (F:FnOk X.prog X.w X.K X.mg X.base CX k f fd ps sp) (hr:Room k X.A) (hb:Binds X.K fd ps ds) (hd:Vals dvs ds) (hx:CK CX X E)
    (I:Inv X pins σ H s) (r:Vals vs us) (h:sp (vs++dvs) H Q E):wpAny (model X.prog X.w) X.A (call (.ref f) us) (EP X pins σ Q) X.xe s:=by
  have r2:Vals (vs++dvs) (us++ds):=r.append hd;have hl:(us++ds).length=ps.length:=by rw [<-r2.length];exact F.len _ _ _ _ h
  refine wpAny_call (codeAny_mono (F.run X.A X.stack s H ⟨us,[]⟩ (us++ds) (vs++dvs) Q E hr I.env0 (hb s us I.kIn hl) r2 h) λ r s' hq=> ?_);cases r with
  | error e=>exact hx pins σ H s e s' I hq
  | ok fl=>
    cases fl with
    | ret u=>exact I.after hq
    | next=>exact False.elim hq
    | brk=>exact False.elim hq
    | cont=>exact False.elim hq
theorem KA (F:FnOk X.prog X.w X.K X.mg X.base CX k f fd ps sp) (hr:Room k X.A) (hg:Gl X x) (hm:X.mg x=some (.ref f)) (hk:PySem.W.keepIn X.K (.ref f)=true) (hb:Binds X.K fd ps ds) (hd:Vals dvs ds) (hx:CK CX X E)
    (ha:PA X (e::es) t) (hdb:(x == ("__debug__":Str))=false:=by decide) (he:starEach (e::es) X.env=(false,eval e X.env)::starEach es X.env:=by rfl) (hpl:(backTo pos (starEach es X.env)).any (·.1)=false:=by rfl):
    PE X (.Call (.Name x p) (e::es) [] pos) (G5 sp dvs E t):=by
  intro pins s σ H Q I h;refine wpAny_Call_Name_kw (Cv I hg hm ?_ hdb);refine PySem.W.callWith_K (h₀:=X.base) I.ok.mod.kin hk (thn (ha pos pins s σ H _ I h) λ us s1 ⟨vs,H1,I1,r,q⟩=>⟨I1.kIn,?_⟩) he hpl;exact MY F hr hb hd hx I1 r q
structure Mk (K:PySem.W.Frag) (C f:Addr):Prop where
  makes:PySem.W.makesIn K C=true
  init:PySem.W.findIn K (.ref C) "__init__"=some (some (.ref f))
  fn:PySem.W.isFn K (.ref f)=true
  kp:PySem.W.keepIn K (.ref C)=true
end
section
variable {X:Cx} {CX:CXT} {k:Nat} {f C:Addr} {fd:FuncData} {ps ks:List Str} {sp:Sp} {E:XK} {x m:Str} {p pos apos kpos:Pos} {e o:Expr} {es:List Expr} {kws:List Keyword} {te ta:TE} {t tk:TA} {nm:Option Str}
structure KBinds (K:PySem.W.Frag) (fd:FuncData) (ps ks:List Str) (g:List Value->List Value->List Value) (gV:List V->List V->List V):Prop where
  to:∀ (s:Shared) (us ws:List Value),K.In s.heap->(g us ws).length=ps.length->BindsTo s fd ⟨us,ks.zip ws⟩ (ps.zip (g us ws))
  rel:∀ {vs:List V} {us:List Value} {zs:List V} {ws:List Value},Vals vs us->Vals zs ws->Vals (gV vs zs) (g us ws)
variable {g:List Value->List Value->List Value} {gV:List V->List V->List V}
end
structure FnScope (N P:List Str) (sc:Scope):Prop where
  kind:sc.kind= .function
  co:sc.isCoroutine=false
  gen:sc.isGenerator=false
  nd:N.Nodup
  pre:N.take P.length=P
  par:∀ x∈P,sc.names.lookup x=some .local\/sc.names.lookup x=some .cell
  nofree:∀ y∈sc.names,y.2≠ .free
theorem EZ {kindOf:Str->Option NameKind} {x:Str}:∀ {binds:List (Str × Value)} {m:Str->Option Value},(∀ v,(x,v)∉binds)->bindL kindOf binds m x=m x
  | [],_,_=>rfl
  | (n,v)::r,m,h=>by
    unfold bindL;rw [EZ λ w hw=>h w (List.mem_cons_of_mem _ hw)];split
    · have:x≠n:=by rintro rfl;exact h v List.mem_cons_self
      simp [this]
    · rfl
theorem EX {kindOf:Str->Option NameKind} {x:Str}:∀ {binds:List (Str × Value)} {m:Str->Option Value},(∀ v,(x,v)∉binds)->bindC kindOf binds m x=m x
  | [],_,_=>rfl
  | (n,v)::r,m,h=>by
    unfold bindC;rw [EX λ w hw=>h w (List.mem_cons_of_mem _ hw)];split
    · rfl
    · have:x≠n:=by rintro rfl;exact h v List.mem_cons_self
      simp [this]
theorem Fg {kindOf:Str->Option NameKind} {x:Str} {v:Value}:∀ {P:List Str} {vs:List Value} {i:Nat} {m:Str->Option Value},P.Nodup->P[i]?=some x->vs[i]?=some v->kindOf x=some .local->
    bindL kindOf (P.zip vs) m x=some v
  | [],_,_,_,_,h,_,_=>by simp at h
  | _::_,[],_,_,_,_,h,_=>by simp at h
  | p::P,w::vs,0,m,nd,h1,h2,hk=>by
    simp at h1 h2;subst h1;subst h2;show bindL kindOf ((p,w)::P.zip vs) m p=_;unfold bindL;rw [EZ λ v hv=>(List.nodup_cons.mp nd).1 (List.of_mem_zip hv).1,if_pos hk];simp
  | p::P,w::vs,i+1,m,nd,h1,h2,hk=>by
    show bindL kindOf ((p,w)::P.zip vs) m x=_;unfold bindL;exact Fg (i:=i) (List.nodup_cons.mp nd).2 (by simpa using h1) (by simpa using h2) hk
theorem E5 {kindOf:Str->Option NameKind} {x:Str} {v:Value}:∀ {P:List Str} {vs:List Value} {i:Nat} {m:Str->Option Value},P.Nodup->P[i]?=some x->vs[i]?=some v->kindOf x≠some .local->
    bindC kindOf (P.zip vs) m x=some v
  | [],_,_,_,_,h,_,_=>by simp at h
  | _::_,[],_,_,_,_,h,_=>by simp at h
  | p::P,w::vs,0,m,nd,h1,h2,hk=>by
    simp at h1 h2;subst h1;subst h2;show bindC kindOf ((p,w)::P.zip vs) m p=_;unfold bindC;rw [EX λ v hv=>(List.nodup_cons.mp nd).1 (List.of_mem_zip hv).1,if_neg hk];simp
  | p::P,w::vs,i+1,m,nd,h1,h2,hk=>by
    show bindC kindOf ((p,w)::P.zip vs) m x=_;unfold bindC;exact E5 (i:=i) (List.nodup_cons.mp nd).2 (by simpa using h1) (by simpa using h2) hk
def start (N:List Str) (vs:List V):St:=vs.map some++List.replicate (N.length - vs.length) none
def B6 (CX:CXT) (P:Program) (w:World) (K:PySem.W.Frag) (mg:Str->Option Value) (base:Heap) (N:List Str) (qual:Str) (scope:Scope) (f:Addr) (cd:Value) (A:Around) (outer:List Env) (s:Shared) (H:Hp) (E:XK):Cx where
  prog:=P
  w:=w
  K:=K
  mg:=mg
  base:=base
  A:=A.deeper (envOfC qual scope s.heap.objs.size f cd)
  N:=N
  s₀:=s
  H₀:=H
  env:=envOfC qual scope s.heap.objs.size f cd
  outer:=outer
  stack:=envOfC qual scope s.heap.objs.size f cd::outer
  ex:=[]
  calm:=true
  fn:=λ _=>true
  pn:=[]
  xe:=λ e s'=>wpAny (model P w) (A.deeper (envOfC qual scope s.heap.objs.size f cd)) (leaving (envOfC qual scope s.heap.objs.size f cd) e) (λ _ s''=>CX outer H s E e s'') (λ e' s''=>CX outer H s E e' s'') s'
theorem Gw {sc:Scope} {n:Nat} {x:Str} (h:sc.names.lookup x=some .cell):∃ c,(cellsFrom n sc.names []).lookup x=some c:=by
  have q:=PySem.W.cellsFrom_some sc.names n [] (.inl h);exact Option.isSome_iff_exists.mp q
theorem HS {CX:CXT} {P:Program} {w:World} {K:PySem.W.Frag} {mg:Str->Option Value} {base:Heap} {N ps:List Str} {qual:Str} {scope:Scope} {f:Addr} {cd:Value} {A:Around} {outer:List Env} {s s1:Shared} {H:Hp} {E:XK} {us:List Value} {vs:List V}
    (S:FnScope N ps scope) (hd:A.handled=none) (e0:Env0 P w K mg base A outer s H) (hl:vs.length=ps.length) (r:Vals vs us)
    (x:InCallC s s.heap.objs.size (bindL (envOfC qual scope s.heap.objs.size f cd).kindOf (ps.zip us) λ _=>none) (cellsFrom (s.heap.objs.size+1) scope.names []) (bindC (envOfC qual scope s.heap.objs.size f cd).kindOf (ps.zip us) λ _=>none) s1):
    Inv (B6 CX P w K mg base N qual scope f cd A outer s H E) [] (start N vs) H s1:=by
  have hpl:ps.length<=N.length:=by have:=congrArg List.length S.pre;rw [List.length_take] at this;omega
  obtain ⟨h1,tk,rfl,hk⟩:=x.done;have noA:∀ b:Addr,b∉(B6 CX P w K mg base N qual scope f cd A outer s H E).ex:=λ b z=>absurd (show b∈([]:List Addr) from z) (by simp);refine ⟨⟨e0.mod,S.kind,rfl,rfl,Nat.le_refl _,λ y z c h1 h2=> ?_,λ y hy=> ?_,λ y c _ h=> ?_,λ _=>hd,Around.frames_deeper e0.frames, .inr ⟨rfl,rfl⟩,λ b z=>absurd z (noA b),e0.bs,e0.bsz,λ b _ _=>noA b,λ b z=>absurd z (noA b),e0.funs,e0.frf⟩,
    rfl,e0.bare,Un.kept hk,⟨_,x.toInCall.ns,λ i y v h1 h2 h3=> ?_⟩,λ y c h=>⟨_,x.cell y c h⟩,e0.hok.fresh (Nat.le_refl _),λ y c h=> ?_,λ p hp=>absurd (show p∈([]:List (Addr × Obj)) from hp) (by simp),e0.hok.kept hk,?_⟩
  · exact name_of_addr x.apart (PySem.mem_of_lookup h1) (PySem.mem_of_lookup h2)
  · have hy:scope.names.lookup y=some .cell\/scope.names.lookup y=some .free:=hy;rcases hy with hy | hy
    · exact Gw hy
    · exact absurd rfl (S.nofree _ (PySem.mem_of_lookup hy))
  · exact Nat.le_of_lt (x.above y c (PySem.mem_of_lookup h))
  · have hi:i<vs.length:=by
      unfold start at h2;by_cases hi:i<vs.length
      · exact hi
      · rw [List.getElem?_append_right (by simpa using hi)] at h2;rw [List.getElem?_replicate] at h2;split at h2 <;> cases h2
    have ha:vs[i]?=some v:=by
      unfold start at h2;rw [List.getElem?_append_left (by simpa using hi),List.getElem?_map] at h2;cases e:vs[i]? with
      | none=>rw [e] at h2;cases h2
      | some a=>rw [e] at h2;cases h2;rfl
    obtain ⟨u,hu,rv⟩:=r.get ha;have hp:ps[i]?=some y:=by
      rw [<-S.pre,List.getElem?_take_of_lt (by omega)];exact h1
    have ndP:ps.Nodup:=by rw [<-S.pre];exact S.nd.sublist (List.take_sublist _ _)
    refine ⟨u,rv,?_⟩;rcases S.par y (List.mem_of_getElem? hp) with k | k
    · exact .inl ⟨k,Fg ndP hp hu k⟩
    · obtain ⟨c,e⟩:=Gw (n:=s.heap.objs.size+1) k;refine .inr ⟨.inl k,c,e,?_⟩;have q:=x.cell y c e;rw [E5 ndP hp hu (by show scope.names.lookup y≠_;rw [k];decide)] at q;exact q
  · exact e0.hok.fresh (Nat.le_of_lt (x.above y c (PySem.mem_of_lookup h)))
  · unfold start;show _=N.length;rw [List.length_append,List.length_map,List.length_replicate];omega
theorem JZ {CX:CXT} {P:Program} {w:World} {K:PySem.W.Frag} {mg:Str->Option Value} {base:Heap} {k:Nat} {f:Addr} {name qual:Str} {params:Arguments} {body:List Stmt} {scope:Scope} {dV kV doc pm cdv ct oc:Value} {an od:Option Addr}
    {osl:Array (Option Value)} {N ps:List Str} {sp:Sp} (lk:K.lookup f=some ⟨oc,od, .func (PySem.W.fnOf name qual params body scope dV kV doc pm an cdv ct),osl⟩) (hcd:PySem.W.codeIn K cdv qual=true) (S:FnScope N ps scope)
    (len:∀ vs H Q E,sp vs H Q E->vs.length=ps.length)
    (hbody:∀ (A:Around) (outer:List Env) (s:Shared) (H:Hp) (vs:List V) (Q:VK) (E:XK),Room k (A.deeper (envOfC qual scope s.heap.objs.size f cdv))->sp vs H Q E->
      ∃ t,PSs (B6 CX P w K mg base N qual scope f cdv A outer s H E) body t/\t { nx:=λ _ H'=>Q .non H',rt:=Q } (start N vs) H):
    FnOk P w K mg base CX (k+1) f (PySem.W.fnOf name qual params body scope dV kV doc pm an cdv ct) ps sp:=by
  refine ⟨len,λ A outer s H args us vs Q E hr e0 hb r hsp=> ?_⟩;have hl:=len _ _ _ _ hsp;have KX:K.In s.heap:=e0.mod.kin.keeps λ b o e=>(e0.bs b o e).1;have lim:s.heap.NoLimit:=e0.mod.nolimit.keeps λ b o e=>(e0.bs b o e).1;have hkind:∀ y∈ps.zip us,scope.names.lookup y.1=some .local\/(scope.names.lookup y.1=some .cell/\((cellsFrom (s.heap.objs.size+1) scope.names []).lookup y.1).isSome=true):=λ ⟨n,v⟩ hy=>by
    rcases S.par n (List.of_mem_zip hy).1 with q | q
    · exact .inl q
    · exact .inr ⟨q,PySem.W.cellsFrom_some _ _ _ (.inl q)⟩
  refine codeAny_call_function hr.depth (KX _ _ lk) rfl S.co S.gen rfl (PySem.W.codeRec_of KX hcd) (hb _ _ _ _ ?_);refine wpAny_newFunctionEnv_cells S.kind hkind λ env he s1 x=> ?_;subst he;refine ⟨lim.keeps x.toInCall.keep,codeAny_func ?_⟩;obtain ⟨t,ht,hq⟩:=hbody A outer s H vs Q E (hr.deeper _) hsp;have I:Inv (B6 CX P w K mg base N qual scope f cdv A outer s H E) [] (start N vs) H s1:=HS S hr.hd e0 hl r x;refine wpAny_mono (ht [] s1 (start N vs) H _ I hq) (λ fl s' hs=> ?_) λ e s' hs=>hs;have fin:∀ {σ':St} {H':Hp} {v:V} {u:Value},Inv (B6 CX P w K mg base N qual scope f cdv A outer s H E) [] σ' H' s'->RelV v u->Q v H'->CE outer P w H s Q u s':=
    λ {σ' H' v u} J rv q=>⟨v,H',J.os,J.bare,J.base,J.hok,rv,q⟩
  cases fl with
  | ret u=>
    obtain ⟨v,σ',H',J,rv,q⟩:=hs;exact fin J rv q
  | next=>
    obtain ⟨σ',H',J,q⟩:=hs;exact fin (v:=V.non) (u:=Value.none) J rfl q
  | brk=>
    obtain ⟨_,_,_,q⟩:=hs;exact False.elim q
  | cont=>
    obtain ⟨_,_,_,q⟩:=hs;exact False.elim q
section
variable {X:Cx} {x:Str} {p pos:Pos} {e:Expr} {es:List Expr} {t:TA} {id T:String} {r:List V->Hp->VK->Prop}
def tCB (r:List V->Hp->VK->Prop) (t:TA):TE:=λ σ H Q=>t σ H λ vs H1=>r vs H1 Q
theorem Ak (hc:Ba X (.builtin id) r) (hg:Gl X x) (hm:X.mg x=none) (hv:bootBuiltins x=some (.builtin id)) (ha:PA X (e::es) t) (hn:x≠"__name__":=by decide) (hdb:(x == ("__debug__":Str))=false:=by decide)
    (he:starEach (e::es) X.env=(false,eval e X.env)::starEach es X.env:=by rfl) (hpl:(backTo pos (starEach es X.env)).any (·.1)=false:=by rfl):PE X (.Call (.Name x p) (e::es) [] pos) (tCB r t):=by
  intro pins s σ H Q I h;refine wpAny_Call_Name_kw (DY I hg hm hv ?_ hn hdb);exact PyProof.Rows.callWith_builtin1 (thn (ha pos pins s σ H _ I h) λ us s1 ⟨vs,H1,I1,r1,q1⟩=>hc pins s1 σ H1 vs us Q I1 r1 q1) he hpl
theorem Bj (hc:Ba X (.type T) r) (hg:Gl X x) (hm:X.mg x=none) (hv:bootBuiltins x=some (.type T)) (ha:PA X (e::es) t) (hn:x≠"__name__":=by decide) (hdb:(x == ("__debug__":Str))=false:=by decide)
    (he:starEach (e::es) X.env=(false,eval e X.env)::starEach es X.env:=by rfl) (hpl:(backTo pos (starEach es X.env)).any (·.1)=false:=by rfl):PE X (.Call (.Name x p) (e::es) [] pos) (tCB r t):=by
  intro pins s σ H Q I h;refine wpAny_Call_Name_kw (DY I hg hm hv ?_ hn hdb);exact PyProof.Rows.callWith_type1 (thn (ha pos pins s σ H _ I h) λ us s1 ⟨vs,H1,I1,r1,q1⟩=>hc pins s1 σ H1 vs us Q I1 r1 q1) he hpl
end
end L2
namespace HT
open PySem PyProof.Rows
section
open PySem.SeqAt
open PySem.AutoSeq1 (wpAny_loadPart')
open PySem.MeetsSeq PySem.MeetsSeq2 PySem.MeetsSeq3
end
section
variable {prog:Program} {w:World} {A:Around} {E:Value->Shared->Prop} {s:Shared}
def sIx (n d:Nat):Option Int->Nat
  | none=>d
  | some v=>if v<0 then (v+(n:Int)).toNat else min v.toNat n
end
end HT
namespace L2
open PySem PySem.Spec PyProof.Rows
abbrev TO:=St->Hp->(Option Int->Hp->Prop)->Prop
def PO (X:Cx) (e:Option Expr) (t:TO):Prop:=
  ∀ (pins:List (Addr × Obj)) (s:Shared) (σ:St) (H:Hp) (Q:Option Int->Hp->Prop),Inv X pins σ H s->t σ H Q->
    wpAny (model X.prog X.w) X.A (evalPart e X.env) (λ u s'=>∃ o H',Inv X pins σ H' s'/\IsPart u o/\Q o H') X.xe s
def G1:TO:=λ _ H Q=>Q none H
def Lv (t:TE):TO:=λ σ H Q=>t σ H λ x H1=>∃ i,x= .int i/\Q (some i) H1
theorem GQ {ns:List Int}:∀ {us:List Value},Vals (ns.map V.int) us->IntsAre us ns:=by
  induction ns with
  | nil=>intro us r;rw [List.map_nil] at r;cases r;exact .nil
  | cons n ns ih=>
    intro us r;rw [List.map_cons] at r;cases r with
    | cons r1 r2=>
      obtain ⟨t,e⟩:=r1;subst e;exact .cons n t (ih r2)
section
variable {X:Cx} {e:Expr} {te:TE} {lo hi:Option Expr} {tl th:TO} {pos p2:Pos}
theorem AO:PO X none G1:=by
  intro pins s σ H Q I h;rw [evalPart_none];exact wpAny_pure ⟨none,H,I, .none,h⟩
theorem AN (h:PE X e te):PO X (some e) (Lv te):=by
  intro pins s σ H Q I hw;rw [evalPart_some];refine thn (h pins s σ H _ I hw) λ u s1 ⟨x,H1,I1,r1,q1⟩=> ?_;obtain ⟨i,rfl,q⟩:=q1;obtain ⟨t,rfl⟩:=r1;exact ⟨some i,H1,I1, .int i t,q⟩
def SlR (X:Cx) (r:V->Option Int->Option Int->Hp->VK->Prop):Prop:=
  ∀ (pins:List (Addr × Obj)) (s:Shared) (σ:St) (H:Hp) (x:V) (v vl vu:Value) (lo hi:Option Int) (sl:Addr) (Q:VK),Inv X pins σ H s->RelV x v->s.heap.IsSliceOf sl vl vu .none->IsPart vl lo->IsPart vu hi->r x lo hi H Q->
    ∃ T id,typeLookup (.type T) "__getitem__"=pure (some (.builtin id))/\s.TypeIs v T/\wpAny (model X.prog X.w) X.A (getItem v (.ref sl)) (EP X pins σ Q) X.xe s
def tSl (r:V->Option Int->Option Int->Hp->VK->Prop) (te:TE) (tl th:TO):TE:=λ σ H Q=>te σ H λ x H1=>tl σ H1 λ l H2=>th σ H2 λ u H3=>r x l u H3 Q
theorem AE {r:V->Option Int->Option Int->Hp->VK->Prop} (hr:SlR X r) (he:PE X e te) (hl:PO X lo tl) (hu:PO X hi th):PE X (.Subscript e (.Slice lo hi none p2) pos) (tSl r te tl th):=by
  intro pins s σ H Q I h;refine Subscript_ (thn (he pins s σ H _ I h) λ v s1 ⟨x,H1,I1,r1,q1⟩=> ?_);refine wpAny_Slice (thn (hl pins s1 σ H1 _ I1 q1) λ vl s2 ⟨l,H2,I2,pl,q2⟩=>thn (hu pins s2 σ H2 _ I2 q2) λ vu s3 ⟨u,H3,I3,pu,q3⟩=> ?_);rw [evalPart_none];refine wpAny_pure ?_;have I4:Inv X pins σ H3 { s3 with heap:=s3.heap.push { cls:= .type "slice",data:= .fields #[vl,vu, .none] } }:=I3.kept (t':=s3.toks) λ b ob q=>Heap.get?_push_of_some _ q;obtain ⟨T,id,hT,ht,hg⟩:=hr pins { s3 with heap:=s3.heap.push { cls:= .type "slice",data:= .fields #[vl,vu, .none] } } σ H3 x v vl vu l u s3.heap.objs.size Q I4 r1 (Heap.IsSliceOf.new ..) pl pu q3;show wpAny (model X.prog X.w) X.A (subscriptTail e (.Slice lo hi none p2) v (.ref s3.heap.objs.size)) (EP X pins σ Q) X.xe { s3 with heap:=s3.heap.push { cls:= .type "slice",data:= .fields #[vl,vu, .none] } };exact tail_any (ops:=[.ref s3.heap.objs.size,v]) ht hT hg (by with_unfolding_all rfl)
def Dv (xs:List V) (lo hi:Option Int):List V:=(xs.drop (HT.sIx xs.length 0 lo)).take (HT.sIx xs.length xs.length hi - HT.sIx xs.length 0 lo)
theorem FY (xs:List V) (lo hi:Option Int):(Dv xs lo hi).length<=xs.length:=by
  unfold Dv;rw [List.length_take,List.length_drop];omega
end
def ixN (n:Nat) (i:Int):Option Nat:=if 0<=i then (if i<n then some i.toNat else none) else if -(n:Int)<=i then some (i+n).toNat else none
def atI {α:Type} (xs:List α) (i:Int):Option α:=(ixN xs.length i).bind λ j=>xs[j]?
theorem Kx {n:Nat} {i:Int} {j:Nat} (h:ixN n i=some j):seqIndex? i n=some j/\j<n/\ -(n:Int)<=i/\i<n:=by
  unfold ixN at h;by_cases h0:0<=i
  · rw [if_pos h0] at h;by_cases h1:i<n
    · rw [if_pos h1] at h;have e:i.toNat=j:=Option.some.inj h;exact ⟨by rw [seqIndex_of h0 h1,e],by omega,by omega,h1⟩
    · rw [if_neg h1] at h;cases h
  · rw [if_neg h0] at h;by_cases h1: -(n:Int)<=i
    · rw [if_pos h1] at h;have e:(i+n).toNat=j:=Option.some.inj h;exact ⟨by rw [seqIndex_neg (by omega) h1,e],by omega,h1,by omega⟩
    · rw [if_neg h1] at h;cases h
theorem Fu {α:Type} {xs:List α} {i:Int} {v:α} (h:atI xs i=some v):∃ j,seqIndex? i xs.length=some j/\xs[j]?=some v/\j<xs.length/\ -(xs.length:Int)<=i/\i<xs.length:=by
  unfold atI at h;cases e:ixN xs.length i with
  | none=>rw [e] at h;cases h
  | some j=>
    rw [e] at h;obtain ⟨h1,h2,h3,h4⟩:=Kx e;exact ⟨j,h1,h,h2,h3,h4⟩
theorem Bu {α:Type} {xs:List α} {j:Nat} {v:α} (h:xs[j]?=some v):atI xs (j:Int)=some v:=by
  have hj:j<xs.length:=(List.getElem?_eq_some_iff.mp h).1;have e:ixN xs.length (j:Int)=some j:=by
    unfold ixN;rw [if_pos (by omega),if_pos (by omega)];simp
  unfold atI;rw [e];exact h
def KB (b:Expr):Prop:=∀ o i,subscripted b false o i=operate [o,i] (getItem o i)
def IxR (X:Cx) (r:R2):Prop:=
  ∀ (value slice:Expr) (pins:List (Addr × Obj)) (s:Shared) (σ:St) (H:Hp) (x y:V) (v u:Value) (Q:VK),Inv X pins σ H s->RelV x v->RelV y u->r x y H Q->
    subscripted slice false v u=operate [v,u] (getItem v u)->wpAny (model X.prog X.w) X.A (subscriptTail value slice v u) (EP X pins σ Q) X.xe s
def MtR (X:Cx) (id:String) (r:V->List V->Hp->VK->Prop):Prop:=
  ∀ (pins:List (Addr × Obj)) (s:Shared) (σ:St) (H:Hp) (x:V) (xs:List V) (v:Value) (us:List Value) (Q:VK),Inv X pins σ H s->RelV x v->Vals xs us->r x xs H Q->
    wpAny (model X.prog X.w) X.A (call (.builtin id) (v::us)) (EP X pins σ Q) X.xe s
section
variable {X:Cx} {a b:Expr} {ta tb:TE} {pos:Pos}
theorem A9 {r:R2} (hr:IxR X r) (ha:PE X a ta) (hb:PE X b tb) (hs:KB b):PE X (.Subscript a b pos) (tOp r ta tb):=by
  intro pins s σ H Q I h;exact Subscript_ (Nd ha hb I h λ v u s2 x y H2 I2 rx ry q=>hr a b pins s2 σ H2 x y v u Q I2 rx ry q (hs _ _))
def MU (K:PySem.W.Frag):R2:=λ x y H Q=>∃ p xs i v,x= .ref p/\y= .int i/\SqL K H p xs/\atI xs i=some v/\Q v H
def Om:R2:=λ x y H Q=>∃ z i c,x= .str z/\y= .int i/\z.length<=sizeLine/\atI z.cps.toList i=some c/\Q (.str ⟨#[c]⟩) H
theorem KZ:IxR X (MU X.K):=by
  intro value slice pins s σ H x y v u Q I rx ry h hs;obtain ⟨p,xs,i,z,rfl,rfl,hq,he,q⟩:=h;cases rx;obtain ⟨t,rfl⟩:=ry;obtain ⟨its,r,pl,hz⟩:=I.list hq;obtain ⟨j,h1,h2,h3,h4,h5⟩:=Fu he;obtain ⟨w,ew,rw'⟩:=r.get h2;have hl:=r.length;have hn:=FD;have fin:EP X pins σ Q w s:=⟨z,H,I,rw',q⟩;by_cases h0:0<=i
  · have hj:i.toNat=j:=by
      rw [seqIndex_of h0 h5] at h1;exact Option.some.inj h1
    exact item_listR pl.isList h0 (by omega) (by rw [hj];simpa using ew) fin hs
  · have hj:(i+(its.toArray.size:Int)).toNat=j:=by
      rw [seqIndex_neg (by omega) h4] at h1;rw [List.size_toArray, <-hl];exact Option.some.inj h1
    exact subscriptTail_builtinR (x:=w) pl.isList.typeIs slot_list_getitem.lookup
      (wpAny_getItem_list_neg (Q:=λ r s'=>r=w/\EP X pins σ Q r s') pl.isList (by omega) (by rw [List.size_toArray] <;> omega) (by omega) (by rw [hj];simpa using ew) ⟨rfl,fin⟩) hs
theorem DZ:IxR X Om:=by
  intro value slice pins s σ H x y v u Q I rx ry h hs;obtain ⟨z,i,c,rfl,rfl,hz,he,q⟩:=h;obtain ⟨t,rfl⟩:=rx;obtain ⟨t',rfl⟩:=ry;obtain ⟨j,h1,h2,h3,h4,h5⟩:=Fu he;have hl:z.cps.toList.length=z.length:=by simp [Str.length]
  rw [hl] at h1 h4 h5;have hn:=FD;exact tail_any (typeIs_str s z t) slot_str_getitem.lookup (getItem_str (c:=c) (by
    have e1:decide (i< -(2 ^ 63:Int))=false:=decide_eq_false (by omega);have e2:decide (i>=2 ^ 63)=false:=decide_eq_false (by omega);rw [e1,e2,Bool.or_false]) (by rw [h1];simpa using h2) ⟨.str ⟨#[c]⟩,H,I.tok _,⟨_,rfl⟩,q⟩) hs
theorem Inv.lst {pins:List (Addr × Obj)} {σ:St} {H:Hp} {s:Shared} {p:Addr} {xs:List V} (I:Inv X pins σ H s) (h:H p=some (.lst xs)):
    ∃ (its:List Value) (n:Nat),Vals xs its/\s.heap.get? p=some { cls:= .type "list",data:= .seq its.toArray n }/\xs.length<=sizeLine:=by
  obtain ⟨z,its,n,r,e⟩:=I.hok p _ h;exact ⟨its,n,r,e,z⟩
theorem FH (lo hi:Option Int) (n:Nat):(sliceBounds lo hi none n).1=((HT.sIx n 0 lo:Nat):Int)/\(sliceBounds lo hi none n).2.1=((HT.sIx n n hi:Nat):Int)/\(sliceBounds lo hi none n).2.2=1:=by
  refine ⟨?_,?_,rfl⟩
  · cases lo with
    | none=>simp [sliceBounds,HT.sIx]
    | some i=>
      simp only [sliceBounds,HT.sIx,Option.getD_none,show (1:Int)>0 by decide,if_true];by_cases h:i<0
      · simp only [h,if_true] <;> omega
      · simp only [h,if_false] <;> omega
  · cases hi with
    | none=>simp [sliceBounds,HT.sIx]
    | some i=>
      simp only [sliceBounds,HT.sIx,Option.getD_none,show (1:Int)>0 by decide,if_true];by_cases h:i<0
      · simp only [h,if_true] <;> omega
      · simp only [h,if_false] <;> omega
theorem EM (its:List Value) (lo hi:Option Int):slicePick its.toArray lo hi none=((its.drop (HT.sIx its.length 0 lo)).take (HT.sIx its.length its.length hi - HT.sIx its.length 0 lo)).toArray:=by
  obtain ⟨h1,h2,h3⟩:=FH lo hi its.toArray.size;unfold slicePick;rw [h1,h2,h3];simp only [sliceRange_one,pick_run,List.size_toArray] <;> rfl
def M7 (K:PySem.W.Frag):V->Option Int->Option Int->Hp->VK->Prop:=λ x lo hi H Q=>∃ a xs,x= .ref a/\SqL K H a xs/\∀ p,H p=none->Q (.ref p) (upd H p (.lst (Dv xs lo hi)))
theorem Kj:SlR X (M7 X.K):=by
  intro pins s σ H x v vl vu lo hi sl Q I rx hs pl pu h;obtain ⟨a,xs,rfl,hx,q⟩:=h;cases rx;obtain ⟨its,r,ht,hz⟩:=I.list hx;have hlen:=r.length;refine ⟨"list",_,slot_list_getitem.lookup,ht.isList.typeIs,?_⟩;refine wpAny_getItem_list_slice ht.isList hs pl pu .none (by simp) ?_ (by rw [List.size_toArray] <;> omega);rw [EM, <-hlen];refine ⟨.ref s.heap.objs.size,_,I.laid (t':=s.toks) (o:= .lst (Dv xs lo hi)) (λ b ob q=>Heap.get?_push_of_some _ q) (Nat.le_refl _) ?_,rfl,q _ (I.hok.fresh (Nat.le_refl _))⟩;exact ⟨Nat.le_trans (FY xs lo hi) hz,_,0,(r.drop (HT.sIx xs.length 0 lo)).take (HT.sIx xs.length xs.length hi - HT.sIx xs.length 0 lo),Heap.get?_push_size _ rfl⟩
def AK:V->Bool
  | .non=>true
  | .bl _=>true
  | .int _=>true
  | .str _=>true
  | _=>false
def eqV:V->V->Bool
  | .non, .non=>true
  | .bl a, .bl b=>a == b
  | .bl a, .int b=>(if a then 1 else 0) == b
  | .int a, .bl b=>a == (if b then 1 else 0)
  | .int a, .int b=>a == b
  | .str a, .str b=>a == b
  | _,_=>false
theorem Jh {A:Around} {s:Shared} {y x:V} {u v:Value} (ry:RelV y u) (rx:RelV x v) (fy:AK y=true) (fx:AK x=true):SeqAt.EqAt A s u v (eqV y x):=by
  cases y with
  | non=>
    cases ry;cases x with
    | non=>cases rx;exact SeqAt.EqAt.same _
    | bl b=>cases rx;exact SeqAt.EqAt.none_bool b
    | int b=>obtain ⟨t,rfl⟩:=rx;exact SeqAt.EqAt.none_int b t
    | str b=>obtain ⟨t,rfl⟩:=rx;exact SeqAt.EqAt.none_str b t
    | _=>exact absurd (show false=true from fx) Bool.false_ne_true
  | bl a=>
    cases ry;cases x with
    | non=>cases rx;exact SeqAt.EqAt.bool_none a
    | bl b=>cases rx;exact SeqAt.EqAt.bool_bool a b
    | int b=>obtain ⟨t,rfl⟩:=rx;exact SeqAt.EqAt.bool_int a b t
    | str b=>obtain ⟨t,rfl⟩:=rx;exact SeqAt.EqAt.bool_str a b t
    | _=>exact absurd (show false=true from fx) Bool.false_ne_true
  | int a=>
    obtain ⟨t',rfl⟩:=ry;cases x with
    | non=>cases rx;exact SeqAt.EqAt.int_none a t'
    | bl b=>cases rx;exact SeqAt.EqAt.int_bool a t' b
    | int b=>obtain ⟨t,rfl⟩:=rx;exact SeqAt.EqAt.int_int a t' b t
    | str b=>obtain ⟨t,rfl⟩:=rx;exact SeqAt.EqAt.int_str a t' b t
    | _=>exact absurd (show false=true from fx) Bool.false_ne_true
  | str a=>
    obtain ⟨t',rfl⟩:=ry;cases x with
    | non=>cases rx;exact SeqAt.EqAt.str_none a t'
    | bl b=>cases rx;exact SeqAt.EqAt.str_bool a t' b
    | int b=>obtain ⟨t,rfl⟩:=rx;exact SeqAt.EqAt.str_int a t' b t
    | str b=>obtain ⟨t,rfl⟩:=rx;exact SeqAt.EqAt.str_str a t' b t
    | _=>exact absurd (show false=true from fx) Bool.false_ne_true
  | _=>exact absurd (show false=true from fy) Bool.false_ne_true
def eqU (x:V) (u:Value):Bool:=match u with
  | .none=>eqV .non x
  | .bool b=>eqV (.bl b) x
  | .int i _=>eqV (.int i) x
  | .str z _=>eqV (.str z) x
  | _=>false
theorem IC {x y:V} {u:Value} (r:RelV y u) (f:AK y=true):eqU x u=eqV y x:=by
  cases y with
  | non=>cases r;rfl
  | bl b=>cases r;rfl
  | int i=>obtain ⟨t,rfl⟩:=r;rfl
  | str z=>obtain ⟨t,rfl⟩:=r;rfl
  | _=>exact absurd (show false=true from f) Bool.false_ne_true
theorem C2 {x:V}:∀ {xs:List V} {us:List Value},Vals xs us->xs.all AK=true->us.any (eqU x)=xs.any λ y=>eqV y x
  | _,_, .nil,_=>rfl
  | y::xs,u::us, .cons r t,f=>by
    rw [List.all_cons,Bool.and_eq_true] at f;rw [List.any_cons,List.any_cons,IC r f.1,C2 t f.2]
theorem Ct {A:Around} {s:Shared} {x:V} {v:Value} (rx:RelV x v) (fx:AK x=true):∀ {xs:List V} {us:List Value},Vals xs us->xs.all AK=true->∀ u∈us,SeqAt.EqAt A s u v (eqU x u)
  | _,_, .nil,_=>λ u hu=>by cases hu
  | y::xs,u::us, .cons r t,f=>λ u' hu=>by
    rw [List.all_cons,Bool.and_eq_true] at f;rcases List.mem_cons.mp hu with rfl | hu
    · rw [IC r f.1];exact Jh r rx f.1 fx
    · exact Ct rx fx t f.2 u' hu
def inV (x:V) (xs:List V):Bool:=xs.any λ y=>eqV y x
def rIn (K:PySem.W.Frag) (neg:Bool):R2:=λ x y H Q=>∃ p xs,y= .ref p/\(SqL K H p xs\/SqT K H p xs)/\AK x=true/\xs.all AK=true/\Q (.bl (if neg then !inV x xs else inV x xs)) H
theorem HD:OpR X (compareOp .In) (rIn X.K false):=by
  intro pins s σ H x y v u Q I rx ry h;obtain ⟨p,xs,rfl,hq,fx,fs,q⟩:=h;cases ry;rcases hq with hq | hq
  · obtain ⟨its,r,pl,hz⟩:=I.list hq;refine SeqAt.in_listAt (eqU x) pl.isList (λ w hw=>Ct rx fx r fs w (by simpa using hw)) ⟨.bl _,H,I,rfl,?_⟩;rw [show its.toArray.any (eqU x)=its.any (eqU x) by simp,C2 r fs];exact q
  · obtain ⟨its,r,pl,hz⟩:=I.tuple hq;refine SeqAt.in_tupleAt (eqU x) pl (λ w hw=>Ct rx fx r fs w (by simpa using hw)) ⟨.bl _,H,I,rfl,?_⟩;rw [show its.toArray.any (eqU x)=its.any (eqU x) by simp,C2 r fs];exact q
theorem Fn:OpR X (compareOp .NotIn) (rIn X.K true):=by
  intro pins s σ H x y v u Q I rx ry h;obtain ⟨p,xs,rfl,hq,fx,fs,q⟩:=h;cases ry;rcases hq with hq | hq
  · obtain ⟨its,r,pl,hz⟩:=I.list hq;refine SeqAt.notIn_listAt (eqU x) pl.isList (λ w hw=>Ct rx fx r fs w (by simpa using hw)) ⟨.bl _,H,I,rfl,?_⟩;rw [show its.toArray.any (eqU x)=its.any (eqU x) by simp,C2 r fs];exact q
  · obtain ⟨its,r,pl,hz⟩:=I.tuple hq;refine SeqAt.notIn_tupleAt (eqU x) pl (λ w hw=>Ct rx fx r fs w (by simpa using hw)) ⟨.bl _,H,I,rfl,?_⟩;rw [show its.toArray.any (eqU x)=its.any (eqU x) by simp,C2 r fs];exact q
theorem Fy:Ba X (.type "list") (λ xs H Q=>∃ p ys,xs=[.ref p]/\(SqL X.K H p ys\/SqT X.K H p ys)/\∀ l,H l=none->Q (.ref l) (upd H l (.lst ys))):=by
  intro pins s σ H xs us Q I r h;obtain ⟨p,ys,rfl,hq,q⟩:=h;obtain ⟨u,rfl,rx⟩:=DD r;cases rx;have fin:∀ (its:List Value),Vals ys its->ys.length<=sizeLine->∀ (h':Heap) (c':Nat),(∀ b o',s.heap.get? b=some o'->h'.get? b=some o')->
      h'.get? s.heap.objs.size=some { cls:= .type "list",dict:=none,data:= .seq its.toArray c',slots:= #[] }->EP X pins σ Q (.ref s.heap.objs.size) { s with heap:=h' }:=λ its r' hz h' c' kp e=>
    ⟨.ref s.heap.objs.size,_,I.laid (t':=s.toks) kp (Nat.le_refl _) (show ObjOk X.prog X.w _ h' _ (.lst ys) from ⟨hz,its,c',r',e⟩),rfl,q _ (I.hok.fresh (Nat.le_refl _))⟩
  rcases hq with hq | hq
  · obtain ⟨its,r',pl,hz⟩:=I.list hq;have hlen:=r'.length;obtain ⟨o,ho,hc,n,hd⟩:=pl.isList;exact call_list_seq p (.inl rfl) ho hc hd (λ h' c' kp e=>fin its r' hz h' c' kp e) (by simp only [List.size_toArray] <;> omega)
  · obtain ⟨its,r',pl,hz⟩:=I.tuple hq;have hlen:=r'.length;obtain ⟨o,ho,hc,n,hd⟩:=pl;exact call_list_seq p (.inr rfl) ho hc hd (λ h' c' kp e=>fin its r' hz h' c' kp e) (by simp only [List.size_toArray] <;> omega)
def tyV (K:PySem.W.Frag) (T:String) (x:V) (H:Hp):Prop:=match x with
  | .str _=>T="str"
  | .int _=>T="int"
  | .ref p=>(T="list"/\∃ xs,SqL K H p xs)\/(T="tuple"/\∃ o,K.lookup p=some o/\o.cls= .type "tuple"/\o.dict=none)\/
      (T="dict"/\((∃ kvs,H p=some (.dK kvs))\/∃ kvs,H p=some (.dT kvs)))\/(T="set"/\∃ S n,H p=some (.set S n))
  | _=>False
theorem Je {pins:List (Addr × Obj)} {σ:St} {H:Hp} {s:Shared} {T:String} {x:V} {v:Value} (I:Inv X pins σ H s) (r:RelV x v) (ty:tyV X.K T x H):
    s.TypeIs v T/\∀ a,v= .ref a->∃ ob,s.heap.get? a=some ob/\ob.dict=none:=by
  cases x with
  | str z=>
    obtain ⟨t,rfl⟩:=r;cases (show T="str" from ty);exact ⟨typeIs_str s z t,λ _ e=>nomatch e⟩
  | int i=>
    obtain ⟨t,rfl⟩:=r;cases (show T="int" from ty);exact ⟨typeIs_int s i t,λ _ e=>nomatch e⟩
  | ref p=>
    cases r;rcases ty with ⟨rfl,xs,hq⟩ | ⟨rfl,o,hk,hc,hd⟩ | ⟨rfl,hk⟩ | ⟨rfl,S,n,hk⟩
    · obtain ⟨its,_,pl,_⟩:=I.list hq;refine ⟨pl.isList.typeIs,λ a e=> ?_⟩;cases e;obtain ⟨o,n,e,c,hd,_⟩:=pl;exact ⟨o,e,hd⟩
    · refine ⟨⟨o,I.kIn p o hk,hc⟩,λ a e=> ?_⟩;cases e;exact ⟨o,I.kIn _ o hk,hd⟩
    · have z:∃ o,s.heap.get? p=some o/\o.ExactDict:=by
        rcases hk with ⟨kvs,hk⟩ | ⟨kvs,hk⟩
        · obtain ⟨_,_,_,_,o,_,_,e,ex,_⟩:=I.hok p _ hk;exact ⟨o,e,ex⟩
        · obtain ⟨_,_,_,_,o,_,_,e,ex,_⟩:=I.hok p _ hk;exact ⟨o,e,ex⟩
      obtain ⟨o,e,ex⟩:=z;refine ⟨⟨o,e,ex.1⟩,λ a e2=> ?_⟩;cases e2;exact ⟨o,e,ex.2.1⟩
    · obtain ⟨o,_,_,_,e,ex,_⟩:=I.hok p _ hk;refine ⟨⟨o,e,ex.1⟩,λ a e2=> ?_⟩;cases e2;exact ⟨o,e,ex.2.1⟩
  | _=>exact False.elim ty
def M4 (K:PySem.W.Frag) (T:String) (r:V->List V->Hp->VK->Prop) (to:TE):TE:=λ σ H Q=>to σ H λ x H1=>tyV K T x H1/\r x [] H1 Q
def tBM (K:PySem.W.Frag) (T:String) (r:V->List V->Hp->VK->Prop) (to:TE) (t:TA):TE:=λ σ H Q=>to σ H λ x H1=>tyV K T x H1/\t σ H1 λ xs H2=>r x xs H2 Q
variable {o e:Expr} {es:List Expr} {to:TE} {t:TA} {name:Str} {apos cpos:Pos} {T id:String} {r:V->List V->Hp->VK->Prop}
theorem Mw (pa:PlainAttrs T) (slot:Slot T name id) (hty:typeOf (.builtin id)=pure (.type "method_descriptor")) (hm:MtR X id r) (ho:PE X o to)
    (hbase:attributeBase o name X.env (eval o X.env)=eval o X.env:=by rfl) (hline:(apos.endLine == cpos.line)=true:=by rfl):PE X (.Call (.Attribute o name apos) [] [] cpos) (M4 X.K T r to):=by
  intro pins s σ H Q I h;refine wpAny_Call_method0_late hbase hline (thn (ho pins s σ H _ I h) λ v s1 ⟨x,H1,I1,r1,ty,q1⟩=> ?_);obtain ⟨h1,h2⟩:=Je I1 r1 ty;exact ⟨T,id,pa,slot,hty,h1,h2,Calls.callWith_builtin rfl (PySem.evalArgs_none (hm pins s1 σ H1 x [] v [] Q I1 r1 .nil q1))⟩
theorem Nn (pa:PlainAttrs T) (slot:Slot T name id) (hty:typeOf (.builtin id)=pure (.type "method_descriptor")) (hm:MtR X id r) (ho:PE X o to) (ha:PA X (e::es) t)
    (hbase:attributeBase o name X.env (eval o X.env)=eval o X.env:=by rfl)
    (hfew:((backTo cpos (starEach (e::es) X.env)).all (λ x=> !x.1)&&(backToKw cpos (keywordEach [] X.env)).all (λ x=>x.1.isSome)
      && decide ((e::es).length+([]:List Keyword).length+(if ([]:List Keyword).isEmpty then 0 else 1)<30))=true:=by rfl)
    (hline:(apos.endLine == cpos.line)=true:=by rfl) (hs:starEach (e::es) X.env=(false,eval e X.env)::starEach es X.env:=by rfl) (hplain:(backTo cpos (starEach es X.env)).any (·.1)=false:=by rfl):
    PE X (.Call (.Attribute o name apos) (e::es) [] cpos) (tBM X.K T r to t):=by
  intro pins s σ H Q I h;refine wpAny_Call_method_late hbase hfew hline rfl (thn (ho pins s σ H _ I h) λ v s1 ⟨x,H1,I1,r1,ty,q1⟩=> ?_);obtain ⟨h1,h2⟩:=Je I1 r1 ty;refine ⟨T,id,pa,slot,hty,h1,h2,?_⟩;have hA:=ha cpos pins s1 σ H1 _ I1 q1;rw [hs] at hA ⊢;refine Calls.callWith_builtin (by show (false||(backTo cpos (starEach es X.env)).any (·.1))=false;rw [hplain] <;> rfl) (Calls.evalArgs_plain ?_);exact thn hA λ us s2 ⟨vs,H2,I2,r2,q2⟩=>hm pins s2 σ H2 x vs v us Q I2 r1 r2 q2
end
def MtM (X:Cx) (id:String) (r:V->List V->Hp->VK->Prop):Prop:=
  ∀ (pins:List (Addr × Obj)) (s:Shared) (σ:St) (H:Hp) (x:V) (xs:List V) (v:Value) (us:List Value) (Q:VK),Inv X pins σ H s->RelV x v->Vals xs us->r x xs H Q->
    wpAny (model X.prog X.w) X.A (call (.builtin id) (v::us)) (EP X pins σ Q) X.xe s
theorem Vals.one:∀ {x:V} {us:List Value},Vals [x] us->∃ u,us=[u]/\RelV x u
  | _,_, .cons r .nil=>⟨_,rfl,r⟩
theorem Vals.zero:∀ {us:List Value},Vals [] us->us=[]
  | _, .nil=>rfl
theorem Vals.dropLast {xs:List V} {us:List Value} (h:Vals xs us):Vals xs.dropLast us.dropLast:=by
  induction h with
  | nil=>exact .nil
  | cons r t ih=>
    cases t with
    | nil=>exact .nil
    | cons q t'=>exact .cons r ih
theorem Vals.rep {xs:List V} {us:List Value} (h:Vals xs us):∀ k:Nat,Vals (List.replicate k xs).flatten (List.replicate k us).flatten
  | 0=> .nil
  | k+1=>by
    rw [List.replicate_succ,List.replicate_succ,List.flatten_cons,List.flatten_cons];exact Vals.append h (Vals.rep h k)
theorem GL {α:Type} (l:List α):l.eraseIdx (l.length - 1)=l.dropLast:=by
  induction l with
  | nil=>rfl
  | cons a r ih=>
    cases r with
    | nil=>rfl
    | cons b r=>
      have e:(a::b::r).length - 1=((b::r).length - 1)+1:=by
        have h1:(a::b::r).length=r.length+2:=rfl;have h2:(b::r).length=r.length+1:=rfl;omega
      rw [e,List.eraseIdx_cons_succ,ih]
      all_goals rfl
theorem Fh (its:List Value):∀ (k:Nat) (acc:List Value),
    List.foldl (λ x1 x2=>x1++x2) acc.toArray (List.replicate k its.toArray)=(acc++(List.replicate k its).flatten).toArray
  | 0,acc=>by simp
  | k+1,acc=>by
    have e:acc.toArray++its.toArray=(acc++its).toArray:=by simp
    have e2:(acc++its)++(List.replicate k its).flatten=acc++(List.replicate (k+1) its).flatten:=by
      rw [List.replicate_succ,List.flatten_cons,List.append_assoc]
    rw [<-e2, <-Fh its k (acc++its), <-e,List.replicate_succ,List.foldl_cons]
section
variable {X:Cx} {pins:List (Addr × Obj)} {σ:St} {H:Hp} {s:Shared} {l b:Addr} {xs ys zs:List V}
theorem Inv.lset {its its':List Value} {n:Nat} {f:Array Value->Array Value} {t':Nat} (I:Inv X pins σ H s) (hH:H l=some (.lst xs))
    (e:s.heap.get? l=some { cls:= .type "list",data:= .seq its.toArray n }) (hf:f its.toArray=its'.toArray) (hv:Vals ys its') (hz:ys.length<=sizeLine):
    Inv X pins σ (upd H l (.lst ys)) { s with heap:=s.heap.update l (Obj.mapSeq f),toks:=t' }:=by
  have q:=PySem.IsL.update e f;rw [hf] at q;refine I.write (x:=l) (e:=l) (by rw [hH];exact trivial) (.inl rfl) (λ b' u hb hu=>(Heap.get?_update_other s.heap (Obj.mapSeq f) (Ne.symm hb)).trans hu) ⟨_,q⟩ ?_;exact ⟨hz,its',_,hv,q⟩
theorem Inv.lnew {its:List Value} {t':Nat} (I:Inv X pins σ H s) (hv:Vals ys its) (hz:ys.length<=sizeLine):
    Inv X pins σ (upd H s.heap.objs.size (.lst ys)) { s with heap:=s.heap.push { cls:= .type "list",data:= .seq its.toArray },toks:=t' }:=
  I.laid (λ _ _ q=>Heap.get?_push_of_some _ q) (Nat.le_refl _) ⟨hz,its,0,hv,Heap.get?_push_size _ rfl⟩
theorem Inv.fresh (I:Inv X pins σ H s):H s.heap.objs.size=none:=I.hok.fresh (Nat.le_refl _)
theorem Inv.lstM (I:Inv X pins σ H s) (hH:H l=some (.lst xs)):xs.length<=sizeLine/\∃ (its:List Value) (n:Nat),Vals xs its/\xs.length=its.length/\s.heap.get? l=some { cls:= .type "list",data:= .seq its.toArray n }:=by
  obtain ⟨z,its,n,r,e⟩:=I.hok l _ hH;exact ⟨z,its,n,r,r.length,e⟩
theorem Gn {n:Nat} (h:n<=sizeLine):Builtin.List.listTooLong n=false:=by
  unfold Builtin.List.listTooLong;exact decide_eq_false (by omega)
end
section
variable {X:Cx}
def rAppend:V->List V->Hp->VK->Prop:=λ x vs H Q=>∃ l xs y,x= .ref l/\vs=[y]/\H l=some (.lst xs)/\xs.length<sizeLine/\Q .non (upd H l (.lst (xs++[y])))
theorem AB:MtM X "list.append" rAppend:=by
  intro pins s σ H x vs v us Q I rx rv h;obtain ⟨l,xs,y,rfl,rfl,hH,hz,q⟩:=h;cases rx;obtain ⟨u,rfl,ru⟩:=rv.one;obtain ⟨z,its,n,r,hl,e⟩:=I.lstM hH;refine call_meets F.slot_list_append ⟨_,e,rfl⟩ F.entry_list_append (F.args_list_append_2 _ _) (PySem.list_append l its.toArray n u (by rw [List.size_toArray];omega)) ⟨e,?_⟩;refine ⟨.non,_,I.lset (its':=its++[u]) hH e (by simp) (r.append (.cons ru .nil)) ?_,rfl,q⟩;rw [List.length_append,List.length_singleton];omega
def rExtend:V->List V->Hp->VK->Prop:=λ x vs H Q=>∃ l b xs zs,x= .ref l/\vs=[.ref b]/\H l=some (.lst xs)/\H b=some (.lst zs)/\xs.length+zs.length<=sizeLine/\Q .non (upd H l (.lst (xs++zs)))
theorem Ih:MtM X "list.extend" rExtend:=by
  intro pins s σ H x vs v us Q I rx rv h;obtain ⟨l,b,xs,zs,rfl,rfl,hH,hB,hz,q⟩:=h;cases rx;obtain ⟨u,rfl,ru⟩:=rv.one;cases ru;obtain ⟨z,its,n,r,hl,e⟩:=I.lstM hH;obtain ⟨z2,its2,n2,r2,hl2,e2⟩:=I.lstM hB;have hsz:its.toArray.size+its2.toArray.size<=sizeLine:=by rw [List.size_toArray,List.size_toArray];omega
  have hlong:¬ (!its.toArray.isEmpty&&Builtin.List.listTooLong (its.toArray.size+its2.toArray.size))=true:=by
    rw [Gn hsz,Bool.and_false];exact Bool.false_ne_true
  refine call_meets F.slot_list_extend ⟨_,e,rfl⟩ F.entry_list_extend (F.args_list_extend_2 _ _)
    (AutoSeq1.list_extend_list_list_0 l its.toArray n b its2.toArray n2 hlong (by rw [List.size_toArray];omega) (by omega)) ⟨e,e2,?_⟩
  refine ⟨.non,_,I.lset (its':=its++its2) hH e (by simp) (r.append r2) ?_,rfl,q⟩;rw [List.length_append];omega
def rPop:V->List V->Hp->VK->Prop:=λ x vs H Q=>∃ l xs y,x= .ref l/\vs=[]/\H l=some (.lst xs)/\xs[xs.length - 1]?=some y/\Q y (upd H l (.lst xs.dropLast))
theorem JR:MtM X "list.pop" rPop:=by
  intro pins s σ H x vs v us Q I rx rv h;obtain ⟨l,xs,y,rfl,rfl,hH,hy,q⟩:=h;cases rx;have hus:=rv.zero;subst hus;obtain ⟨z,its,n,r,hl,e⟩:=I.lstM hH;obtain ⟨u,hu,ru⟩:=r.get hy;have hy':its.toArray[its.toArray.size - 1]?=some u:=by
    show its.toArray[its.length - 1]?=some u;rw [<-Array.getElem?_toList, <-hl];exact hu
  refine call_meets F.slot_list_pop ⟨_,e,rfl⟩ F.entry_list_pop (F.args_list_pop_1 _) (MeetsSeq.list_pop_last l its.toArray n u hy' (by rw [List.size_toArray];omega)) ⟨e,?_⟩;refine ⟨y,_,I.lset (its':=its.dropLast) hH e ?_ r.dropLast ?_,ru,q⟩
  · show its.toArray.eraseIdxIfInBounds (its.toArray.size - 1)=its.dropLast.toArray;rw [List.size_toArray,List.eraseIdxIfInBounds_toArray,GL]
  · rw [List.length_dropLast];omega
def My:R2:=λ x y H Q=>∃ l k xs,x= .ref l/\y= .int k/\H l=some (.lst xs)/\ -(2 ^ 63)<=k/\k<2 ^ 63/\xs.length*k.toNat<=sizeLine/\
  ∀ p,H p=none->Q (.ref p) (upd H p (.lst (List.replicate k.toNat xs).flatten))
theorem Ku {α:Type} (xs:List α) (k:Nat):(List.replicate k xs).flatten.length=k*xs.length:=by
  induction k with
  | zero=>simp
  | succ k ih=>rw [List.replicate_succ,List.flatten_cons,List.length_append,ih,Nat.succ_mul,Nat.add_comm]
theorem Fz:OpR X (binaryOp .Mult) My:=by
  intro pins s σ H x y v u Q I rx ry h;obtain ⟨l,k,xs,rfl,rfl,hH,h1,h2,hz,q⟩:=h;cases rx;obtain ⟨t,rfl⟩:=ry;obtain ⟨z,its,n,r,hl,e⟩:=I.lstM hH;have hlen:its.toArray.size*k.toNat<=sizeLine:=by rw [List.size_toArray, <-hl];exact hz
  have hcap:¬ its.toArray.size*k.toNat>(2 ^ 63 - 1) / 8:=by
    have:(sizeLine:Nat)<=(2 ^ 63 - 1) / 8:=by decide
    omega
  have hfit:¬ (!Builtin.List.listFitsIndex k)=true:=by
    rw [fitsIndex_both h1 h2];exact Bool.false_ne_true
  have hlong:¬ Builtin.List.listTooLong (its.toArray.size*k.toNat)=true:=by
    rw [Gn hlen];exact Bool.false_ne_true
  have hnew:List.foldl (λ x1 x2=>x1++x2) #[] (List.replicate (if its.toArray.isEmpty=true then 0 else k.toNat) its.toArray)=(List.replicate k.toNat its).flatten.toArray:=by
    have f0:∀ m:Nat,List.foldl (λ x1 x2=>x1++x2) #[] (List.replicate m its.toArray)=(List.replicate m its).flatten.toArray:=λ m=>by
      have:=Fh its m [];rw [List.nil_append] at this;exact this
    rw [f0];cases its with
    | nil=>simp
    | cons a r'=>rw [if_neg (by simp)]
  refine wpAny_binaryOp_repeat_ref (T:="list") (U:="int") (by decide) ⟨_,e,rfl⟩ (λ s'=>typeIs_int s' k t) noFill_list_mul F.fills_int_mul F.slot_int_rmul repeat_list F.slot_int_index.lookup
    (call_meets F.slot_int_rmul (typeIs_int s k t) F.entry_int_rmul (F.args_int_rmul_2 _ _) (int___rmul___int_list k t l its.toArray n)
      ⟨e,rfl,⟨_,e,rfl⟩,call_meets F.slot_list_mul ⟨_,e,rfl⟩ F.entry_list_mul (F.args_list_mul_2 _ _) (AutoListH.list___mul___list_int_3 l its.toArray n k t hfit hcap hlong) ⟨e,?_⟩⟩)
  rw [hnew];exact ⟨.ref _,_,I.lnew (t':=s.toks) (r.rep k.toNat) (by rw [Ku,Nat.mul_comm];exact hz),rfl,q _ I.fresh⟩
end
section
variable {prog:Program} {w:World} {A:Around} {E:Value->Shared->Prop} {s:Shared}
end
section
variable {X:Cx}
end
end L2
namespace Att
open PySem PySem.W PySem.Calls PyProof.Rows
theorem DO {P:Params} {h:Heap}:∀ (ns:List Int) (vs:List Value),WellAll P h vs (ns.map WData.int)->IntsAre vs ns:=by
  intro ns
  induction ns with
  | nil=>
    intro vs w;rw [List.map_nil] at w;cases w;exact .nil
  | cons n ns ih=>
    intro vs w;rw [List.map_cons] at w;cases w with
    | cons a b=>
      cases a;exact .cons _ _ (ih _ b)
theorem Hw {l:OpenLaw} {n:Nat} (hn:l.most=some n) {P:Params} {h:Heap} {args:List WData} {vals:List Value}
    (hpre:l.row.toRowW.claim.pre args=true) (hwl:WellAll P h vals args):
    ∃ a vs ns,vals=[Value.ref a]/\args=[WData.list (ns.map WData.int)]/\h.get? a=some { cls:= .type "list",data:= .seq vs.toArray }/\IntsAre vs ns/\ns.length<=n:=by
  have hsh:WShape.hasAll [] args [.list .int]=true:=(pre_splitW hpre).1;have hc:l.pre.holds [] { args:=args }=true:=(pre_splitW hpre).2;obtain ⟨d,r,rfl,h1,h2⟩:=hasAllW_cons hsh;obtain rfl:=hasAllW_nil h2;obtain ⟨xs,rfl,h3⟩:=hasW_list h1;obtain ⟨ns,rfl⟩:=items_int h3;have hlen:ns.length<=n:=by
    unfold OpenLaw.pre at hc;have h4:(WTm.not (.lt (.lit (.int (n:Int))) (.len (.arg 0)))).holds [] { args:=[.list (ns.map .int)] }=true:=by
      have h4:=(holds_andW hc).1;rw [hn] at h4;exact h4
    have h5:=condW_of h4 (w_not (w_lt w_lit (w_len_list (w_arg rfl))));rw [List.length_map] at h5;refine Nat.le_of_not_lt λ q=> ?_;have q':(n:Int)<((ns.length:Nat):Int):=by omega
    first
      | (rw [decide_eq_true q'] at h5;exact absurd h5 (by decide))
      | (simp at h5;omega)
  cases hwl with
  | cons w1 w2=>
    cases w2;cases w1 with
    | list ho hall=>exact ⟨_,_,ns,rfl,rfl,ho,DO ns _ hall,hlen⟩
theorem HB (l:OpenLaw) (args:List WData):l.row.toRowW.claim.post args (.bool true) args=true:=
  postW_of (r:=l.row.toRowW) (X:=(true == true))
    (show WShape.has [] (.bool true) .bool=true by first | rfl | decide | simp [WShape.has,WShape.arms,WShape.armsAll])
    (show (WTm.eq .res (.lit (.bool true))).value [] { args:=args,res:=some (.bool true),after:=args }=some (.bool (true == true)) from w_eq_bool (w_res rfl) w_lit) rfl
theorem attach_call {l:OpenLaw} {n:Nat} {q:Program} {loose:List Str} {XP:(Str->Option Value)->Heap->Prop} {YP:World->Heap->Prop} {d:DefRec}
    (hn:l.most=some n) (hdf:d.params.defaults=[])
    (call:∀ (w:World) (s₀ s₁:Shared) (mg mb:Str->Option Value) (fa:Addr) (o:Obj) (pm cd doc:Value) (a:Addr) (vs:List Value) (ns:List Int),
      Ground q loose [] XP w s₀ mg mb s₁.heap->YP w s₁.heap->
      s₁.heap.get? fa=some o->o.data= .func (docDef d.name d.params d.body d.scope pm cd doc)->s₁.heap.CodeRec cd d.name->mg d.name=some (.ref fa)->
      s₁.heap.get? a=some { cls:= .type "list",data:= .seq vs.toArray }->IntsAre vs ns->ns.length<=n->s₁.gens= #[]->
      codeAny (model l.prog w) callerA (.call (.ref fa) ⟨[.ref a],[]⟩) (λ r s'=>r= .ok (.ret (.bool true))/\OldK s₁.heap s'.heap/\s'.os=s₁.os/\AllBare s'.gens) s₁):
    WalkO q loose XP YP l.row.toRowW d [] (λ f vs=>PySem.call f vs):=by
  intro w s₀ s₁ mg mb G Y fa o pm cd doc dV kV ho hd hcd hD hmg hg args vals as hpre hlay hrd hwl hlo;obtain rfl:dV= .none:=Dflts.none hD hdf;obtain rfl:kV= .none:=Dflts.noKw hD;obtain ⟨a,vs,ns,rfl,rfl,hobj,hints,hlen⟩:=Hw hn hpre hwl;refine enter_call (codeAny_mono (call w s₀ s₁ mg mb fa o pm cd doc a vs ns G Y ho (fd_plain hd) hcd hmg hobj hints hlen hg) λ r s' hq=> ?_);obtain ⟨rfl,h2,h3,h4⟩:=hq;exact ⟨.inl ⟨.bool true, .bool true,[],rfl,λ _=>rfl, .bool true,HB l _,λ _=>⟨List.Pairwise.nil,λ _ hm=>(nomatch hm)⟩⟩,h2,h3,h4⟩
section
variable {prog:Program} {w:World} {A:Around} {E:Value->Shared->Prop} {s:Shared} {K:Frag}
end
end Att
namespace L2
open PySem PySem.Spec PyProof.Rows
theorem E8:∀ {vs:List Value} {ns:List Int},IntsAre vs ns->Vals (ns.map V.int) vs
  | _,_, .nil=> .nil
  | _,_, .cons n t h=> .cons ⟨t,rfl⟩ (E8 h)
abbrev CX0:CXT:=λ _ _ _ _ _ _=>False
abbrev E0:XK:=λ _ _ _=>False
theorem PQ {X:Cx}:CK CX0 X E0:=λ _ _ _ _ _ _ _ h=>h.elim
structure Fun (K:PySem.W.Frag) (x qual:Str) (st:Stmt) (f:Addr) (fd:FuncData):Prop where
  ex:∃ (oc:Value) (od:Option Addr) (kV doc pm:Value) (an:Option Addr) (cdv ct:Value) (osl:Array (Option Value)),
    fd=PySem.W.fnOf x qual (Cz st) (Bf st) (Aj st) .none kV doc pm an cdv ct/\K.lookup f=some ⟨oc,od, .func fd,osl⟩/\PySem.W.codeIn K cdv qual=true
  kp:PySem.W.keepIn K (.ref f)=true
section
variable {P:Program} {w:World} {K:PySem.W.Frag} {mg:Str->Option Value} {base:Heap}
theorem Fun.ok {x qual:Str} {st:Stmt} {f:Addr} {fd:FuncData} {N ps:List Str} {k:Nat} {sp:Sp} (F:Fun K x qual st f fd) (S:FnScope N ps (Aj st)) (len:∀ vs H Q E,sp vs H Q E->vs.length=ps.length)
    (hbody:∀ (cdv:Value) (A:Around) (outer:List Env) (s:Shared) (H:Hp) (vs:List V) (Q:VK) (E:XK),Room k (A.deeper (envOfC qual (Aj st) s.heap.objs.size f cdv))->sp vs H Q E->
      ∃ t,PSs (B6 CX0 P w K mg base N qual (Aj st) f cdv A outer s H E).nox (Bf st) t/\t { nx:=λ _ H'=>Q .non H',rt:=Q } (start N vs) H):FnOk P w K mg base CX0 (k+1) f fd ps sp:=by
  obtain ⟨oc,od,kV,doc,pm,an,cdv,ct,osl,rfl,lk,hcd⟩:=F.ex;refine JZ lk hcd S len λ A outer s H vs Q E hr hsp=> ?_;obtain ⟨t,h,q⟩:=hbody cdv A outer s H vs Q E hr hsp;exact ⟨t,h.nox,q⟩
theorem fun_mk {x qual:Str} {st:Stmt} {f:Addr} {oc:Value} {od an:Option Addr} {osl:Array (Option Value)} {kV doc pm cdv ct:Value} (l:K.lookup f=some ⟨oc,od, .func (PySem.W.fnOf x qual (Cz st) (Bf st) (Aj st) .none kV doc pm an cdv ct),osl⟩)
    (c:PySem.W.codeIn K cdv qual=true) (k:PySem.W.keepIn K (.ref f)=true):Fun K x qual st f (PySem.W.fnOf x qual (Cz st) (Bf st) (Aj st) .none kV doc pm an cdv ct):=⟨⟨oc,od,kV,doc,pm,an,cdv,ct,osl,rfl,l,c⟩,k⟩
end
section
variable {X:Cx}
theorem pv (i:Nat) {x:Str} {pos:Pos} (hN:X.N[i]?=some x:=by rfl) (hv:Vis X.env.scope x:=by first | exact Or.inl rfl | exact Or.inr (Or.inl rfl) | exact Or.inr (Or.inr rfl)) (hd:(x == ("__debug__":Str))=false:=by decide)
    (hcd:(x == ("__classdict__":Str))=false:=by decide):PE X (.Name x pos) (Ia i):=MO hN hv hd hcd
end
theorem GK {A B:Prop} (h:B):if false=true then A else B:=by
  rw [if_neg Bool.false_ne_true];exact h
theorem IU {A B:Prop} (h:A):if true=true then A else B:=by
  rw [if_pos rfl];exact h
def Same (H H':Hp):Prop:=∀ b o,H b=some o->H' b=some o
theorem Same.refl (H:Hp):Same H H:=λ _ _ h=>h
theorem Same.trans {H H1 H2:Hp} (a:Same H H1) (b:Same H1 H2):Same H H2:=λ c o h=>b c o (a c o h)
theorem Same.free {H H':Hp} (e:Same H H') {l:Addr} (h:H' l=Option.none):H l=Option.none:=by
  cases q:H l with
  | none=>rfl
  | some o=>
    rw [e l o q] at h;cases h
theorem Same.seq {K:PySem.W.Frag} {H H':Hp} {a:Addr} {xs:List V} (e:Same H H') (h:SqL K H a xs):SqL K H' a xs:=by
  rcases h with (h | ⟨o,h⟩) | h
  · exact .inl (.inl (e _ _ h))
  · exact .inl (.inr ⟨o,e _ _ h⟩)
  · exact .inr h
section
variable {κ:Type} [DecidableEq κ]
def CB (kvs:List (κ × V)) (k:κ):Option V:=(kvs.find? λ kv=>decide (kv.1=k)).map (·.2)
def BS (kvs:List (κ × V)) (k:κ) (v:V):List (κ × V):=
  if (kvs.any λ kv=>decide (kv.1=k))=true then kvs.map (λ kv=>if kv.1=k then (kv.1,v) else kv) else kvs++[(k,v)]
def LU (kvs:List (κ × V)) (k:κ):List (κ × V):=kvs.filter λ kv=>decide (kv.1≠k)
theorem Et {p:κ × V} {r:List (κ × V)} {k:κ} (e:p.1=k):CB (p::r) k=some p.2:=by simp [CB,List.find?_cons,e]
theorem Ek {p:κ × V} {r:List (κ × V)} {k:κ} (e:¬ p.1=k):CB (p::r) k=CB r k:=by simp [CB,List.find?_cons,e]
theorem FW (k:κ):∀ kvs:List (κ × V),(kvs.any λ kv=>decide (kv.1=k))=(CB kvs k).isSome
  | []=>rfl
  | p::r=>by
    rw [List.any_cons];by_cases e:p.1=k
    · simp only [Et e,decide_eq_true e,Bool.true_or,Option.isSome_some]
    · rw [Ek e,decide_eq_false e,Bool.false_or];exact FW k r
theorem B9 (kvs:List (κ × V)) (k:κ) (v:V):(BS kvs k v).length<=kvs.length+1:=by
  unfold BS;split
  · rw [List.length_map];omega
  · rw [List.length_append,List.length_cons,List.length_nil];omega
theorem RelO.isSome_eq {o:Option V} {u:Option Value} (r:RelO o u):o.isSome=u.isSome:=by
  cases o with
  | none=>cases u with
    | none=>rfl
    | some _=>exact (show False from r).elim
  | some _=>cases u with
    | none=>exact (show False from r).elim
    | some _=>rfl
theorem RelO.getD {o:Option V} {u:Option Value} {d:V} {d':Value} (r:RelO o u) (rd:RelV d d'):RelV (o.getD d) (u.getD d'):=by
  cases o with
  | none=>cases u with
    | none=>exact rd
    | some _=>exact (show False from r).elim
  | some _=>cases u with
    | none=>exact (show False from r).elim
    | some _=>exact r
theorem KV.val {kvs:List (κ × V)} {vs:List (κ × Value)} (r:KV kvs vs) (k:κ):RelO (CB kvs k) (valueAt vs k):=by
  unfold KV at r
  induction r with
  | nil=>exact True.intro
  | @cons p q ps qs h t ih=>
    obtain ⟨h1,h2⟩:=h;by_cases e:p.1=k
    · have e':q.1=k:=h1.symm.trans e;have b:valueAt (q::qs) k=some q.2:=by simp [valueAt,List.find?_cons,e']
      rw [Et e,b];exact h2
    · have e':¬ q.1=k:=λ z=>e (h1.trans z);have b:valueAt (q::qs) k=valueAt qs k:=by simp [valueAt,List.find?_cons,e']
      rw [Ek e,b];exact ih
theorem KV.any {kvs:List (κ × V)} {vs:List (κ × Value)} (r:KV kvs vs) (k:κ):(kvs.any λ kv=>decide (kv.1=k))=vs.any λ kv=>decide (kv.1=k):=by
  unfold KV at r
  induction r with
  | nil=>rfl
  | cons h t ih=>rw [List.any_cons,List.any_cons,ih,h.1]
theorem KV.repl {kvs:List (κ × V)} {vs:List (κ × Value)} (r:KV kvs vs) (k:κ) {y:V} {u:Value} (ry:RelV y u):
    KV (kvs.map λ kv=>if kv.1=k then (kv.1,y) else kv) (vs.map λ kv=>if kv.1=k then (kv.1,u) else kv):=by
  unfold KV at r ⊢
  induction r with
  | nil=>exact .nil
  | @cons p q ps qs h t ih=>
    rw [List.map_cons,List.map_cons];refine .cons ?_ ih;obtain ⟨h1,h2⟩:=h;by_cases e:p.1=k
    · rw [if_pos e,if_pos (h1.symm.trans e)];exact ⟨h1,ry⟩
    · rw [if_neg e,if_neg (λ z=>e (h1.trans z))];exact ⟨h1,h2⟩
theorem KV.put {kvs:List (κ × V)} {vs:List (κ × Value)} (r:KV kvs vs) (k:κ) {y:V} {u:Value} (ry:RelV y u):KV (BS kvs k y) (stored vs k u):=by
  unfold BS stored;rw [r.any k];by_cases e:(vs.any λ kv=>decide (kv.1=k))=true
  · rw [if_pos e,if_pos e];exact r.repl k ry
  · rw [if_neg e,if_neg e];exact Paired.snoc r ⟨rfl,ry⟩
theorem KV.drop {kvs:List (κ × V)} {vs:List (κ × Value)} (r:KV kvs vs) (k:κ):KV (LU kvs k) (without vs k):=by
  unfold KV at r ⊢;unfold LU without
  induction r with
  | nil=>exact .nil
  | @cons p q ps qs h t ih=>
    obtain ⟨h1,h2⟩:=h;rw [List.filter_cons,List.filter_cons];by_cases e:p.1=k
    · have a:¬ decide (p.1≠k)=true:=by simp [e]
      have b:¬ decide (q.1≠k)=true:=by simp [h1.symm.trans e]
      rw [if_neg a,if_neg b];exact ih
    · have e':¬ q.1=k:=λ z=>e (h1.trans z);have a:decide (p.1≠k)=true:=by simp [e]
      have b:decide (q.1≠k)=true:=by simp [e']
      rw [if_pos a,if_pos b];exact .cons ⟨h1,h2⟩ ih
theorem KV.length {kvs:List (κ × V)} {vs:List (κ × Value)} (r:KV kvs vs):kvs.length=vs.length:=Paired.length r
end
theorem Hd {P:Program} {w:World} {k:Key} {u:Value} (r:RelV (kV k) u):(AA P w).is k u=true:=by
  cases k with
  | inl i=>obtain ⟨t,e⟩:=(show ∃ t,u=Value.int i t from r);subst e;exact Gs P w i t
  | inr x=>obtain ⟨t,e⟩:=(show ∃ t,u=Value.str x t from r);subst e;exact Gv P w x t
theorem ET {P:Program} {w:World}:∀ {ks:List Key} {us:List Value},Vals (ks.map kV) us->ItemsAre (AA P w) ks us
  | [],_,r=>by rw [List.map_nil] at r;cases r;exact .nil
  | k::ks,_,r=>by
    rw [List.map_cons] at r;cases r with
    | cons h t=>exact .cons (Hd h) (ET t)
abbrev KT (H:Hp):List (List Key × V)->List (List Key × Addr × Value)->Prop:=Paired λ p q=>p.1=q.1/\H q.2.1=some (.tup (p.1.map kV))/\RelV p.2 q.2.2
theorem KT.val {H:Hp} {kvs:List (List Key × V)} {xs:List (List Key × Addr × Value)} (r:KT H kvs xs) (k:List Key):RelO (CB kvs k) ((atKey xs k).map (·.2)):=by
  induction r with
  | nil=>exact True.intro
  | @cons p q ps qs h t ih=>
    obtain ⟨h1,_,h2⟩:=h;by_cases e:p.1=k
    · have e':q.1=k:=h1.symm.trans e;have b:atKey (q::qs) k=some q.2:=by simp [atKey,List.find?_cons,e']
      rw [Et e,b];exact h2
    · have e':¬ q.1=k:=λ z=>e (h1.trans z);have b:atKey (q::qs) k=atKey qs k:=by simp [atKey,List.find?_cons,e']
      rw [Ek e,b];exact ih
theorem KT.repl {H:Hp} {kvs:List (List Key × V)} {xs:List (List Key × Addr × Value)} (r:KT H kvs xs) (k:List Key) {y:V} {u:Value} (ry:RelV y u):
    KT H (kvs.map λ kv=>if kv.1=k then (kv.1,y) else kv) (xs.map (putAt k u)):=by
  induction r with
  | nil=>exact .nil
  | @cons p q ps qs h t ih=>
    rw [List.map_cons,List.map_cons];refine .cons ?_ ih;obtain ⟨h1,h2,h3⟩:=h;unfold putAt;by_cases e:p.1=k
    · rw [if_pos e,if_pos (h1.symm.trans e)];exact ⟨h1,h2,ry⟩
    · rw [if_neg e,if_neg (λ z=>e (h1.trans z))];exact ⟨h1,h2,h3⟩
theorem KT.put {H:Hp} {kvs:List (List Key × V)} {xs:List (List Key × Addr × Value)} (r:KT H kvs xs) (k:List Key) {b:Addr} {y:V} {u:Value} (hb:H b=some (.tup (k.map kV))) (ry:RelV y u):
    KT H (BS kvs k y) (storedH xs k b u):=by
  have e:(kvs.any λ kv=>decide (kv.1=k))=(atKey xs k).isSome:=by
    rw [FW,(r.val k).isSome_eq,Option.isSome_map]
  unfold BS storedH;rw [e];by_cases q:(atKey xs k).isSome=true
  · rw [if_pos q,if_pos q];exact r.repl k ry
  · rw [if_neg q,if_neg q];exact Paired.snoc r ⟨rfl,hb,ry⟩
theorem KT.keeps {H H':Hp} {kvs:List (List Key × V)} {xs:List (List Key × Addr × Value)} (r:KT H kvs xs) (ht:∀ b ys,H b=some (.tup ys)->H' b=some (.tup ys)):KT H' kvs xs:=
  Paired.mapP r λ _ _ z=>⟨z.1,ht _ _ z.2.1,z.2.2⟩
section
variable {P:Program} {w:World} {H:Hp} {h:Heap} {a:Addr}
theorem LE {u:HO} (ok:HOk P w H h) (e:Rd H a u):ObjOk P w H h a u:=e.ok ok
theorem Kb {kvs:List (Key × V)} (ok:HOk P w H h) (e:Rd H a (.dK kvs)):kvs.length<=sizeLine/\(a == sysModules)=false/\∃ vs,KV kvs vs/\h.DictOf (AA P w) a vs:=
  show ObjOk P w H h a (.dK kvs) from LE ok e
theorem LS {kvs:List (Key × V)} (ok:HOk P w H h) (e:H a=some (.dK kvs)):kvs.length<=sizeLine/\(a == sysModules)=false/\∃ vs,KV kvs vs/\h.DictOf (AA P w) a vs:=Kb ok (.inl e)
theorem GF {ks:List Key} (ok:HOk P w H h) (e:H a=some (.tup (ks.map kV))):(tupleKind (AA P w)).is h ks a:=by
  obtain ⟨_,its,r,o,h1,h2,n,h3⟩:=(show ObjOk P w H h a (.tup (ks.map kV)) from ok a _ e);exact ⟨o,its.toArray,n,h1,h2,h3,by simpa using ET r⟩
theorem JP {kvs:List (List Key × V)} (ok:HOk P w H h) (e:Rd H a (.dT kvs)):kvs.length<=sizeLine/\(a == sysModules)=false/\
    ∃ xs,KT H kvs xs/\h.DictOfH (tupleKind (AA P w)) a xs:=by
  obtain ⟨z,y,xs,r,o,es,ep,h1,h2,h3,h4,h5⟩:=(show ObjOk P w H h a (.dT kvs) from LE ok e);refine ⟨z,y,xs,r,o,es,ep,h1,h2,h3,h4,λ x hx=> ?_,h5⟩;have all:∀ {l:List (List Key × V)} {m:List (List Key × Addr × Value)},KT H l m->∀ x∈m,(tupleKind (AA P w)).is h x.1 x.2.1:=by
    intro l m q
    induction q with
    | nil=>intro x hx;exact nomatch hx
    | @cons p q ps qs hq t ih=>
      intro x hx;rcases List.mem_cons.mp hx with e | hx
      · subst e;exact GF ok (by rw [<-hq.1];exact hq.2.1)
      · exact ih x hx
  exact all r x hx
theorem NY {kvs:List (List Key × V)} (ok:HOk P w H h) (e:H a=some (.dT kvs)):kvs.length<=sizeLine/\(a == sysModules)=false/\
    ∃ xs,KT H kvs xs/\h.DictOfH (tupleKind (AA P w)) a xs:=JP ok (.inl e)
end
def DGet (H:Hp) (a:Addr) (y:V) (r:Option V):Prop:=
  (∃ kvs k,Rd H a (.dK kvs)/\y=kV k/\r=CB kvs k)\/∃ kvs k b,Rd H a (.dT kvs)/\y= .ref b/\H b=some (.tup (k.map kV))/\r=CB kvs k
def DPut (H:Hp) (a:Addr) (y v:V) (H':Hp):Prop:=
  (∃ kvs k,H a=some (.dK kvs)/\y=kV k/\kvs.length<sizeLine/\H'=upd H a (.dK (BS kvs k v)))\/
  ∃ kvs k b,H a=some (.dT kvs)/\y= .ref b/\H b=some (.tup (k.map kV))/\kvs.length<sizeLine/\H'=upd H a (.dT (BS kvs k v))
theorem DGet.k {H:Hp} {a:Addr} {kvs:List (Key × V)} {k:Key} (e:H a=some (.dK kvs)):DGet H a (kV k) (CB kvs k):= .inl ⟨kvs,k, .inl e,rfl,rfl⟩
theorem DPut.k {H:Hp} {a:Addr} {kvs:List (Key × V)} {k:Key} {v:V} (e:H a=some (.dK kvs)) (hl:kvs.length<sizeLine):DPut H a (kV k) v (upd H a (.dK (BS kvs k v))):= .inl ⟨kvs,k,e,rfl,hl,rfl⟩
section
variable {X:Cx} {pins:List (Addr × Obj)} {σ:St} {H:Hp} {s:Shared} {a:Addr} {y v:V} {u r:Value} {o:Option V} {A:Around} {E:Value->Shared->Prop}
theorem Inv.big (I:Inv X pins σ H s):sysModules<s.heap.objs.size:=by
  have h:mainGlobals<s.heap.objs.size:=(I.mod.glob.keeps I.bk).lt;exact Nat.lt_trans (by decide) h
theorem Hv {Q:Value->Shared->Prop} (hu:A.units+1<cLine) (I:Inv X pins σ H s) (g:DGet H a y (some v)) (ry:RelV y u) (h:∀ w' s',Inv X pins σ H s'->RelV v w'->Q w' s'):
    wpAny (model X.prog X.w) A (getItem (.ref a) u) Q E s:=by
  rcases g with ⟨kvs,k,e,ey,l⟩ | ⟨kvs,k,b,e,ey,eb,l⟩
  · subst ey;obtain ⟨z,hd,vs,rel,dd⟩:=Kb I.hok e;obtain ⟨w',hw,rw'⟩:=RelO.some_of (v:=v) (o:=valueAt vs k) (by rw [l];exact rel.val k);exact wpAny_getItem_of (Hd ry) dd.mapOf hw (h w' _ (I.tok _) rw')
  · subst ey;cases (show u=Value.ref b from ry);obtain ⟨z,hd,xs,rel,dd⟩:=JP I.hok e;obtain ⟨w',hw,rw'⟩:=RelO.some_of (v:=v) (o:=(atKey xs k).map (·.2)) (by rw [l];exact rel.val k);obtain ⟨p,hp,hp2⟩:=Option.map_eq_some_iff.mp hw;refine wpAny_getItem_heap (tupleKind_room_in1 hu) (GF I.hok eb) dd hp ?_;rw [hp2];exact h w' _ (I.tok _) rw'
theorem FL {h':Heap} {t':Nat} {ob:HO} (I:Inv X pins σ H s) (mu:Mut (H a)) (hs:Heap.SameBut a s.heap h') (he:∃ q,h'.get? a=some q) (new:ObjOk X.prog X.w (upd H a ob) h' a ob):
    Inv X pins σ (upd H a ob) { s with heap:=h',toks:=t' }:=
  I.write (x:=a) (e:=a) mu (.inl rfl) (λ b q hb z=>(hs.2 b hb).trans z) he new
theorem Jv {P:Program} {w:World} {H':Hp} {h':Heap} {kvs:List (Key × V)} {vs:List (Key × Value)} (z:kvs.length<=sizeLine) (hd:(a == sysModules)=false) (rel:KV kvs vs) (dd:h'.DictOf (AA P w) a vs):
    ObjOk P w H' h' a (.dK kvs):=⟨z,hd,vs,rel,dd⟩
theorem Ht {H':Hp} {Q:Unit->Shared->Prop} (hu:A.units+1<cLine) (I:Inv X pins σ H s) (g:DPut H a y v H') (ry:RelV y u) (rv:RelV v r) (h:∀ s',Inv X pins σ H' s'->Q () s'):
    wpAny (model X.prog X.w) A (setItem (.ref a) u r) Q E s:=by
  rcases g with ⟨kvs,k,e,ey,l,eH⟩ | ⟨kvs,k,b,e,ey,eb,l,eH⟩
  · subst ey eH;obtain ⟨z,hd,vs,rel,dd⟩:=LS I.hok e;have hz:vs.length<=sizeLine:=by rw [<-rel.length];exact z
    have hl:(BS kvs k v).length<=sizeLine:=by have:=B9 kvs k v;omega
    refine wpAny_setItem_pairs (hsz:=hz) (Hd ry) dd λ h' dd' hs=>h _ ?_;have he:∃ q,h'.get? a=some q:=let ⟨q,_,_,hq,_⟩:=dd';⟨q,hq⟩;exact FL I (by rw [e];exact True.intro) hs he (Jv hl hd (rel.put k rv) dd')
  · subst ey eH;cases (show u=Value.ref b from ry);obtain ⟨z,hd,xs,rel,dd⟩:=NY I.hok e;have hz:xs.length<=sizeLine:=by rw [<-Paired.length rel];exact z
    have hl:(BS kvs k v).length<=sizeLine:=by have:=B9 kvs k v;omega
    refine wpAny_setItem_heap (hsz:=hz) (tupleKind_room_in1 hu) (GF I.hok eb) dd λ h' dd' hs=>h _ ?_;obtain ⟨q,es,ep,hq,h2,h3,h4,_,h5⟩:=dd';refine FL I (by rw [e];exact True.intro) hs ⟨q,hq⟩ ⟨hl,hd,_,(rel.put k eb rv).keeps λ c ys ec=> ?_,q,es,ep,hq,h2,h3,h4,h5⟩;rw [Ai (J9 ec e (λ z=>nomatch z))];exact ec
end
section
variable {X:Cx} {pins:List (Addr × Obj)} {σ:St} {H:Hp} {s:Shared} {a:Addr} {kvs:List (Key × V)} {k:Key} {u:Value} {A:Around} {E:Value->Shared->Prop}
end
def Pk (i:Expr):Prop:=∀ ov iv,subscripted i false ov iv=operate [ov,iv] (getItem ov iv)
theorem KC {prog:Program} {w:World} {A:Around} {E:Value->Shared->Prop} {s:Shared} {env:Env} {value slice:Expr} {pos:Pos} {T id:String} {Q:Value->Shared->Prop}
    (hl:typeLookup (.type T) "__getitem__"=pure (some (.builtin id))) (hs:Pk slice)
    (h:wpAny (model prog w) A (eval value env) (λ o s₁=>wpAny (model prog w) A (eval slice env) (λ i s₂=>s₂.TypeIs o T/\wpAny (model prog w) A (getItem o i) Q E s₂) E s₁) E s):
    wpAny (model prog w) A (eval (.Subscript value slice pos) env) Q E s:=by
  refine Subscript_ (wpAny_mono h (λ o s₁ h₁=>wpAny_mono h₁ (λ i s₂ h₂=> ?_) λ _ _ x=>x) λ _ _ x=>x);obtain ⟨hT,h₂⟩:=h₂;unfold subscriptTail;refine wpAny_bind ?_;rw [getitemInPython_of_ne hT.not_modules];refine wpAny_bind (wpAny_specialOf hT hl ?_);have fin:wpAny (model prog w) A (subscripted slice false o i) (λ r s₃=>wpAny (model prog w) A (letTemporaryGo value o r >>= λ _=>pure r) Q E s₃) E s₂:=by
    rw [hs o i];exact wpAny_operating (wpAny_mono h₂ (λ r s₃ h₃=>wpAny_bind (wpAny_letTemporaryGo (wpAny_pure h₃))) λ _ _ x=>x)
  first
    | exact wpAny_pure (wpAny_bind fin)
    | exact wpAny_bind (wpAny_pure (wpAny_bind fin))
    | exact wpAny_bind fin
theorem FZ {X:Cx} {pins:List (Addr × Obj)} {σ:St} {H:Hp} {s:Shared} {a:Addr} {y:V} {o:Option V} (I:Inv X pins σ H s) (g:DGet H a y o):s.TypeIs (.ref a) "dict":=by
  rcases g with ⟨kvs,k,e,_,_⟩ | ⟨kvs,k,b,e,_,_,_⟩
  · obtain ⟨_,_,vs,_,dd⟩:=Kb I.hok e;exact dd.typeIs
  · obtain ⟨_,_,xs,_,dd⟩:=JP I.hok e;exact dd.typeIs
def LI (td ty:TE):TE:=λ σ H Q=>td σ H λ x H1=>ty σ H1 λ y H2=>∃ a v,x= .ref a/\DGet H2 a y (some v)/\Q v H2
def LG (td ty tv:TE):TS:=λ D σ H=>tv σ H λ v H1=>td σ H1 λ x H2=>ty σ H2 λ y H3=>∃ a H4,x= .ref a/\DPut H3 a y v H4/\D.nx σ H4
section
variable {X:Cx} {o i e value:Expr} {pos pos' tpos:Pos} {td ty tv:TE}
theorem Aw (hu:X.A.units+1<cLine) (ho:PE X o td) (hi:PE X i ty) (hs:Pk i):PE X (.Subscript o i pos) (LI td ty):=by
  intro pins s σ H Q I h;refine KC PySem.F.slot_dict_getitem.lookup hs (thn (ho pins s σ H _ I h) λ u s1 ⟨x,H1,I1,rx,q1⟩=>thn (hi pins s1 σ H1 _ I1 q1) λ iv s2 ⟨y,H2,I2,ry,a,v,ex,g,q2⟩=> ?_);subst ex;obtain rfl:u=Value.ref a:=rx;exact ⟨FZ I2 g,Hv hu I2 g ry λ w' s3 I3 rw'=>⟨v,H2,I3,rw',q2⟩⟩
theorem Bi (hu:X.A.units+1<cLine) (ho:PE X o td) (hi:PE X i ty) (hv:PE X value tv) (hs:swapsWith value (some (.Subscript o i pos')) pos.line X.env=pure false):
    PS X (.Assign [.Subscript o i pos'] value pos) (LG td ty tv):=by
  intro pins s σ H D I h;refine wpAny_Assign_Subscript (thn (hv pins s σ H _ I h) λ r s1 ⟨v,H1,I1,rv,q1⟩=>thn (ho pins s1 σ H1 _ I1 q1) λ u s2 ⟨x,H2,I2,rx,q2⟩=>thn (hi pins s2 σ H2 _ I2 q2) λ iv s3 ⟨y,H3,I3,ry,a,H4,ex,g,q3⟩=> ?_) hs;subst ex;obtain rfl:u=Value.ref a:=rx;exact Ht hu I3 g ry rv λ s4 I4=>⟨σ,H4,I4,q3⟩
end
theorem JN {P:Program} {w:World} {H:Hp} (h:Heap) (hb:sysModules<h.objs.size):ObjOk P w H (h.push { cls:= .type "dict",data:= .dict #[] }) h.objs.size (.dK []):=
  ⟨Nat.zero_le _,beq_eq_false_iff_ne.mpr (Ne.symm (Nat.ne_of_lt hb)),[], .nil,Heap.DictOf.new h⟩
section
variable {X:Cx} {pos:Pos}
end
def CQ:List (TE × TE)->St->Hp->(List (V × V)->Hp->Prop)->Prop
  | [],_,H,Q=>Q [] H
  | (tk,tv)::r,σ,H,Q=>tk σ H λ x H1=>tv σ H1 λ y H2=>CQ r σ H2 λ ps H3=>Q ((x,y)::ps) H3
abbrev VV:List (V × V)->List (Value × Value)->Prop:=Paired λ p q=>RelV p.1 q.1/\RelV p.2 q.2
def PPs (X:Cx) (pos:Pos) (keys:List (Option Expr)) (values:List Expr) (trs:List (TE × TE)):Prop:=
  ∀ (pins:List (Addr × Obj)) (s:Shared) (σ:St) (H:Hp) (Q:List (V × V)->Hp->Prop),Inv X pins σ H s->CQ trs σ H Q->
    wpAny (model X.prog X.w) X.A (evalPairs (pairTrees keys values X.env pos)) (λ vs s'=>∃ ps H',Inv X pins σ H' s'/\VV ps vs/\Q ps H') X.xe s
theorem Ke {X:Cx} {pos:Pos}:PPs X pos [] [] []:=λ pins s σ H Q I h=>pairTrees_nil_walk ⟨[],H,I, .nil,h⟩
theorem C9 {X:Cx} {pos:Pos} {k v:Expr} {ks:List (Option Expr)} {vs:List Expr} {tk tv:TE} {trs:List (TE × TE)} (hk:PE X k tk) (hv:PE X v tv) (hr:PPs X pos ks vs trs):
    PPs X pos (some k::ks) (v::vs) ((tk,tv)::trs):=λ pins s σ H Q I h=>
  pairTrees_cons_walk (thn (hk pins s σ H _ I h) λ u s1 ⟨x,H1,I1,rx,q1⟩=>thn (hv pins s1 σ H1 _ I1 q1) λ w2 s2 ⟨y,H2,I2,ry,q2⟩=>
    thn (hr pins s2 σ H2 _ I2 q2) λ ws s3 ⟨ps,H3,I3,rel,q3⟩=>⟨(x,y)::ps,H3,I3, .cons ⟨rx,ry⟩ rel,q3⟩)
def Du (kvs more:List (Key × V)):List (Key × V):=more.foldl (λ acc kv=>BS acc kv.1 kv.2) kvs
theorem KV.merge:∀ {more:List (Key × V)} {rs:List (Key × Value)} {kvs:List (Key × V)} {vs:List (Key × Value)},KV more rs->KV kvs vs->KV (Du kvs more) (merged vs rs):=by
  intro more rs kvs vs r;unfold KV at r
  induction r generalizing kvs vs with
  | nil=>intro q;exact q
  | @cons p q ps qs h t ih=>
    intro r0;have e:KV (BS kvs p.1 p.2) (stored vs q.1 q.2):=by
      have:=r0.put p.1 h.2;rw [<-h.1];exact this
    exact ih e
theorem CF:∀ (more kvs:List (Key × V)),(Du kvs more).length<=kvs.length+more.length
  | [],kvs=>by show kvs.length<=kvs.length+0;omega
  | p::r,kvs=>by
    have h1:=CF r (BS kvs p.1 p.2);have h2:=B9 kvs p.1 p.2;show (Du (BS kvs p.1 p.2) r).length<=_;rw [List.length_cons];omega
theorem Ee {P:Program} {w:World}:∀ {kvs:List (Key × V)} {ws:List (Value × Value)},VV (kvs.map λ kv=>(kV kv.1,kv.2)) ws->∃ rs,Carries (AA P w) ws rs/\KV kvs rs
  | [],_,r=>by rw [List.map_nil] at r;cases r;exact ⟨[],True.intro, .nil⟩
  | p::kvs,_,r=>by
    rw [List.map_cons] at r;cases r with
    | @cons a b as bs h t=>
      obtain ⟨rs,c,q⟩:=Ee (P:=P) (w:=w) t;obtain ⟨b1,b2⟩:=b;exact ⟨(p.1,b2)::rs,⟨Hd h.1,rfl,c⟩, .cons ⟨rfl,h.2⟩ q⟩
def LK (trs:List (TE × TE)):TE:=λ σ H Q=>∀ p,H p=none->CQ trs σ (upd H p (.dK [])) λ ps H2=>H2 p=some (.dK [])/\∃ kvs:List (Key × V),ps=kvs.map (λ kv=>(kV kv.1,kv.2))/\kvs.length<=15/\Q (.ref p) (upd H2 p (.dK (Du [] kvs)))
theorem K1 {X:Cx} {pos:Pos} {keys:List (Option Expr)} {values:List Expr} {trs:List (TE × TE)} (h:PPs X pos keys values trs) (hall:keys.all (·.isSome)=true) (hl:keys.length=values.length) (h0:keys≠[])
    (h15:keys.length<=15):PE X (.Dict keys values pos) (LK trs):=by
  intro pins s σ H Q I q;have hn:=I.hok.fresh (Nat.le_refl s.heap.objs.size);have I1:=I.laid (a:=s.heap.objs.size) (o:= .dK []) (h':=s.heap.push { cls:= .type "dict",data:= .dict #[] }) (t':=s.toks) (λ _ _ q=>Heap.get?_push_of_some _ q) (Nat.le_refl _) (JN s.heap I.big);refine wpAny_Dict_walk (knd:=AA X.prog X.w) hall hl h0 h15 (thn (h pins _ σ _ _ I1 (q _ hn)) λ ws s2 ⟨ps,H2,I2,rel,e,kvs,ep,lk,q2⟩=> ?_);subst ep;obtain ⟨rs,c,rk⟩:=Ee (P:=X.prog) (w:=X.w) rel;obtain ⟨z,hd,vs0,r0,dd⟩:=LS I2.hok e;cases r0;refine ⟨rs,c,dd,λ h' dd' hs=>⟨.ref s.heap.objs.size,_,?_,rfl,q2⟩⟩;have hz:(Du [] kvs).length<=sizeLine:=by
    have h1:=CF kvs [];rw [List.length_nil] at h1;rw [sizeLine_eq];omega
  have he:∃ q,h'.get? s.heap.objs.size=some q:=let ⟨q,_,_,hq,_⟩:=dd';⟨q,hq⟩;exact FL I2 (by rw [e];exact True.intro) hs he (Jv hz hd (rk.merge .nil) dd')
structure M1 (X:Cx) (o:Expr) (m:Str) (apos:Pos) (e:Expr) (cpos:Pos):Prop where
  base:attributeBase o m X.env (eval o X.env)=eval o X.env
  few:((backTo cpos (starEach [e] X.env)).all (λ x=> !x.1)&&(backToKw cpos (keywordEach [] X.env)).all (λ x=>x.1.isSome)
    && decide (([e]:List Expr).length+([]:List Keyword).length+(if ([]:List Keyword).isEmpty then 0 else 1)<30))=true
  line:(apos.endLine == cpos.line)=true
  trees:backTo cpos (starEach [e] X.env)=[(false,eval e X.env)]
structure M2 (X:Cx) (o:Expr) (m:Str) (apos:Pos) (e f:Expr) (cpos:Pos):Prop where
  base:attributeBase o m X.env (eval o X.env)=eval o X.env
  few:((backTo cpos (starEach [e,f] X.env)).all (λ x=> !x.1)&&(backToKw cpos (keywordEach [] X.env)).all (λ x=>x.1.isSome)
    && decide (([e,f]:List Expr).length+([]:List Keyword).length+(if ([]:List Keyword).isEmpty then 0 else 1)<30))=true
  line:(apos.endLine == cpos.line)=true
  trees:backTo cpos (starEach [e,f] X.env)=[(false,eval e X.env),(false,eval f X.env)]
section
variable {X:Cx} {pins:List (Addr × Obj)} {σ:St} {H:Hp} {s:Shared} {a:Addr} {y d:V} {u r:Value} {o:Option V} {A:Around} {E:Value->Shared->Prop}
end
section
variable {X:Cx} {o e f:Expr} {apos cpos:Pos} {td ty tx:TE}
end
section
variable {X:Cx} {pins:List (Addr × Obj)} {σ:St} {H:Hp} {s:Shared} {a:Addr} {kvs:List (Key × V)} {A:Around} {E:Value->Shared->Prop}
end
section
variable {X:Cx} {pins:List (Addr × Obj)} {σ:St} {H:Hp} {s:Shared} {a:Addr} {y:V} {u:Value} {A:Around} {E:Value->Shared->Prop}
end
section
variable {P:Program} {w:World} {K:PySem.W.Frag} {mg:Str->Option Value} {base:Heap}
end
section
variable {X:Cx}
end
section
variable {κ:Type} [DecidableEq κ]
end
def Ar (cells:List (Str × Addr)):List (Str × NameKind)->List (Str × Addr)->List (Str × Addr)
  | [],acc=>acc
  | (n,k)::r,acc=>Ar cells r (if k= .free then (match cells.lookup n with | some a=>(n,a)::acc | none=>acc) else acc)
theorem CH {env:Env}:∀ (names:List (Str × NameKind)) (acc:List (Str × Addr)),(∀ y∈names,y.2= .free->∃ c,env.cells.lookup y.1=some c)->
    (forIn names acc λ (x:Str × NameKind) (r:List (Str × Addr))=>
      (if (x.2 == NameKind.free)=true then (do let a <-cellOf env x.1;pure (ForInStep.yield ((x.1,a)::r))) else pure (ForInStep.yield r):Sem (ForInStep (List (Str × Addr)))))=(pure (Ar env.cells names acc):Sem (List (Str × Addr)))
  | [],acc,_=>rfl
  | (n,k)::rest,acc,h=>by
    rw [List.forIn_cons];have ih:=λ acc'=>CH (env:=env) rest acc' λ y hy=>h y (List.mem_cons_of_mem _ hy);by_cases hk:k= .free
    · subst hk;obtain ⟨c,hc⟩:=h (n, .free) List.mem_cons_self rfl;have hc:env.cells.lookup n=some c:=hc;have e:cellOf env n=pure c:=by unfold cellOf;rw [hc]
      simp only [beq_self_eq_true,if_true,e,pure_bind,Ar,hc];exact ih _
    · have hb:(k == NameKind.free)=false:=by simpa using hk
      simp only [hb,Bool.false_eq_true,if_false,pure_bind,Ar,if_neg hk];exact ih _
theorem A1 {env:Env} {scope:Scope} (h:∀ y∈scope.names,y.2= .free->∃ c,env.cells.lookup y.1=some c):closureFor scope env=pure (Ar env.cells scope.names []):=by
  have e:=CH (env:=env) scope.names [] h;unfold closureFor;simp only [bind_pure_comp,bind_pure,map_pure] at*;exact e
theorem BY {cells:List (Str × Addr)}:∀ (names:List (Str × NameKind)) (acc:List (Str × Addr)),(∀ x c,acc.lookup x=some c->cells.lookup x=some c)->∀ x c,(Ar cells names acc).lookup x=some c->cells.lookup x=some c
  | [],acc,h,x,c,e=>h x c e
  | (n,k)::r,acc,h,x,c,e=>by
    refine BY r _ ?_ x c e;intro y d q;split at q
    · split at q
      · rename_i a ha
        rw [List.lookup_cons] at q;split at q
        · rename_i hy
          cases q;rw [eq_of_beq hy];exact ha
        · exact h y d q
      · exact h y d q
    · exact h y d q
theorem A0 {cells:List (Str × Addr)}:∀ (names:List (Str × NameKind)) (acc:List (Str × Addr)) (x:Str),(((x,NameKind.free)∈names/\∃ c,cells.lookup x=some c)\/∃ c,acc.lookup x=some c)->∃ c,(Ar cells names acc).lookup x=some c
  | [],acc,x,h=>by
    rcases h with ⟨h,_⟩ | h
    · cases h
    · exact h
  | (n,k)::r,acc,x,h=>by
    refine A0 r _ x ?_;have up:(∃ c,acc.lookup x=some c)->∃ c,(if k= .free then (match cells.lookup n with | some a=>(n,a)::acc | none=>acc) else acc).lookup x=some c:=by
      rintro ⟨c,hc⟩;split
      · split
        · rename_i a ha
          rw [List.lookup_cons];split
          · exact ⟨_,rfl⟩
          · exact ⟨c,hc⟩
        · exact ⟨c,hc⟩
      · exact ⟨c,hc⟩
    rcases h with ⟨h,c,hc⟩ | h
    · rcases List.mem_cons.mp h with e | e
      · cases e;right;refine ⟨c,?_⟩;rw [if_pos rfl,hc,List.lookup_cons,beq_self_eq_true]
      · exact .inl ⟨e,c,hc⟩
    · exact .inr (up h)
theorem Ex (env:Env) (x:Str):∀ names:List (Str × NameKind),
    (names.map λ (n,k)=>if (k == NameKind.free&&env.scope.kind == .function&&env.kindOf n == some .cell) then (n,NameKind.cell) else (n,k)).lookup x=
      (names.lookup x).map λ k=>if (k == NameKind.free&&env.scope.kind == .function&&env.kindOf x == some .cell)=true then NameKind.cell else k
  | []=>rfl
  | (n,k)::r=>by
    have ih:=Ex env x r;show List.lookup x ((if (k == NameKind.free&&env.scope.kind == .function&&env.kindOf n == some .cell)=true then (n,NameKind.cell) else (n,k))::_)=_;cases hx:x == n with
    | true=>
      have e:x=n:=eq_of_beq hx;subst e;by_cases hc:(k == NameKind.free&&env.scope.kind == .function&&env.kindOf x == some .cell)=true
      · rw [if_pos hc,List.lookup_cons,List.lookup_cons,beq_self_eq_true];simp only [Option.map_some,if_pos hc]
      · rw [if_neg hc,List.lookup_cons,List.lookup_cons,beq_self_eq_true];simp only [Option.map_some,if_neg hc]
    | false=>
      have e:(List.lookup x ((n,k)::r))=List.lookup x r:=by rw [List.lookup_cons,hx]
      rw [e, <-ih];split <;> rw [List.lookup_cons,hx]
structure BlkScope (X:Cx) (scope:Scope) (own:List Str) (fr:List (Str × Nat)):Prop where
  kind:scope.kind= .function
  nocell:∀ y∈scope.names,y.2≠ .cell
  loc:∀ y∈scope.names,y.2= .local->scope.names.lookup y.1=some .local
  free:∀ y∈scope.names,y.2= .free->(X.env.scope.names.lookup y.1=some .cell\/X.env.scope.names.lookup y.1=some .free)
  fr:∀ p∈fr,X.N[p.2]?=some p.1/\(p.1,NameKind.free)∈scope.names
  only:∀ x,(x,NameKind.free)∈scope.names->scope.names.lookup x=some .free
def AD (X:Cx) (scope:Scope) (own:List Str) (fr:List (Str × Nat)) (C:Addr) (ex:List Addr) (s:Shared) (H:Hp):Cx where
  prog:=X.prog
  w:=X.w
  K:=X.K
  mg:=X.mg
  base:=X.base
  A:=X.A
  N:=own++fr.map (·.1)
  s₀:=s
  H₀:=H
  env:=compEnvC scope (Ar X.env.cells scope.names []) C X.env
  outer:=X.stack
  stack:=X.stack
  ex:=ex
  fn:=λ _=>false
  calm:=X.calm
  pn:=[]
  xe:=λ _ _=>False
def De (own:List Str) (fr:List (Str × Nat)) (σ:St):St:=own.map (λ _=>none)++fr.map (λ p=>(σ[p.2]?).getD none)
section
variable {X:Cx} {pins:List (Addr × Obj)} {σ:St} {H:Hp} {s:Shared} {scope:Scope} {own:List Str} {fr:List (Str × Nat)} {fp:List Addr}
theorem BlkScope.cells (S:BlkScope X scope own fr) (ok:X.Ok):∀ y∈scope.names,y.2= .free->∃ c,X.env.cells.lookup y.1=some c:=λ y hy e=>ok.has y.1 (S.free y hy e)
theorem Inv.block {h':Heap} {t':Nat} {m:Str->Option Value} (I:Inv X pins σ H s) (S:BlkScope X scope own fr) (hf:∀ b∈fp,CO X pins H b) (hlt:∀ b∈fp,b<s.heap.objs.size)
    (hns:h'.Ns s.heap.objs.size m) (k:∀ b o,s.heap.get? b=some o->h'.get? b=some o):
    Inv (AD X scope own fr s.heap.objs.size fp s H) [] (De own fr σ) H { s with heap:=h',toks:=t' }:=by
  have cs:∀ x c,(Ar X.env.cells scope.names []).lookup x=some c->X.env.cells.lookup x=some c:=BY _ _ (λ _ _ e=>by simp at e);have ck:∀ c v,s.heap.IsCell c v->h'.IsCell c v:=λ c v ⟨o,ho,hd⟩=>⟨o,k _ _ ho,hd⟩;have kf:∀ x,(x,NameKind.free)∈scope.names->∃ c,X.env.cells.lookup x=some c/\(Ar X.env.cells scope.names []).lookup x=some c:=λ x hx=>by
    obtain ⟨c0,e0⟩:=S.cells I.ok (x, .free) hx rfl;obtain ⟨c,e⟩:=A0 (cells:=X.env.cells) scope.names [] x (.inl ⟨hx,c0,e0⟩);exact ⟨c,cs _ _ e,e⟩
  have rel:∀ x,(compEnvC scope (Ar X.env.cells scope.names []) s.heap.objs.size X.env).kindOf x=(scope.names.lookup x).map λ k=>if (k == NameKind.free&&X.env.scope.kind == .function&&X.env.kindOf x == some .cell)=true then NameKind.cell else k:=λ x=>Ex X.env x scope.names
  have nc:∀ x,scope.names.lookup x≠some .cell:=λ x e=>S.nocell _ (PySem.mem_of_lookup e) rfl;refine ⟨⟨I.ok.mod,S.kind,I.ok.glob,I.ok.blt,Nat.le_refl _,λ x y c e1 e2=>I.ok.inj x y c (cs _ _ e1) (cs _ _ e2),λ x hx=> ?_,λ x c e _=>(nomatch e),I.ok.hd,I.ok.frames, .inl rfl,
    λ b hb=>⟨Nat.ne_of_lt (hlt b hb),λ x c e=>(hf b hb).2.2.2.2.1 x c (cs _ _ e)⟩,I.bs,Nat.le_trans I.ok.bsz I.sz,λ b o e hb=> ?_,λ b hb z=>(List.mem_cons.mp (I.stkSub b z)).elim (hf b hb).2.1 (hf b hb).2.2.1,I.stack,I.stkFree⟩,
    rfl,I.bare,Un.kept k,⟨m,hns,λ i x v e1 e2 e3=> ?_⟩,λ x c e=> ?_,I.hok.fresh (Nat.le_refl _),λ x c e=>I.freeC x c (cs _ _ e),λ p hp=>absurd (show p∈([]:List (Addr × Obj)) from hp) (by simp),I.hok.kept k,?_⟩
  · have hx:(compEnvC scope (Ar X.env.cells scope.names []) s.heap.objs.size X.env).kindOf x=some .cell\/(compEnvC scope (Ar X.env.cells scope.names []) s.heap.objs.size X.env).kindOf x=some .free:=hx;rw [rel x] at hx;have q:scope.names.lookup x=some .free:=by
      cases e:scope.names.lookup x with
      | none=>rw [e] at hx;simp at hx
      | some kk=>
        rw [e] at hx;simp only [Option.map_some,Option.some.injEq] at hx;by_cases hk:kk= .free
        · rw [hk]
        · have hb:(kk == NameKind.free)=false:=by simpa using hk
          simp only [hb,Bool.false_and,Bool.false_eq_true,if_false] at hx;rcases hx with hx | hx
          · rw [hx] at e;exact absurd e (nc x)
          · exact absurd hx hk
    obtain ⟨c,_,e⟩:=kf x (PySem.mem_of_lookup q);exact ⟨c,e⟩
  · rcases (hf b hb).2.2.2.1 with z | z
    · exact I.ok.noex b o e z
    · exact absurd (Nat.lt_of_lt_of_le (Heap.lt_size (I.ok.bs b o e).1) z) (Nat.lt_irrefl _)
  · have e1:(own++fr.map (·.1))[i]?=some x:=e1;have e2:(De own fr σ)[i]?=some (some v):=e2;unfold De at e2;by_cases hi:i<own.length
    · rw [List.getElem?_append_left (by simpa using hi),List.getElem?_map] at e2;rw [List.getElem?_eq_getElem hi] at e2;simp at e2
    · rw [List.getElem?_append_right (by simpa using hi),List.getElem?_map,List.length_map] at e2;rw [List.getElem?_append_right (by omega),List.getElem?_map] at e1;cases ep:fr[i - own.length]? with
      | none=>rw [ep] at e1;simp at e1
      | some p=>
        rw [ep] at e1 e2;simp only [Option.map_some,Option.some.injEq] at e1 e2;subst e1;obtain ⟨h1,h2⟩:=S.fr p (List.mem_of_getElem? ep);have e4:σ[p.2]?=some (some v):=by
          cases q:σ[p.2]? with
          | none=>rw [q] at e2;simp at e2
          | some z=>rw [q] at e2;simp at e2;rw [e2]
        have kx:=S.free _ h2 rfl;obtain ⟨m0,hn0,hl0⟩:=I.loc;obtain ⟨u,r,l⟩:=hl0 p.2 p.1 v h1 e4 (kx.elim (λ z=> .inr (.inl z)) λ z=> .inr (.inr z));refine ⟨u,r,?_⟩;rcases l with ⟨z,_⟩ | ⟨_,c,hc,hcell⟩
        · have z:X.env.scope.names.lookup p.1=some .local:=z;rcases kx with y | y <;> (rw [y] at z;cases z)
        · obtain ⟨c',q1,q2⟩:=kf p.1 h2;rw [hc] at q1;cases q1;refine .inr ⟨?_,c,q2,ck _ _ hcell⟩;show (compEnvC scope (Ar X.env.cells scope.names []) s.heap.objs.size X.env).kindOf p.1=some .cell\/(compEnvC scope (Ar X.env.cells scope.names []) s.heap.objs.size X.env).kindOf p.1=some .free;have e3:(compEnvC scope (Ar X.env.cells scope.names []) s.heap.objs.size X.env).kindOf p.1=some .local\/(compEnvC scope (Ar X.env.cells scope.names []) s.heap.objs.size X.env).kindOf p.1=some .cell\/(compEnvC scope (Ar X.env.cells scope.names []) s.heap.objs.size X.env).kindOf p.1=some .free:=e3;rcases e3 with e3 | e3
          · exfalso;rw [rel] at e3;cases e:scope.names.lookup p.1 with
            | none=>rw [e] at e3;cases e3
            | some kk=>
              rw [e] at e3;simp only [Option.map_some,Option.some.injEq] at e3;by_cases hk:kk= .free
              · subst hk;split at e3 <;> cases e3
              · have hb:(kk == NameKind.free)=false:=by simpa using hk
                simp only [hb,Bool.false_and,Bool.false_eq_true,if_false] at e3;subst e3;have:=S.only p.1 h2;rw [this] at e;cases e
          · exact e3
  · obtain ⟨v,z⟩:=I.cell x c (cs _ _ e);exact ⟨v,ck _ _ z⟩
  · unfold De;show _=(own++fr.map (·.1)).length;simp
end
theorem F9 {prog:Program} {w:World} {A:Around} {R:Result->Shared->Prop} {s:Shared} {elt target iter:Expr} {ifs:List Expr} {scope:Scope} {pos:Pos} {it acc:Value} {env:Env} (I:Nat->Shared->Prop)
    (turn:∀ n s,I n s->wpAny (model prog w) A (pyNext it) (λ r s₁=>match r with
      | none=>R (.ok .next) s₁
      | some v=>wpAny (model prog w) A (letOwnedTupleGo target it v) (λ _ s₁'=>wpAny (model prog w) A (assign target env v) (λ _ s₂=>
          wpAny (model prog w) A (forIn ifs true λ c r=>if r=true then do let ok <-isTrue c env (eval c env);pure (ForInStep.yield ok) else pure (ForInStep.yield r)) (λ ok s₃=>
            if ok=true then wpAny (model prog w) A (eval elt env) (λ x s₄=>
              wpAny (model prog w) A (call (.builtin "list.append") [acc,x]) (λ _ s₅=>∃ m,m<n/\I m s₅) (λ _ _=>False) s₄) (λ _ _=>False) s₃
            else ∃ m,m<n/\I m s₃) (λ _ _=>False) s₂) (λ _ _=>False) s₁') (λ _ _=>False) s₁) (λ _ _=>False) s)
    (n:Nat) (h:I n s):codeAny (model prog w) A (.compLoop (.ListComp elt [⟨target,iter,ifs,0⟩] scope pos) 0 it acc env) R s:=by
  refine codeAny_loop rfl I (λ n s hI=> ?_) n h;show wpAny _ A ((compTurn (.ListComp elt [⟨target,iter,ifs,0⟩] scope pos) 0 it acc env).onRaise (λ x=>do noteFrame x env;theTreesLotGoes x)) _ _ s;refine wpAny_noted ?_;rw [compTurn_list];refine wpAny_bind (wpAny_standAt (wpAny_bind (wpAny_mono (turn n s hI) (λ r s₁ h₁=> ?_) λ _ _ f=>f.elim)));cases r with
  | none=>exact wpAny_pure h₁
  | some v=>
    refine wpAny_bind (wpAny_mono h₁ (λ _ s₁' h₁'=>wpAny_bind (wpAny_mono h₁' (λ _ s₂ h₂=>wpAny_bind (wpAny_mono h₂ (λ ok s₃ h₃=> ?_) λ _ _ f=>f.elim)) λ _ _ f=>f.elim)) λ _ _ f=>f.elim);cases ok with
    | false=>exact wpAny_pure ⟨rfl,h₃⟩
    | true=>
      exact wpAny_bind (wpAny_bind (wpAny_mono h₃ (λ x s₄ h₄=>wpAny_bind (wpAny_mono h₄ (λ _ s₅ h₅=>wpAny_pure (wpAny_pure ⟨rfl,h₅⟩)) λ _ _ f=>f.elim)) λ _ _ f=>f.elim))
section
variable {X:Cx}
def PTs (X:Cx) (ifs:List Expr) (tc:TT):Prop:=
  ∀ (pins:List (Addr × Obj)) (s:Shared) (σ:St) (H:Hp) (Q:Bool->Hp->Prop),Inv X pins σ H s->tc σ H Q->
    wpAny (model X.prog X.w) X.A (forIn ifs true λ c r=>if r=true then do let ok <-isTrue c X.env (eval c X.env);pure (ForInStep.yield ok) else pure (ForInStep.yield r)) (TP X pins σ Q) X.xe s
def MR:TT:=λ _ H Q=>Q true H
theorem GU:PTs X [] MR:=λ _ _ _ H _ I h=>wpAny_tests_nil ⟨H,I,h⟩
theorem Fj {c:Expr} {tc:TT} (h:PT X c tc):PTs X [c] tc:=λ pins s σ H Q I q=>wpAny_tests_one (h pins s σ H Q I q)
def Kp (σ0 σ:St):Prop:=σ.length=σ0.length/\∀ (i:Nat) (v:V),σ0[i]?=some (some v)->σ[i]?=some (some v)
theorem Kp.refl (σ:St):Kp σ σ:=⟨rfl,λ _ _ h=>h⟩
theorem Kp.set {σ0 σ:St} {i:Nat} {v:V} (k:Kp σ0 σ) (h:σ0[i]?=some none):Kp σ0 (σ.set i (some v)):=by
  refine ⟨by rw [List.length_set];exact k.1,λ j u e=> ?_⟩;by_cases hj:i=j
  · subst hj;rw [h] at e;cases e
  · rw [List.getElem?_set_ne hj];exact k.2 j u e
def DC (J:It) (σ0:St) (g:TG) (tc:TT) (te:TE) (Q:VK) (H1:Hp) (D:Addr):Prop:=
  ∃ W:Nat->Nat->List V->Hp->Prop,(∃ m,W 0 m [] (upd H1 D (.lst [])))/\∀ i m ys H,W i m ys H->
    (J.stop i H/\Q (.ref D) H)\/(J.go i H/\∃ N:List V->Hp->Prop,(∀ ys' H',N ys' H'->∃ m',m'<m/\W (i+1) m' ys' H')/\∀ x H',J.yld i H x H'->g x σ0 H' λ σ2 H2=>Kp σ0 σ2/\tc σ2 H2 λ b H3=>
      if b=true then te σ2 H3 λ y H4=>H4 D=some (.lst ys)/\ys.length<sizeLine/\N (ys++[y]) (upd H4 D (.lst (ys++[y]))) else N ys H3)
def Fc (wi:TI) (own:List Str) (fr:List (Str × Nat)) (g:TG) (tc:TT) (te:TE):TE:=λ σ H Q=>wi σ H λ J H1=>∀ D,H1 D=none->DC J (De own fr σ) g tc te Q H1 D
theorem Gm {elt tg iter:Expr} {ifs:List Expr} {scope:Scope} {pos:Pos} {own:List Str} {fr:List (Str × Nat)} {g:TG} {tc:TT} {te:TE} (hc:X.calm=true) (S:BlkScope X scope own fr)
    (hg:∀ C ex s H,PG (AD X scope own fr C ex s H) tg g) (ht:∀ C ex s H,PTs (AD X scope own fr C ex s H) ifs tc) (he:∀ C ex s H,PE (AD X scope own fr C ex s H) elt te)
    {pins:List (Addr × Obj)} {σ:St} {H:Hp} {s:Shared} {it:Addr} {fp:List Addr} {tn:Nat->Heap->Prop} {J:It} {E:Value->Shared->Prop}
    (I:Inv X pins σ H s) (T:Turn X.prog X.w X.K tg J fp it tn) (st:tn 0 s.heap) (hf:∀ b∈fp,CO X pins H b) {Q:VK}
    (h:∀ D,H D=none->DC J (De own fr σ) g tc te Q H D)
    {RR:Value->Addr->Result->Shared->Prop}
    (hR:∀ D C H' s',Inv X pins σ H' s'->(∃ m,s'.heap.Ns C m)->CO X pins H' C->Q (.ref D) H'->RR (.ref D) C (.ok .next) s'):
    wpAny (model X.prog X.w) X.A (newList []) (λ acc s₃=>wpAny (model X.prog X.w) X.A (newFunctionEnv scope X.env.globals (Ar X.env.cells scope.names []) [] X.env.qual none .none (some X.env)) (λ cenv s₄=>
      codeAny (model X.prog X.w) X.A (.compStart (.ListComp elt [⟨tg,iter,ifs,0⟩] scope pos) 0 (.ref it) acc { cenv with scope:=relabel scope X.env }) (RR acc cenv.locals) s₄) E s₃) E s:=by
  have hDn:H s.heap.objs.size=none:=I.fresh;obtain ⟨W,⟨m0,w0⟩,turn⟩:=h s.heap.objs.size hDn;have I3:Inv X pins σ (upd H s.heap.objs.size (.lst [])) { s with heap:=s.heap.push { cls:= .type "list",data:= .seq ([]:List Value).toArray },toks:=s.toks }:=I.lnew .nil (Nat.zero_le _);refine wpAny_newObj_type ?_;generalize hs3:({ s with heap:=s.heap.push { cls:= .type "list",data:= .seq ([]:List Value).toArray } }:Shared)=s3 at I3 ⊢;have I3:Inv X pins σ (upd H s.heap.objs.size (.lst [])) s3:=I3;have old3:∀ b o,s.heap.get? b=some o->s3.heap.get? b=some o:=λ b o e=>by rw [<-hs3];exact Heap.get?_push_of_some _ e
  have hobj:∀ b∈fp,∃ o,s.heap.get? b=some o/\∀ v,o.data≠ .cell v:=T.obj 0 _ st;have hne:∀ b∈fp,b≠s.heap.objs.size:=λ b hb=>by obtain ⟨o,e,_⟩:=hobj b hb;exact Nat.ne_of_lt (Heap.lt_size e)
  have hf3:∀ b∈fp,CO X pins (upd H s.heap.objs.size (.lst [])) b:=λ b hb=>⟨by rw [Ai (hne b hb)];exact (hf b hb).1,(hf b hb).2⟩;have hlt3:∀ b∈fp,b<s3.heap.objs.size:=λ b hb=>by obtain ⟨o,e,_⟩:=hobj b hb;exact Heap.lt_size (old3 b o e)
  refine wpAny_newFunctionEnv S.nocell (by intro y hy;simp at hy) (λ h₁ hns hsb=> ?_) S.kind;have keep:∀ b o,s3.heap.get? b=some o->h₁.get? b=some o:=λ b o e=>hsb.extBut b o (Nat.ne_of_lt (Heap.lt_size e)) (Heap.get?_push_of_some _ e);have J0:=I3.block (t':=s3.toks+([]:List (Str × Value)).length) S hf3 hlt3 hns keep;have st3:tn 0 h₁:=T.keep 0 _ _ st λ b hb o e=>keep b o (old3 b o e);have loop:codeAny (model X.prog X.w) X.A (.compLoop (.ListComp elt [⟨tg,iter,ifs,0⟩] scope pos) 0 (.ref it) (.ref s.heap.objs.size) (compEnvC scope (Ar X.env.cells scope.names []) s3.heap.objs.size X.env))
      (RR (.ref s.heap.objs.size) s3.heap.objs.size) { s3 with heap:=h₁,toks:=s3.toks+([]:List (Str × Value)).length }:=by
    have stat:∀ {H':Hp},(∀ b∈fp,H' b=none)->∀ b∈fp,CO (AD X scope own fr s3.heap.objs.size fp s3 (upd H s.heap.objs.size (.lst []))) [] H' b:=λ {H'} hn b hb=>
      ⟨hn b hb,Nat.ne_of_lt (hlt3 b hb),J0.ok.exfs b hb, .inl hb,(J0.ok.exf b hb).2,λ p hp=>absurd (show p∈([]:List (Addr × Obj)) from hp) (by simp)⟩
    refine F9 (λ n s'=>∃ i ys H',Inv (AD X scope own fr s3.heap.objs.size fp s3 (upd H s.heap.objs.size (.lst []))) [] (De own fr σ) H' s'/\tn i s'.heap/\(∀ b∈fp,H' b=none)/\W i n ys H') ?_ m0
      ⟨0,[],_,J0,st3,λ b hb=>(hf3 b hb).1,w0⟩
    rintro n s4 ⟨i,ys,H4,I4,st4,fr4,w4⟩;rcases turn i n ys H4 w4 with ⟨stop,q⟩ | ⟨go,N,hN,step⟩
    · refine thn (T.done (AD X scope own fr s3.heap.objs.size fp s3 (upd H s.heap.objs.size (.lst []))) rfl rfl rfl hc i [] s4 _ H4 (λ _ _=>False) I4 (stat fr4) st4 stop) λ r s5 ⟨hr,I5⟩=> ?_;subst hr;obtain ⟨m,hn,_⟩:=id I5.loc;exact hR _ _ H4 s5 (I3.call' I5.os I5.base I5.hok I5.bare λ b hb=>⟨(hf3 b hb).2.2.2.1,(hf3 b hb).2.1,(hf3 b hb).2.2.2.2.1,(hf3 b hb).2.2.2.2.2⟩) ⟨m,hn⟩ (I3.fpOk (Nat.le_refl _) I5.free) q
    · refine thn (T.item (AD X scope own fr s3.heap.objs.size fp s3 (upd H s.heap.objs.size (.lst []))) rfl rfl rfl hc i [] s4 _ H4 (λ _ _=>False) I4 (stat fr4) st4 go) λ r s5 ⟨u,hr,h5⟩=> ?_;subst hr;refine thn h5 λ _ s6 ⟨x,H6,I6,r6,y6,st6,fr6⟩=> ?_;have I6':=I6.pinned (stat fr6) (T.obj _ _ st6);refine thn (hg _ _ _ _ _ s6 _ H6 x u _ I6' r6 (step x H6 y6)) λ _ s7 ⟨σ7,H7,I7,kp,q7⟩=> ?_;refine thn (ht _ _ _ _ _ s7 σ7 H7 _ I7 q7) λ b s8 ⟨H8,I8,q8⟩=> ?_;have again:∀ {s9:Shared} {H9:Hp} {ys':List V},Inv (AD X scope own fr s3.heap.objs.size fp s3 (upd H s.heap.objs.size (.lst []))) ([]++EF fp s6.heap) σ7 H9 s9->N ys' H9->
          ∃ m,m<n/\∃ i ys H',Inv (AD X scope own fr s3.heap.objs.size fp s3 (upd H s.heap.objs.size (.lst []))) [] (De own fr σ) H' s9/\tn i s9.heap/\(∀ b∈fp,H' b=none)/\W i m ys H':=λ {s9 H9 ys'} I9 n9=>by
        obtain ⟨m',hm,w9⟩:=hN ys' H9 n9;refine ⟨m',hm,i+1,ys',H9,I9.unpinned.weak kp.1.symm kp.2,T.keep _ _ _ st6 λ b hb o e=>(I9.pin (b,o) (List.mem_append_right _ (List.mem_append_right _ (BW hb e)))).1,λ b hb=> ?_,w9⟩;obtain ⟨o,e,d⟩:=T.obj _ _ st6 b hb;exact (I9.pin (b,o) (List.mem_append_right _ (List.mem_append_right _ (BW hb e)))).2.1
      cases b with
      | false=>
        rw [if_neg Bool.false_ne_true] at q8 ⊢;exact again I8 q8
      | true=>
        rw [if_pos rfl] at q8 ⊢;refine thn (he _ _ _ _ _ s8 σ7 H8 _ I8 q8) λ xv s9 ⟨y,H9,I9,r9,hD,hl,n9⟩=> ?_;refine thn (AB _ s9 σ7 H9 (.ref s.heap.objs.size) [y] (.ref s.heap.objs.size) [xv] (λ _ H'=>H'=upd H9 s.heap.objs.size (.lst (ys++[y]))) I9 rfl (.cons r9 .nil) ⟨_,ys,y,rfl,rfl,hD,hl,rfl⟩) λ _ s10 ⟨_,H10,I10,_,q10⟩=> ?_;subst q10;exact again I10 n9
  exact codeAny_compStart_list loop (T.self _ 0 _ _ _ st3 loop)
theorem Hh {elt tg iter:Expr} {ifs:List Expr} {scope:Scope} {pos:Pos} {own:List Str} {fr:List (Str × Nat)} {wi:TI} {g:TG} {tc:TT} {te:TE} (hc:X.calm=true) (S:BlkScope X scope own fr) (hi:PI X tg iter wi)
    (hg:∀ C ex s H,PG (AD X scope own fr C ex s H) tg g) (ht:∀ C ex s H,PTs (AD X scope own fr C ex s H) ifs tc) (he:∀ C ex s H,PE (AD X scope own fr C ex s H) elt te)
    (hs:∀ x,foldedSetIterable iter X.env x=pure x:=by intro _;rfl):PE X (.ListComp elt [⟨tg,iter,ifs,0⟩] scope pos) (Fc wi own fr g tc te):=by
  intro pins s σ H Q I h;rw [eval_ListComp];refine wpAny_comprehension_free (use:=none) rfl hs (A1 (S.cells I.ok)) S.kind S.loc (thn (hi pins s σ H _ I h) λ xv s₁ h₁=>thn h₁ λ itv s₂ h₂=> ?_);obtain ⟨it,fp,tn,J,H2,rfl,I2,T,st2,f2,h2⟩:=h₂;refine Gm (RR:=λ acc C=>compPost (model X.prog X.w) X.A X.xe none (EP X pins σ Q) acc C) hc S hg ht he I2 T st2 f2 h2 ?_;rintro D C H' s' I' ⟨m,hn⟩ f q;exact ⟨m,hn,λ h' sb=>⟨.ref D,H',I'.turned (t':=s'.toks) (it:=C) (λ b o hb e=>(sb.2 b hb).trans e) f.1 f.2.1 f.2.2.2.1 f.2.2.2.2.1 f.2.2.2.2.2,rfl,q⟩⟩
theorem KJ {i:Nat} {x:Str} {px spos:Pos} {elt tg iter:Expr} {ifs:List Expr} {scope:Scope} {pos:Pos} {own:List Str} {fr:List (Str × Nat)} {wi:TI} {g:TG} {tc:TT} {te:TE} (hN:X.N.Nodup) (hix:X.N[i]?=some x) (hx:Loc X.env.scope x)
    (hc:X.calm=true) (S:BlkScope X scope own fr) (hi:PI X tg iter wi)
    (hg:∀ C ex s H,PG (AD X scope own fr C ex s H) tg g) (ht:∀ C ex s H,PTs (AD X scope own fr C ex s H) ifs tc) (he:∀ C ex s H,PE (AD X scope own fr C ex s H) elt te)
    (hsw:swapsWith (.ListComp elt [⟨tg,iter,ifs,0⟩] scope pos) (some (.Name x px)) spos.line X.env=pure true:=by rfl)
    (hf:X.fn x=true\/X.env.scope.names.lookup x=some .local:=by first | exact .inl rfl | exact .inr rfl | assumption)
    (hs:∀ x,foldedSetIterable iter X.env x=pure x:=by intro _;rfl):PS X (.Assign [.Name x px] (.ListComp elt [⟨tg,iter,ifs,0⟩] scope pos) spos) (Le (Fc wi own fr g tc te) (AC i)):=by
  intro pins s σ H D I h;rw [exec_Assign_Name_used _ _ _ _ hsw];refine wpAny_bind (wpAny_standAt (wpAny_bind ?_));show wpAny _ X.A (do let _ <-comprehension (.ListComp elt [⟨tg,iter,ifs,0⟩] scope pos) scope X.env _ (newList []) false (eval iter X.env) (some (assign (.Name x px) X.env))) _ _ s;refine wpAny_bind (wpAny_mono (wpAny_comprehension_free (use:=some (assign (.Name x px) X.env)) (Q:=λ _ s'=>SP X pins D .next s') rfl hs (A1 (S.cells I.ok)) S.kind S.loc
    (thn (hi pins s σ H _ I h) λ xv s₁ h₁=>thn h₁ λ itv s₂ h₂=> ?_)) (λ _ s' hq=>wpAny_pure (wpAny_pure hq)) λ _ _ e=>e)
  obtain ⟨it,fp,tn,J,H2,rfl,I2,T,st2,f2,h2⟩:=h₂;refine Gm (Q:=λ x H1=>AC i x σ H1 D.nx) (RR:=λ acc C=>compPost (model X.prog X.w) X.A X.xe (some (assign (.Name x px) X.env)) (λ _ s'=>SP X pins D .next s') acc C) hc S hg ht he I2 T st2 f2 h2 ?_;rintro Dl C H' s' I' ⟨m,hn⟩ f q;obtain ⟨o,es,ep,ho,hd,r⟩:=hn;have pinC:∀ v,o.data≠ .cell v:=λ v z=>by rw [hd] at z;cases z
  have I'':Inv X (pins++[(C,o)]) σ H' s':=I'.pins_of λ p hp=>(List.mem_append.mp hp).elim (λ z=>I'.pin p (List.mem_append_right _ z)) λ z=>by
    have e:p=(C,o):=by simpa using z
    subst e;exact ⟨ho,f.1,f.2.1,f.2.2.1,pinC⟩
  show wpAny _ X.A (assign (.Name x px) X.env (.ref Dl)) _ _ s';refine wpAny_assign_Name (AY I'' hN hix hx (v:= .ref Dl) rfl (λ s2 I2=> ?_) hf);have pc:=(I2.pin (C,o) (List.mem_append_right _ (List.mem_append_right _ (by simp)))).1;refine ⟨m,⟨o,es,ep,pc,hd,r⟩,λ h' sb=>⟨_,H',?_,q⟩⟩;exact (I2.unpinned (pl:=[(C,o)])).turned (t':=s2.toks) (it:=C) (λ b o hb e=>(sb.2 b hb).trans e) f.1 f.2.1 f.2.2.2.1 f.2.2.2.2.1 f.2.2.2.2.2
end
def Its (x:Str):It:=⟨λ i _=>i<x.cps.size,λ i H v H'=>H'=H/\∃ c,x.cps[i]?=some c/\v= .str ⟨#[c]⟩,λ i _=>x.cps.size<=i⟩
theorem DA {h:Heap} {it:Addr} {T:String} {x:Str} {t:Tok} {i:Nat} (st:h.IsStrIter it T x t i):∃ o,h.get? it=some o/\o.cls= .type T/\o.data= .fields #[.str x t, .int (i:Int) 0]:=st
theorem IX {P:Program} {w:World} {K:PySem.W.Frag} {tg:Expr} (x:Str) (t:Tok) (it:Addr) (T:String) (hT:T="str_ascii_iterator"\/T="str_iterator"):Turn P w K tg (Its x) [it] it (λ i h=>h.IsStrIter it T x t i) where
  mem:=by simp
  obj:=λ i h st b hb=>by
    have e:b=it:=by simpa using hb
    subst e;obtain ⟨o,e,c,d⟩:=DA st;exact ⟨o,e,λ v z=>by rw [d] at z;cases z⟩
  keep:=λ i h h' st k=>let ⟨o,ho,r⟩:=st;⟨o,k it (by simp) o ho,r⟩
  item:=by
    intro X hP hw hK hc i pins s σ H E I hf st hg;subst hP hw hK;have hg:i<x.cps.size:=hg;obtain ⟨f0,f1,f2,f3,f4,f5⟩:=hf it (by simp);have hx:x.cps[i]?=some x.cps[i]:=by simp [hg]
    have fin:∀ h',h'.IsStrIter it T x t (i+1)->Heap.SameBut it s.heap h'->∃ u,some (Value.str ⟨#[x.cps[i]]⟩ s.toks)=some u/\
        wpAny (model X.prog X.w) X.A (letOwnedTupleGo tg (.ref it) u) (λ _ s2=>∃ y H',Inv X pins σ H' s2/\RelV y u/\(Its x).yld i H y H'/\s2.heap.IsStrIter it T x t (i+1)/\∀ b∈[it],H' b=none) E { s with heap:=h',toks:=s.toks+1 }:=λ h' st' sb=>by
      have I1:Inv X pins σ H { s with heap:=h',toks:=s.toks+1 }:=I.turned (t':=s.toks+1) (λ b o hb e=>(sb.2 b hb).trans e) f0 f1 f3 f4 f5;obtain ⟨o,e,c,d⟩:=DA st';refine ⟨_,rfl,IB (s:={ s with heap:=h',toks:=s.toks+1 }) e c d ?_ ⟨.str ⟨#[x.cps[i]]⟩,H,I1,⟨_,rfl⟩,⟨rfl,_,hx,rfl⟩,st',λ b hb=>(hf b hb).1⟩⟩;rcases hT with rfl | rfl <;> decide
    rcases hT with rfl | rfl
    · exact wpAny_pyNext_ascii_item st hx fin
    · exact wpAny_pyNext_wide_item st hx fin
  done:=by
    intro X hP hw hK hc i pins s σ H E I hf st hg;subst hP hw hK;have hg:x.cps.size<=i:=hg;obtain ⟨f0,f1,f2,f3,f4,f5⟩:=hf it (by simp);rcases hT with rfl | rfl
    · exact wpAny_pyNext_ascii_end (I.ok.hd hc) st (by simp [hg]) λ h' eb=>⟨rfl,I.turned (t':=s.toks) (λ b o hb e=>eb b o hb e) f0 f1 f3 f4 f5⟩
    · exact wpAny_pyNext_wide_end (I.ok.hd hc) st (by simp [hg]) λ h' eb=>⟨rfl,I.turned (t':=s.toks) (λ b o hb e=>eb b o hb e) f0 f1 f3 f4 f5⟩
  self:=λ _ _ _ _ _ st h=>by
    rcases hT with rfl | rfl
    · exact wpAny_pyIter_striter_ascii st h
    · exact wpAny_pyIter_striter_wide st h
section
variable {X:Cx} {tg:Expr}
def PM (te:TE):TI:=λ σ H R=>te σ H λ x H1=>∃ z,x= .str z/\R (Its z) H1
theorem Iy {e:Expr} {te:TE} (he:PE X e te):PI X tg e (PM te):=by
  intro pins s σ H R I h;refine thn (he pins s σ H _ I h) λ v s1 ⟨x,H1,I1,r1,q1⟩=> ?_;obtain ⟨z,e,q⟩:=q1;subst e;obtain ⟨t,rfl⟩:=r1;have fin:∀ T,(T="str_ascii_iterator"\/T="str_iterator")->PIE X pins σ tg R (.ref s1.heap.objs.size) { s1 with heap:=s1.heap.push { cls:= .type T,data:= .fields #[.str z t, .int 0 0] } }:=λ T hT=>by
    refine ⟨s1.heap.objs.size,[s1.heap.objs.size],_,_,H1,rfl,I1.kept (t':=s1.toks) λ b o e=>Heap.get?_push_of_some _ e,IX z t _ T hT,⟨_,Heap.get?_push_size _ rfl,rfl,rfl⟩,λ b hb=> ?_,q⟩;have e:b=s1.heap.objs.size:=by simpa using hb
    subst e;exact I1.fpOk (Nat.le_refl _) (I1.hok.fresh (Nat.le_refl _))
  cases ha:z.cps.all (· < 128)
  · exact wpAny_pyIter_wide ha (fin _ (.inr rfl))
  · exact wpAny_pyIter_ascii ha (fin _ (.inl rfl))
end
end L2
namespace MS
open PySem PySem.StrLaws Builtin Builtin.Str
theorem subAt_one (x:Str) (c i:Nat):subAt x ⟨#[c]⟩ i=decide (x.cps.toList[i]?=some c):=by
  rw [subAt_eq];show ((x.cps.toList.drop i).take 1 == [c])=_;rw [Bool.eq_iff_iff,beq_iff_eq,decide_eq_true_iff];cases h:x.cps.toList[i]? with
  | none=>
    rw [List.drop_of_length_le (List.getElem?_eq_none_iff.mp h)];simp
  | some d=>
    obtain ⟨hi,e⟩:=List.getElem?_eq_some_iff.mp h;rw [List.drop_eq_getElem_cons hi];simp [e]
end MS
namespace MN
open PySem PySem.StrLaws PySem.NumText Builtin Builtin.Str
def isDig (c:Nat):Bool:=decide (48<=c)&&decide (c<=57)
def numOf (cs:List Nat):Option Nat:=if (decide (1<=cs.length)&&decide (cs.length<=3)&&cs.all isDig&& !(decide (1<cs.length)&&cs.head? == some 48))=true then some (digitsVal cs) else none
theorem JD:∀ m,m<1000->numOf ((Nat.toDigits 10 m).map Char.toNat)=some m:=by decide +kernel
theorem IV {i:Int} (h0:0<=i) (h1:i<1000):numOf (Str.ofString (toString i)).cps.toList=some i.toNat:=by
  obtain ⟨m,rfl⟩:=Int.eq_ofNat_of_zero_le h0;rw [PySem.W.KIN.signs_num];exact JD m (by omega)
theorem num_len {i:Int} (h0:0<=i) (h1:i<1000):(Str.ofString (toString i)).length<=3:=by
  have h:=IV h0 h1;unfold numOf at h;split at h
  · rename_i hc
    simp only [Bool.and_eq_true,decide_eq_true_iff] at hc;have:=hc.1.1.2;simpa [Str.length] using this
  · cases h
theorem in_one (x:Str) (c:Nat):(!(occurrences x ⟨#[c]⟩ 0 x.length 1).isEmpty)=decide (c∈x.cps.toList):=by
  rw [Bool.eq_iff_iff,decide_eq_true_iff,found_iff,List.mem_iff_getElem?];constructor
  · rintro ⟨i,h⟩;exact ⟨i,(StrLaws.subAt_one x c i).mp h⟩
  · rintro ⟨i,h⟩;exact ⟨i,(StrLaws.subAt_one x c i).mpr h⟩
theorem fig_mem (c:Nat):decide (c∈(Str.ofString "0123456789").cps.toList)=isDig c:=by
  have e:(Str.ofString "0123456789").cps.toList=[48,49,50,51,52,53,54,55,56,57]:=by decide +kernel
  rw [e];unfold isDig;rw [Bool.eq_iff_iff];simp;omega
end MN
namespace L2
open PySem PySem.Spec PyProof.Rows
section
variable {X:Cx}
def Qa:V->Option Int->Option Int->Hp->VK->Prop:=λ x lo hi H Q=>∃ z,x= .str z/\z.length<=sizeLine/\Q (.str (Txt.slice z lo hi)) H
theorem Fl:SlR X Qa:=by
  intro pins s σ H x v vl vu lo hi sl Q I rx hs pl pu h;obtain ⟨z,rfl,hz,q⟩:=h;obtain ⟨t,rfl⟩:=rx;refine ⟨"str",_,F.slot_str_getitem.lookup,typeIs_str _ _ _,?_⟩;have fin:∀ t' k,EP X pins σ Q (.str (Txt.slice z lo hi) t') { s with toks:=k }:=λ t' k=>⟨.str _,H,I.tok k,⟨t',rfl⟩,q⟩;obtain ⟨o,ho,hc,hd⟩:=hs;cases pl with
  | none=>
    cases pu with
    | none=>exact wpAny_getItem_str_slice (l:=none) (u:=none) (st:=none) ⟨o,ho,hc,hd⟩ rfl (post_val_or_str ⟨Nat.le_trans (Txt.slice_le z _ _) hz,fin⟩)
    | int j uj=>exact wpAny_getItem_str_slice (l:=none) (u:=some (j,uj)) (st:=none) ⟨o,ho,hc,hd⟩ rfl (post_val_or_str ⟨Nat.le_trans (Txt.slice_le z _ _) hz,fin⟩)
  | int i ui=>
    cases pu with
    | none=>exact wpAny_getItem_str_slice (l:=some (i,ui)) (u:=none) (st:=none) ⟨o,ho,hc,hd⟩ rfl (post_val_or_str ⟨Nat.le_trans (Txt.slice_le z _ _) hz,fin⟩)
    | int j uj=>exact wpAny_getItem_str_slice (l:=some (i,ui)) (u:=some (j,uj)) (st:=none) ⟨o,ho,hc,hd⟩ rfl (post_val_or_str ⟨Nat.le_trans (Txt.slice_le z _ _) hz,fin⟩)
theorem EK:MtM X "str.startswith" (λ x vs H Q=>∃ z y,x= .str z/\vs=[.str y]/\Q (.bl (Txt.startswith z y)) H):=by
  intro pins s σ H x vs v us Q I rx rv h;obtain ⟨z,y,rfl,rfl,q⟩:=h;obtain ⟨t,rfl⟩:=rx;obtain ⟨u,rfl,ru⟩:=rv.one;obtain ⟨u',rfl⟩:=ru;exact SC.startswith ⟨.bl _,H,I,rfl,q⟩
theorem Cc:MtM X "str.endswith" (λ x vs H Q=>∃ z y,x= .str z/\vs=[.str y]/\Q (.bl (Txt.endswith z y)) H):=by
  intro pins s σ H x vs v us Q I rx rv h;obtain ⟨z,y,rfl,rfl,q⟩:=h;obtain ⟨t,rfl⟩:=rx;obtain ⟨u,rfl,ru⟩:=rv.one;obtain ⟨u',rfl⟩:=ru;exact SC.endswith ⟨.bl _,H,I,rfl,q⟩
theorem BB:Ba X (.type "int") (λ xs H Q=>∃ z n,xs=[.str z]/\PySem.intText? z=some n/\z.length<=640/\Q (.int n) H):=by
  intro pins s σ H xs us Q I r h;obtain ⟨z,n,rfl,hn,hl,q⟩:=h;obtain ⟨u,rfl,rx⟩:=DD r;obtain ⟨t,rfl⟩:=rx;exact PySem.W.KIN.call_text hn hl ⟨.int n,H,I.tok _,⟨_,rfl⟩,q⟩
theorem DH:∀ {ns:List Int} {l:List (Int × Tok)},Vals (ns.map V.int) (l.map λ p=>Value.int p.1 p.2)->l.map (·.1)=ns
  | [],[],_=>rfl
  | n::ns,p::l,r=>by
    cases r with
    | cons r1 r2=>
      obtain ⟨t,e⟩:=r1;injection e with e1 e2;rw [List.map_cons,DH r2,e1]
  | [],_::_,r=>by cases r
  | _::_,[],r=>by cases r
theorem JG (hc:X.calm=true):Ba X (.builtin "sum") (λ xs H Q=>∃ (p:Addr) (ns:List Int),xs=[.ref p]/\SqL X.K H p (ns.map V.int)/\Q (.int ns.sum) H):=by
  intro pins s σ H xs us Q I r h;obtain ⟨p,ns,rfl,hq,q⟩:=h;obtain ⟨u,rfl,rx⟩:=DD r;cases rx;obtain ⟨its,rv,pl,_⟩:=I.list hq;obtain ⟨ps,e⟩:=(IntsAre.allInts (GQ rv)).items;have e':its=ps.toList.map λ p=>Value.int p.1 p.2:=by
    have:=congrArg Array.toList e;simpa [intItems] using this
  have hl:=pl.isList;rw [e] at hl;refine sum_intListG (I.ok.hd hc) hl λ h' tk t' hk=> ?_;have es:preSum (numAt ps) ps.size=ns.sum:=by
    rw [preSum_eq,List.take_of_length_le (by simp),DH (ns:=ns) (l:=ps.toList) (by rw [<-e'];exact rv)]
  rw [es];exact ⟨.int ns.sum,H,I.kept hk,⟨t',rfl⟩,q⟩
theorem Ie (bs:List Bool):(List.range bs.length).all (λ i=>bs.getD i true)=bs.all id:=by
  rw [Bool.eq_iff_iff,List.all_eq_true,List.all_eq_true];constructor
  · intro h b hb;obtain ⟨i,hi,rfl⟩:=List.getElem_of_mem hb;have:=h i (by simpa using hi);rw [List.getD_eq_getElem?_getD,List.getElem?_eq_getElem hi] at this;exact this
  · intro h i hi;have hi:i<bs.length:=by simpa using hi
    rw [List.getD_eq_getElem?_getD,List.getElem?_eq_getElem hi];exact h _ (List.getElem_mem hi)
theorem JA (hc:X.calm=true):Ba X (.builtin "all") (λ xs H Q=>∃ (p:Addr) (bs:List Bool),xs=[.ref p]/\SqL X.K H p (bs.map V.bl)/\Q (.bl (bs.all id)) H):=by
  intro pins s σ H xs us Q I r h;obtain ⟨p,bs,rfl,hq,q⟩:=h;obtain ⟨u,rfl,rx⟩:=DD r;cases rx;obtain ⟨its,rv,pl,_⟩:=I.list hq;have hl:=rv.length;rw [List.length_map] at hl;obtain ⟨o,ho,_⟩:=id pl.isList;have hne:p≠s.heap.objs.size:=Nat.ne_of_lt (Heap.lt_size ho);refine call_all_walk (wpAny_pyIter_list pl.isList ?_);refine ⟨s.heap.objs.size,_,_,_,_,_,λ i=>bs.getD i true,rfl,Walks.list (A:=X.A.in1) (I.ok.hd hc) _ p hne its.toArray,⟨⟨_,Heap.get?_push_size _ rfl,rfl,rfl⟩,pl.isList.at λ o e=>Heap.get?_push_of_some _ e⟩,?_,λ h' tk hk=> ?_⟩
  · intro i v s' Q' E' hv hQ';have hv:its[i]?=some v:=by simpa using hv
    have hi:i<bs.length:=by rw [hl];exact (List.getElem?_eq_some_iff.mp hv).1
    obtain ⟨u,hu,ru⟩:=rv.get (i:=i) (x:= .bl (bs.getD i true)) (by rw [List.getElem?_map,List.getD_eq_getElem?_getD,List.getElem?_eq_getElem hi];rfl);rw [hu] at hv;cases hv;cases ru;exact wpAny_truthy_bool hQ'
  · have e:its.toArray.size=bs.length:=by rw [List.size_toArray];exact hl.symm
    rw [e,Ie];exact ⟨.bl _,H,I.kept λ b o e=>hk b o (λ z=>by simp at z;exact absurd (Heap.lt_size e) (by rw [z];exact Nat.lt_irrefl _)) (Heap.get?_push_of_some _ e),rfl,q⟩
theorem Ge:Ba X (.builtin "isinstance") (λ xs H Q=>∃ x n t b,xs=[x, .ty n]/\TyOf X.K H x t/\PySem.W.kitOne X.K t (.type n)=some b/\Q (.bl b) H):=by
  intro pins s σ H xs us Q I r h;obtain ⟨x,n,t,b,rfl,ty,e,q⟩:=h;obtain ⟨u,c,rfl,rx,rc⟩:=JI r;cases rc;exact ES I rx ty e λ tk=>⟨.bl b,H,I.tok tk,rfl,q⟩
def F0 (K:PySem.W.Frag):R2:=λ x y H Q=>∃ l b xs zs,x= .ref l/\y= .ref b/\SqL K H l xs/\SqL K H b zs/\xs.length+zs.length<=sizeLine/\∀ p,H p=none->Q (.ref p) (upd H p (.lst (xs++zs)))
theorem KI:OpR X (binaryOp .Add) (F0 X.K):=by
  intro pins s σ H x y v u Q I rx ry h;obtain ⟨l,b,xs,zs,rfl,rfl,hH,hB,hz,q⟩:=h;cases rx;cases ry;obtain ⟨its,r,pl,_⟩:=I.list hH;obtain ⟨its2,r2,pl2,_⟩:=I.list hB;have h1:=r.length;have h2:=r2.length;obtain ⟨⟨cls,dd,data,sl⟩,n,ho,hc,hdd,hd⟩:=pl;obtain ⟨⟨cls2,dd2,data2,sl2⟩,n2,ho2,hc2,hdd2,hd2⟩:=pl2;simp only at hc hdd hd hc2 hdd2 hd2;subst hc hdd hd hc2 hdd2 hd2;refine concat_meets ⟨_,ho,rfl⟩ ⟨_,ho2,rfl⟩ noFill_list_add seq_list_add PySem.F.slot_list_add PySem.F.entry_list_add (PySem.F.args_list_add_2 _ _) (list_addW l b its.toArray its2.toArray n n2 none none sl sl2 (by rw [List.size_toArray,List.size_toArray];omega)) ⟨ho,ho2,?_⟩;have e:its.toArray++its2.toArray=(its++its2).toArray:=by simp
  rw [e];exact ⟨.ref _,_,I.lnew (t':=s.toks) (r.append r2) (by rw [List.length_append];omega),rfl,q _ I.fresh⟩
def DM (xs ys:List V):Bool:=xs.length == ys.length&&(List.range xs.length).all λ i=>eqV (xs.getD i .non) (ys.getD i .non)
theorem Fa {xs:List V} (h:xs.all AK=true) {i:Nat} (hi:i<xs.length):AK (xs.getD i .non)=true:=by
  rw [List.getD_eq_getElem?_getD,List.getElem?_eq_getElem hi];exact (List.all_eq_true.mp h) _ (List.getElem_mem hi)
def Hy (K:PySem.W.Frag) (neg:Bool):R2:=λ x y H Q=>∃ p q xs ys,x= .ref p/\y= .ref q/\SqL K H p xs/\SqL K H q ys/\xs.all AK=true/\ys.all AK=true/\Q (.bl (if neg then !DM xs ys else DM xs ys)) H
theorem DW {A:Around} {s:Shared} {xs ys:List V} {its its2:List Value} (r:Vals xs its) (r2:Vals ys its2) (fx:xs.all AK=true) (fy:ys.all AK=true):
    ∀ j (h1:j<its.toArray.size) (h2:j<its2.toArray.size),SeqAt.EqAt A s its.toArray[j] its2.toArray[j] (eqV (xs.getD j .non) (ys.getD j .non)):=λ j h1 h2=>by
  have l1:=r.length;have l2:=r2.length;have h1':j<its.length:=by simpa using h1
  have h2':j<its2.length:=by simpa using h2
  have g1:xs[j]?=some (xs.getD j .non):=by rw [List.getD_eq_getElem?_getD,List.getElem?_eq_getElem (by omega)];rfl
  have g2:ys[j]?=some (ys.getD j .non):=by rw [List.getD_eq_getElem?_getD,List.getElem?_eq_getElem (by omega)];rfl
  obtain ⟨u,e1,ru⟩:=r.get g1;obtain ⟨u2,e2,ru2⟩:=r2.get g2;have q1:its.toArray[j]=u:=by rw [List.getElem?_eq_getElem h1'] at e1;simpa using Option.some.inj e1
  have q2:its2.toArray[j]=u2:=by rw [List.getElem?_eq_getElem h2'] at e2;simpa using Option.some.inj e2
  rw [q1,q2];exact Jh ru ru2 (Fa fx (by omega)) (Fa fy (by omega))
theorem LZ (hu:X.A.units<cLine):OpR X (compareOp .Eq) (Hy X.K false):=by
  intro pins s σ H x y v u Q I rx ry h;obtain ⟨p,q,xs,ys,rfl,rfl,h1,h2,fx,fy,hq⟩:=h;cases rx;cases ry;obtain ⟨its,r,pl,_⟩:=I.list h1;obtain ⟨its2,r2,pl2,_⟩:=I.list h2;have l1:=r.length;have l2:=r2.length;by_cases hl:xs.length=ys.length
  · refine SeqAt.eq_listAt pl.isList pl2.isList (by simp;omega) hu (DW r r2 fx fy) ⟨.bl _,H,I,rfl,?_⟩;have e:DM xs ys=(List.range its.toArray.size).all λ i=>eqV (xs.getD i .non) (ys.getD i .non):=by
      unfold DM;rw [hl,beq_self_eq_true,Bool.true_and,List.size_toArray, <-l1,hl]
    rw [<-e];exact hq
  · refine SeqAt.eq_list_lengthsAt pl.isList pl2.isList (by simp;omega) hu ⟨.bl _,H,I,rfl,?_⟩;have e:DM xs ys=false:=by unfold DM;rw [beq_eq_false_iff_ne.mpr hl,Bool.false_and]
    rw [<-e];exact hq
theorem Nk (hu:X.A.units<cLine):OpR X (compareOp .NotEq) (Hy X.K true):=by
  intro pins s σ H x y v u Q I rx ry h;obtain ⟨p,q,xs,ys,rfl,rfl,h1,h2,fx,fy,hq⟩:=h;cases rx;cases ry;obtain ⟨its,r,pl,_⟩:=I.list h1;obtain ⟨its2,r2,pl2,_⟩:=I.list h2;have l1:=r.length;have l2:=r2.length;by_cases hl:xs.length=ys.length
  · refine SeqAt.RcNeAt.lists pl.isList pl2.isList (by simp;omega) hu (DW r r2 fx fy) _ _ _ _ ⟨.bl _,H,I,rfl,?_⟩;have e:DM xs ys=(List.range its.toArray.size).all λ i=>eqV (xs.getD i .non) (ys.getD i .non):=by
      unfold DM;rw [hl,beq_self_eq_true,Bool.true_and,List.size_toArray, <-l1,hl]
    rw [<-e];exact hq
  · refine SeqAt.RcNeAt.lists_lengths pl.isList pl2.isList (by simp;omega) hu _ _ _ _ ⟨.bl _,H,I,rfl,?_⟩;have e:DM xs ys=false:=by unfold DM;rw [beq_eq_false_iff_ne.mpr hl,Bool.false_and]
    rw [e] at hq;exact hq
end
def CallF (P:Program) (w:World) (K:PySem.W.Frag) (mg:Str->Option Value) (base:Heap) (x:Str) (k:Nat) (ps:List Str) (sp:Sp):Prop:=
  ∃ f fd,mg x=some (.ref f)/\PySem.W.keepIn K (.ref f)=true/\FnOk P w K mg base CX0 k f fd ps sp/\Binds K fd ps []
section
variable {X:Cx} {x:Str} {k:Nat} {ps:List Str} {sp:Sp} {e:Expr} {es:List Expr} {t:TA} {p pos:Pos}
theorem Ao (h:CallF X.prog X.w X.K X.mg X.base x k ps sp) (hr:Room k X.A) (ha:PA X (e::es) t) (hg:Gl X x:=by rfl) (hdb:(x == ("__debug__":Str))=false:=by decide)
    (he:starEach (e::es) X.env=(false,eval e X.env)::starEach es X.env:=by rfl) (hpl:(backTo pos (starEach es X.env)).any (·.1)=false:=by rfl):
    PE X (.Call (.Name x p) (e::es) [] pos) (G5 sp [] E0 t):=by
  obtain ⟨f,fd,hm,hk,F,hb⟩:=h;exact KA F hr hg hm hk hb .nil PQ ha hdb he hpl
end
structure DefAt (K:PySem.W.Frag) (mg:Str->Option Value) (x:Str) (st:Stmt) (ps:List Str) (f:Addr) (fd:FuncData):Prop where
  fn:Fun K x x st f fd
  at':mg x=some (.ref f)
  bi:Binds K fd ps []
theorem DefAt.call {P:Program} {w:World} {K:PySem.W.Frag} {mg:Str->Option Value} {base:Heap} {x:Str} {st:Stmt} {ps:List Str} {f:Addr} {fd:FuncData} {k:Nat} {sp:Sp} (d:DefAt K mg x st ps f fd)
    (F:FnOk P w K mg base CX0 k f fd ps sp):CallF P w K mg base x k ps sp:=⟨f,fd,d.at',d.fn.kp,F,d.bi⟩
def IZ:V->Bool | .int _=>true | _=>false
def LJ:V->Bool | .bl _=>true | _=>false
def Ty (K:PySem.W.Frag) (H:Hp) (x:V):Prop:=∃ n,TyOf K H x (.type n)
def Qq (n T:String):Option Bool:=if (Value.type n == Value.type T)=true then some true else if PySem.W.kitMeta T=true then (fastBuiltinMro n).map (·.contains (.type T)) else none
section
variable {K:PySem.W.Frag} {H:Hp} {x:V} {n:String}
theorem kb {n T:String} {b:Bool} (h:Qq n T=some b):PySem.W.kitOne K (.type n) (.type T)=some b:=h
theorem Ls (h:TyOf K H x (.type n)):PySem.W.kitOne K (.type n) (.type "int")=some (IZ x||LJ x):=by
  cases h <;> first
    | exact (show PySem.W.kitOne K _ _=some true from kb (by decide +kernel))
    | exact (show PySem.W.kitOne K _ _=some false from kb (by decide +kernel))
theorem Ka (h:TyOf K H x (.type n)):PySem.W.kitOne K (.type n) (.type "bool")=some (LJ x):=by
  cases h <;> first
    | exact (show PySem.W.kitOne K _ _=some true from kb (by decide +kernel))
    | exact (show PySem.W.kitOne K _ _=some false from kb (by decide +kernel))
end
section
variable {X:Cx}
def Own (mg:Str->Option Value) (names:List Str):Prop:=∀ x∈names,mg x=none
theorem Hs:bootBuiltins "all"=some (.builtin "all"):=by decide +kernel
theorem Dy {x:Str} {T:String} {pos:Pos} (hg:Gl X x) (hm:X.mg x=none) (hv:bootBuiltins x=some (.type T)) (hn:x≠"__name__":=by decide) (hd:(x == ("__debug__":Str))=false:=by decide):PE X (.Name x pos) (tC (.ty T)):=
  Lg hg hm hv (show RelV (.ty T) (.type T) from rfl) hn hd
end
def DL (N:List Str) (scope:Scope):List (Str × Nat):=scope.names.filterMap λ y=>if y.2= .free then (N.findIdx? λ n=>decide (n=y.1)).map λ i=>(y.1,i) else none
def C8 (sc:Scope) (N:List Str) (scope:Scope) (own:List Str) (fr:List (Str × Nat)):Bool:=
  decide (scope.kind= .function)&&
  (scope.names.all λ y=>decide (y.2≠ .cell)&&(decide (y.2≠ .local)||decide (scope.names.lookup y.1=some .local))&&
    (decide (y.2≠ .free)||((decide (sc.names.lookup y.1=some .cell)||decide (sc.names.lookup y.1=some .free))&&decide (scope.names.lookup y.1=some .free))))&&
  (fr.all λ p=>decide (N[p.2]?=some p.1)&&decide ((p.1,NameKind.free)∈scope.names))&&
  (own.all λ x=>decide (scope.names.lookup x=some .local))&&decide ((own++fr.map (·.1)).Nodup)
section
variable {X:Cx} {scope:Scope} {own:List Str} {fr:List (Str × Nat)}
theorem BlkScope.of (h:C8 X.env.scope X.N scope own fr=true):BlkScope X scope own fr:=by
  unfold C8 at h;simp only [Bool.and_eq_true,List.all_eq_true,decide_eq_true_iff,Bool.or_eq_true] at h;obtain ⟨⟨⟨⟨h1,h2⟩,h3⟩,h4⟩,h5⟩:=h;exact ⟨h1,λ y hy=>(h2 y hy).1.1,λ y hy e=>(h2 y hy).1.2.resolve_left (λ z=>z e),λ y hy e=>((h2 y hy).2.resolve_left (λ z=>z e)).1,λ p hp=>h3 p hp,λ x hx=>((h2 _ hx).2.resolve_left (λ z=>z rfl)).2⟩
theorem HF (h:C8 X.env.scope X.N scope own fr=true):(∀ x∈own,scope.names.lookup x=some .local)/\(own++fr.map (·.1)).Nodup:=by
  unfold C8 at h;simp only [Bool.and_eq_true,List.all_eq_true,decide_eq_true_iff,Bool.or_eq_true] at h;exact ⟨h.1.2,h.2⟩
theorem FJ {i:Nat} {x:Str} {px:Pos} (h:C8 X.env.scope X.N scope own fr=true) (hi:own[i]?=some x) (C:Addr) (ex:List Addr) (s:Shared) (H:Hp):PG (AD X scope own fr C ex s H) (.Name x px) (AC i):=by
  obtain ⟨h1,h2⟩:=HF h;have hl:(relabel scope X.env).names.lookup x=some .local:=lookup_relabel_local (h1 x (List.mem_of_getElem? hi));have hlt:=(List.getElem?_eq_some_iff.mp hi).1;refine C6 h2 ?_ (.inl hl) (.inr hl);show (own++fr.map (·.1))[i]?=some x;rw [List.getElem?_append_left hlt];exact hi
theorem Eh {elt iter:Expr} {x:Str} {px:Pos} {ifs:List Expr} {pos:Pos} {wi:TI} {tc:TT} {te:TE} (hi:PI X (.Name x px) iter wi)
    (ht:∀ C ex s H,PTs (AD X scope [x] (DL X.N scope) C ex s H) ifs tc) (he:∀ C ex s H,PE (AD X scope [x] (DL X.N scope) C ex s H) elt te)
    (hb:C8 X.env.scope X.N scope [x] (DL X.N scope)=true:=by with_unfolding_all rfl) (hc:X.calm=true:=by rfl)
    (hs:∀ x,foldedSetIterable iter X.env x=pure x:=by intro _;rfl):PE X (.ListComp elt [⟨.Name x px,iter,ifs,0⟩] scope pos) (Fc wi [x] (DL X.N scope) (AC 0) tc te):=
  Hh hc (.of hb) hi (λ C ex s H=>FJ hb rfl C ex s H) ht he hs
theorem Js {i:Nat} {y x:Str} {py px spos:Pos} {elt iter:Expr} {ifs:List Expr} {pos:Pos} {wi:TI} {tc:TT} {te:TE} (hN:X.N.Nodup) (hix:X.N[i]?=some y) (hx:Loc X.env.scope y) (hi:PI X (.Name x px) iter wi)
    (ht:∀ C ex s H,PTs (AD X scope [x] (DL X.N scope) C ex s H) ifs tc) (he:∀ C ex s H,PE (AD X scope [x] (DL X.N scope) C ex s H) elt te)
    (hb:C8 X.env.scope X.N scope [x] (DL X.N scope)=true:=by with_unfolding_all rfl) (hc:X.calm=true:=by rfl)
    (hsw:swapsWith (.ListComp elt [⟨.Name x px,iter,ifs,0⟩] scope pos) (some (.Name y py)) spos.line X.env=pure true:=by rfl)
    (hf:X.fn y=true\/X.env.scope.names.lookup y=some .local:=by first | exact .inl rfl | exact .inr rfl | assumption)
    (hs:∀ x,foldedSetIterable iter X.env x=pure x:=by intro _;rfl):
    PS X (.Assign [.Name y py] (.ListComp elt [⟨.Name x px,iter,ifs,0⟩] scope pos) spos) (Le (Fc wi [x] (DL X.N scope) (AC 0) tc te) (AC i)):=
  KJ hN hix hx hc (.of hb) hi (λ C ex s H=>FJ hb rfl C ex s H) ht he hsw hf hs
theorem Jn {z:Str} {D:Addr} {σ0:St} {tc:TT} {te:TE} {Q:VK} {H:Hp} (Pv:Nat->List V->Hp->Prop) (h0:Pv 0 [] (upd H D (.lst [])))
    (hs:∀ i c ys H,z.cps[i]?=some c->Pv i ys H->Kp σ0 (σ0.set 0 (some (.str ⟨#[c]⟩)))/\tc (σ0.set 0 (some (.str ⟨#[c]⟩))) H λ b H3=>
      if b=true then te (σ0.set 0 (some (.str ⟨#[c]⟩))) H3 λ y H4=>H4 D=some (.lst ys)/\ys.length<sizeLine/\Pv (i+1) (ys++[y]) (upd H4 D (.lst (ys++[y]))) else Pv (i+1) ys H3)
    (hd:∀ ys H,Pv z.cps.size ys H->Q (.ref D) H):
    DC (Its z) σ0 (AC 0) tc te Q H D:=by
  refine ⟨λ i m ys H=>m=z.cps.size - i/\i<=z.cps.size/\Pv i ys H,⟨_,rfl,Nat.zero_le _,h0⟩,?_⟩;rintro i m ys H ⟨rfl,hi,p⟩;by_cases hlt:i<z.cps.size
  · refine .inr ⟨hlt,Pv (i+1),λ ys' H' p'=>⟨z.cps.size - (i+1),by omega,rfl,hlt,p'⟩,λ x H' y=> ?_⟩;obtain ⟨e,c,hc,e2⟩:=y;subst e e2;exact hs i c ys _ hc p
  · have e:i=z.cps.size:=by omega
    subst e;exact .inl ⟨Nat.le_refl _,hd ys H p⟩
theorem E9 {K:PySem.W.Frag} {a:Addr} {xs:List V} {D:Addr} {σ0:St} {tc:TT} {te:TE} {Q:VK} {H:Hp} (Pv:Nat->List V->Hp->Prop) (h0:Pv 0 [] (upd H D (.lst [])))
    (hl:∀ i ys H,i<=xs.length->Pv i ys H->SqL K H a xs)
    (hs:∀ i x ys H,xs[i]?=some x->Pv i ys H->Kp σ0 (σ0.set 0 (some x))/\tc (σ0.set 0 (some x)) H λ b H3=>
      if b=true then te (σ0.set 0 (some x)) H3 λ y H4=>H4 D=some (.lst ys)/\ys.length<sizeLine/\Pv (i+1) (ys++[y]) (upd H4 D (.lst (ys++[y]))) else Pv (i+1) ys H3)
    (hd:∀ ys H,Pv xs.length ys H->Q (.ref D) H):
    DC (Itl K a) σ0 (AC 0) tc te Q H D:=by
  refine ⟨λ i m ys H=>m=xs.length - i/\i<=xs.length/\Pv i ys H,⟨_,rfl,Nat.zero_le _,h0⟩,?_⟩;rintro i m ys H ⟨rfl,hi,p⟩;have q:=hl i ys H hi p;by_cases hlt:i<xs.length
  · refine .inr ⟨⟨xs,xs[i],q,by simp [hlt]⟩,Pv (i+1),λ ys' H' p'=>⟨xs.length - (i+1),by omega,rfl,hlt,p'⟩,λ x H' y=> ?_⟩;obtain ⟨e,y⟩:=y;subst e;exact hs i x ys _ (y xs q) p
  · have e:i=xs.length:=by omega
    subst e;exact .inl ⟨⟨xs,q,Nat.le_refl _⟩,hd ys H p⟩
end
def Ki (K:PySem.W.Frag):List V->Hp->VK->Prop:=λ xs H Q=>∃ x n,xs=[x]/\NQ K x H n/\Q (.int n) H
def Ny (K:PySem.W.Frag):List V->Hp->VK->Prop:=λ xs H Q=>∃ (p:Addr) (ns:List Int),xs=[.ref p]/\SqL K H p (ns.map V.int)/\Q (.int ns.sum) H
def Oj (K:PySem.W.Frag):List V->Hp->VK->Prop:=λ xs H Q=>∃ (p:Addr) (bs:List Bool),xs=[.ref p]/\SqL K H p (bs.map V.bl)/\Q (.bl (bs.all id)) H
def LL (K:PySem.W.Frag):List V->Hp->VK->Prop:=λ xs H Q=>∃ x n t b,xs=[x, .ty n]/\TyOf K H x t/\PySem.W.kitOne K t (.type n)=some b/\Q (.bl b) H
def Hc (K:PySem.W.Frag):List V->Hp->VK->Prop:=λ xs H Q=>∃ p ys,xs=[.ref p]/\(SqL K H p ys\/SqT K H p ys)/\∀ l,H l=none->Q (.ref l) (upd H l (.lst ys))
section
variable {X:Cx} {K:PySem.W.Frag}
theorem AL (hK:X.K=K:=by rfl):Ba X (.builtin "len") (Ki K):=by subst hK;exact II
theorem Qg (hK:X.K=K:=by rfl) (hc:X.calm=true:=by rfl):Ba X (.builtin "sum") (Ny K):=by subst hK;exact JG hc
theorem O7 (hK:X.K=K:=by rfl) (hc:X.calm=true:=by rfl):Ba X (.builtin "all") (Oj K):=by subst hK;exact JA hc
theorem CP (hK:X.K=K:=by rfl):Ba X (.builtin "isinstance") (LL K):=by subst hK;exact Ge
theorem Kc (hK:X.K=K:=by rfl):Ba X (.type "list") (Hc K):=by subst hK;exact Fy
theorem Cr (hK:X.K=K:=by rfl):IxR X (MU K):=by subst hK;exact KZ
theorem OW (hK:X.K=K:=by rfl):OpR X (compareOp .In) (rIn K false):=by subst hK;exact HD
theorem KO (hK:X.K=K:=by rfl):OpR X (compareOp .NotIn) (rIn K true):=by subst hK;exact Fn
theorem BI (hK:X.K=K:=by rfl):OpR X (binaryOp .Add) (F0 K):=by subst hK;exact KI
theorem GX (hu:X.A.units<cLine) (hK:X.K=K:=by rfl):OpR X (compareOp .Eq) (Hy K false):=by subst hK;exact LZ hu
theorem GZ (hu:X.A.units<cLine) (hK:X.K=K:=by rfl):OpR X (compareOp .NotEq) (Hy K true):=by subst hK;exact Nk hu
theorem Dz (hK:X.K=K:=by rfl):SlR X (M7 K):=by subst hK;exact Kj
theorem Hf {tg l:Expr} {tl:TE} (hl:PE X l tl) (hK:X.K=K:=by rfl):PI X tg l (Jg K tl):=by subst hK;exact Ky hl
end
section
variable {X:Cx} {pins:List (Addr × Obj)} {σ:St} {H:Hp} {s:Shared} {h':Heap}
theorem Inv.turnedL {t':Nat} (ch:List Addr) (I:Inv X pins σ H s) (hf:∀ b∈ch,CO X pins H b) (k:∀ b o,b∉ch->s.heap.get? b=some o->h'.get? b=some o):Inv X pins σ H { s with heap:=h',toks:=t' }:=by
  have nit:∀ b u,H b=some u->b∉ch:=λ b u e z=>by rw [(hf b z).1] at e;cases e
  refine I.step (g':=s.gens) (d':=s.drawn) (ch:=ch) (λ b hb=> ?_) (λ b o _ _ hc e _=>k b o hc e) (λ b o _ _ hc e _=>⟨o.slots,k b o hc e⟩) (λ _ _ _ _ n=>n)
    (λ b o hc e=>⟨o,k b o hc e⟩) (λ _ _ e=>e) (λ _ _ _ e=>e) (λ b ps e=>⟨#[],by rw [e];simp⟩) (λ m hm=> ?_) (λ b u e=> ?_) I.bare
  · obtain ⟨f0,f1,f2,f3,f4,f5⟩:=hf b hb;exact ⟨f3,f1,f4,f5⟩
  · obtain ⟨o,es,ep,ho,r⟩:=hm;exact ⟨o,es,ep,k _ o (λ z=>(hf _ z).2.1 rfl) ho,r⟩
  · refine (I.hok b u e).stay (λ c v hc q=>k c v ?_ q) (λ _ q=>q) λ _ _ q=>q;rcases hc with z | z
    · rw [z];exact nit b u e
    · exact nit c _ z
end
theorem M8 {X:Cx} {pins:List (Addr × Obj)} {H:Hp} {b p:Addr} {o:HO} (h:CO X pins H b) (n:b≠p):CO X pins (upd H p o) b:=⟨by rw [Ai n];exact h.1,h.2⟩
section
variable {X:Cx} {elts:List Expr} {k:Nat} {tpos:Pos} {K:PySem.W.Frag}
theorem Il:bootBuiltins "enumerate"=some (.type "enumerate"):=by decide +kernel
end
section
variable {X:Cx} {elts:List Expr} {k:Nat} {tpos:Pos} {K:PySem.W.Frag}
end
def Bw (tp:Bool) (h:Heap) (it l:Addr) (i:Nat):Prop:=if tp=true then h.IsTupleIter it l i else h.IsListIter it l i
def Dw (tp:Bool) (h:Heap) (l:Addr) (xs:Array Value):Prop:=if tp=true then h.IsTuple l xs else h.IsList l xs
theorem A7 {tp:Bool} {h h':Heap} {it l:Addr} {i:Nat} (x:Bw tp h it l i) (k:∀ o,h.get? it=some o->h'.get? it=some o):Bw tp h' it l i:=by
  cases tp with
  | false=>obtain ⟨o,e,r⟩:=(show h.IsListIter it l i from x);exact (show h'.IsListIter it l i from ⟨o,k o e,r⟩)
  | true=>obtain ⟨o,e,r⟩:=(show h.IsTupleIter it l i from x);exact (show h'.IsTupleIter it l i from ⟨o,k o e,r⟩)
theorem F3 {tp:Bool} {h h':Heap} {l:Addr} {xs:Array Value} (x:Dw tp h l xs) (k:∀ o,h.get? l=some o->h'.get? l=some o):Dw tp h' l xs:=by
  cases tp with
  | false=>obtain ⟨o,e,r⟩:=(show h.IsList l xs from x);exact (show h'.IsList l xs from ⟨o,k o e,r⟩)
  | true=>obtain ⟨o,e,r⟩:=(show h.IsTuple l xs from x);exact (show h'.IsTuple l xs from ⟨o,k o e,r⟩)
theorem Cy {tp:Bool} {h:Heap} {it l:Addr} {i:Nat} (x:Bw tp h it l i):∃ o,h.get? it=some o/\o.data= .fields #[.ref l, .int i 0]:=by
  cases tp with
  | false=>obtain ⟨o,e,_,d⟩:=(show h.IsListIter it l i from x);exact ⟨o,e,d⟩
  | true=>obtain ⟨o,e,_,d⟩:=(show h.IsTupleIter it l i from x);exact ⟨o,e,d⟩
theorem E3 {tp:Bool} {h:Heap} {l:Addr} {xs:Array Value} (x:Dw tp h l xs):∃ o n,h.get? l=some o/\o.data= .seq xs n:=by
  cases tp with
  | false=>obtain ⟨o,e,_,n,d⟩:=(show h.IsList l xs from x);exact ⟨o,n,e,d⟩
  | true=>obtain ⟨o,e,_,n,d⟩:=(show h.IsTuple l xs from x);exact ⟨o,n,e,d⟩
section
variable {prog:Program} {w:World} {A:Around} {E:Value->Shared->Prop} {s:Shared}
theorem Jq {tp:Bool} {it l:Addr} {i:Nat} {xs:Array Value} {x:Value} {Q:Value->Shared->Prop} (ht:Bw tp s.heap it l i) (hq:Dw tp s.heap l xs) (hx:xs[i]?=some x)
    (k:∀ h',Bw tp h' it l (i+1)->Heap.SameBut it s.heap h'->Q x { s with heap:=h' }):wpAny (model prog w) A (Builtin.SmallTypes.nextOf (.ref it)) Q E s:=by
  cases tp with
  | false=>exact wpAny_nextOf_list_item (show s.heap.IsListIter it l i from ht) (show s.heap.IsList l xs from hq) hx k
  | true=>
    have ht:s.heap.IsTupleIter it l i:=ht;obtain ⟨ob,eb,cb,db⟩:=id ht;obtain ⟨ol,el,_,nl,dl⟩:=(show s.heap.IsTuple l xs from hq);unfold Builtin.SmallTypes.nextOf;refine wpAny_bind (wpAny_callSpecial?_slot (name:=Str.ofString "__next__") ht.typeIs F.slot_tuple_iterator_next (wpAny_call_entry F.slot_tuple_iterator_next ht.typeIs F.entry_tuple_iterator_next ?_ (F.args_tuple_iterator_next_1 _)));show wpAny _ _ (field (.ref it) 0 >>= _) _ _ s;refine wpAny_bind (wpAny_field eb db (x:= .ref l) rfl ?_);show wpAny _ _ (if (Value.ref l == Value.none)=true then _ else _) _ _ s;rw [if_neg (show ¬ ((Value.ref l == Value.none)=true) from Bool.false_ne_true)];show wpAny _ _ (field (.ref it) 1 >>= _) _ _ s;refine wpAny_bind (wpAny_field eb db (x:= .int i 0) rfl ?_);show wpAny _ _ (seqItems? (.ref l) >>= _) _ _ s;refine wpAny_bind (wpAny_seqItems el dl ?_);simp only [Int.toNat_natCast,hx];refine wpAny_bind (wpAny_setField eb db (by simp) (wpAny_pure ⟨x,rfl,wpAny_pure (k _ ?_ (Heap.SameBut.update ..))⟩));exact (show Heap.IsTupleIter _ it l (i+1) from ⟨_,Heap.get?_update_self _ eb (Obj.isFreed_of_fields (Obj.data_mapFields db _)),(Obj.cls_mapFields ..).trans cb,by rw [Obj.data_mapFields db];simp [rawInt]⟩)
theorem GY {tp:Bool} {it l:Addr} {i:Nat} {xs:Array Value} {Q:Value->Shared->Prop} (hh:A.handled=none) (ht:Bw tp s.heap it l i) (hq:Dw tp s.heap l xs) (hx:xs[i]?=none)
    (k:∀ h' e,Heap.ExtBut it s.heap h'->(∃ o,h'.get? e=some o/\o.cls= .type "StopIteration")->E (.ref e) { s with heap:=h' }):wpAny (model prog w) A (Builtin.SmallTypes.nextOf (.ref it)) Q E s:=by
  cases tp with
  | false=>exact wpAny_nextOf_list_end hh (show s.heap.IsListIter it l i from ht) (show s.heap.IsList l xs from hq) hx k
  | true=>
    have ht:s.heap.IsTupleIter it l i:=ht;obtain ⟨ob,eb,cb,db⟩:=id ht;obtain ⟨ol,el,_,nl,dl⟩:=(show s.heap.IsTuple l xs from hq);unfold Builtin.SmallTypes.nextOf;refine wpAny_bind (wpAny_callSpecial?_slot (name:=Str.ofString "__next__") ht.typeIs F.slot_tuple_iterator_next (wpAny_call_entry F.slot_tuple_iterator_next ht.typeIs F.entry_tuple_iterator_next ?_ (F.args_tuple_iterator_next_1 _)));show wpAny _ _ (field (.ref it) 0 >>= _) _ _ s;refine wpAny_bind (wpAny_field eb db (x:= .ref l) rfl ?_);show wpAny _ _ (if (Value.ref l == Value.none)=true then _ else _) _ _ s;rw [if_neg (show ¬ ((Value.ref l == Value.none)=true) from Bool.false_ne_true)];show wpAny _ _ (field (.ref it) 1 >>= _) _ _ s;refine wpAny_bind (wpAny_field eb db (x:= .int i 0) rfl ?_);show wpAny _ _ (seqItems? (.ref l) >>= _) _ _ s;refine wpAny_bind (wpAny_seqItems el dl ?_);simp only [Int.toNat_natCast,hx];refine wpAny_bind (wpAny_rule (wpAny_bind (wpAny_setField eb db (by simp) ?_)));show wpAny _ _ (newExc (.type "StopIteration") [] >>= _) _ _ _;refine wpAny_bind ?_;simp only [newExc,newTuple];refine wpAny_bind (wpAny_newObj_type ?_ (by size_fits));refine wpAny_bind (m:=firstArgMember _ _) (wpAny_of_eq (a:=Value.none) (by first | rfl | (simp only [firstArgMember];rfl)) ?_);refine wpAny_newObj_type ?_ (by size_fits);simp only [raiseNew];refine wpAny_bind (wpAny_handled ?_)
    first | rw [show A.in1.handled=none from hh] | rw [hh]
    exact wpAny_bind (wpAny_pure (wpAny_throw (k _ _ (((Heap.SameBut.update ..).extBut.push _).push _) ⟨_,Heap.get?_push_size _ rfl,rfl⟩)))
end
section
variable {prog:Program} {w:World} {A:Around} {E:Value->Shared->Prop} {s:Shared}
structure ZipSt (t1 t2:Bool) (h:Heap) (z TI TO i1 i2 l1 l2:Addr) (k:Nat):Prop where
  hz:IsZip h z TI TO .none
  hTI:IsPair h TI (.ref i1) (.ref i2)
  hTO:∃ c d,IsPair h TO c d
  h1:Bw t1 h i1 l1 k
  h2:Bw t2 h i2 l2 k
def Jm (tp:Bool):String:=if tp=true then "tuple_iterator" else "list_iterator"
theorem JJ {tp:Bool} {l:Addr} {xs:Array Value} {Q:Value->Shared->Prop} (hq:Dw tp s.heap l xs) (k:Q (.ref s.heap.objs.size) { s with heap:=s.heap.push { cls:= .type (Jm tp),data:= .fields #[.ref l, .int 0 0] } }):
    wpAny (model prog w) A (pyIter (.ref l)) Q E s:=by
  cases tp with
  | false=>exact wpAny_pyIter_list (show s.heap.IsList l xs from hq) k
  | true=>exact wpAny_pyIter_tuple (show s.heap.IsTuple l xs from hq) k
theorem HN {tp:Bool} {h:Heap} {l:Addr}:Bw tp (h.push { cls:= .type (Jm tp),data:= .fields #[.ref l, .int 0 0] }) h.objs.size l 0:=by
  cases tp with
  | false=>exact (show Heap.IsListIter _ _ l 0 from ⟨_,Heap.get?_push_size _ rfl,rfl,rfl⟩)
  | true=>exact (show Heap.IsTupleIter _ _ l 0 from ⟨_,Heap.get?_push_size _ rfl,rfl,rfl⟩)
end
def SqS (tp:Bool) (K:PySem.W.Frag) (H:Hp) (a:Addr) (xs:List V):Prop:=if tp=true then SqT K H a xs else SqL K H a xs
theorem FO {X:Cx} {pins:List (Addr × Obj)} {σ:St} {H:Hp} {s:Shared} {tp:Bool} {a:Addr} {xs:List V} (I:Inv X pins σ H s) (h:SqS tp X.K H a xs):∃ its:List Value,Vals xs its/\Dw tp s.heap a its.toArray:=by
  cases tp with
  | false=>
    obtain ⟨its,r,p,_⟩:=I.list (show SqL X.K H a xs from h);exact ⟨its,r,(show s.heap.IsList a its.toArray from p.isList)⟩
  | true=>
    obtain ⟨its,r,p,_⟩:=I.tuple (show SqT X.K H a xs from h);exact ⟨its,r,(show s.heap.IsTuple a its.toArray from p)⟩
theorem Lj {X:Cx} {pins:List (Addr × Obj)} {σ:St} {H:Hp} {s:Shared} {tp:Bool} {a:Addr} {xs ys:List V} (I:Inv X pins σ H s) (h:SqS tp X.K H a xs) (h2:SqS tp X.K H a ys):xs=ys:=by
  cases tp with
  | false=>exact I.list_inj h h2
  | true=>exact I.tuple_inj h h2
section
variable {X:Cx} {elts:List Expr} {k:Nat} {tpos:Pos} {K:PySem.W.Frag}
end
section
variable {X:Cx} {K:PySem.W.Frag}
theorem Bo:bootBuiltins "list"=some (.type "list"):=by decide +kernel
theorem Nc {es:List Expr} {k:Nat} {t:TGs} {n:Nat} {pos:Pos} (hc:X.calm=true) (h:PGs X es t) (hK:X.K=K:=by rfl)
    (hn:(assignEach es X.env).length=n:=by rfl) (hst:(assignEach es X.env).findIdx? (·.1)=none:=by rfl):PG X (.Tuple es k pos) (HI K n t):=by
  subst hK;exact JB hc h hn hst
variable {scope:Scope} {fr:List (Str × Nat)}
theorem Kq {x y:Str} {px py pt:Pos} {k:Nat} (h:C8 X.env.scope X.N scope [x,y] fr=true) (hc:X.calm=true) (C:Addr) (ex:List Addr) (s:Shared) (H:Hp) (hK:X.K=K:=by rfl):
    PG (AD X scope [x,y] fr C ex s H) (.Tuple [.Name x px, .Name y py] k pt) (HI K 2 (C0 (AC 0) (C0 (AC 1) J2))):=by
  subst hK;exact JB (X:=AD X scope [x,y] fr C ex s H) hc (Dg (FJ h rfl C ex s H) (Dg (FJ h rfl C ex s H) G8))
theorem J6 {elt iter:Expr} {x y:Str} {px py pt:Pos} {k:Nat} {ifs:List Expr} {pos:Pos} {wi:TI} {tc:TT} {te:TE} (hi:PI X (.Tuple [.Name x px, .Name y py] k pt) iter wi)
    (ht:∀ C ex s H,PTs (AD X scope [x,y] (DL X.N scope) C ex s H) ifs tc) (he:∀ C ex s H,PE (AD X scope [x,y] (DL X.N scope) C ex s H) elt te) (hK:X.K=K:=by rfl)
    (hb:C8 X.env.scope X.N scope [x,y] (DL X.N scope)=true:=by with_unfolding_all rfl) (hc:X.calm=true:=by rfl)
    (hs:∀ x,foldedSetIterable iter X.env x=pure x:=by intro _;rfl):PE X (.ListComp elt [⟨.Tuple [.Name x px, .Name y py] k pt,iter,ifs,0⟩] scope pos) (Fc wi [x,y] (DL X.N scope) (HI K 2 (C0 (AC 0) (C0 (AC 1) J2))) tc te):=
  Hh hc (.of hb) hi (λ C ex s H=>Kq hb hc C ex s H hK) ht he hs
end
section
variable {K:PySem.W.Frag} {D:Addr} {σ0:St} {tc:TT} {te:TE} {Q:VK} {H:Hp}
end
inductive Dt where
  | non | bl (b:Bool) | int (i:Int) | str (z:Str) | lst (xs:List Dt) | tup (xs:List Dt)
inductive Rp (H:Hp) (F:Addr->Prop):Nat->V->Dt->Prop where
  | non {n:Nat}:Rp H F n .non .non
  | bl {n:Nat} (b:Bool):Rp H F n (.bl b) (.bl b)
  | int {n:Nat} (i:Int):Rp H F n (.int i) (.int i)
  | str {n:Nat} (z:Str):Rp H F n (.str z) (.str z)
  | lst {n:Nat} {a:Addr} {vs:List V} {ds:List Dt} (h:H a=some (.lst vs)) (f:F a) (b:vs.length<=100000) (l:vs.length=ds.length) (e:∀ (i:Nat) (v:V) (d:Dt),vs[i]?=some v->ds[i]?=some d->Rp H F n v d):Rp H F (n+1) (.ref a) (.lst ds)
  | tup {n:Nat} {a:Addr} {vs:List V} {ds:List Dt} (h:H a=some (.tup vs)) (b:vs.length<=100000) (l:vs.length=ds.length) (e:∀ (i:Nat) (v:V) (d:Dt),vs[i]?=some v->ds[i]?=some d->Rp H F n v d):Rp H F (n+1) (.ref a) (.tup ds)
theorem Rp.mono {H H':Hp} {F F':Addr->Prop} {n:Nat} {v:V} {d:Dt} (r:Rp H F n v d) (k:∀ a o,H a=some o->(∀ xs,o= .lst xs->F a)->H' a=some o) (f:∀ a,F a->F' a):Rp H' F' n v d:=by
  induction r with
  | non=>exact .non
  | bl b=>exact .bl b
  | int i=>exact .int i
  | str z=>exact .str z
  | lst h p b l e ih=>exact .lst (k _ _ h λ _ _=>p) (f _ p) b l λ i v d h1 h2=>ih i v d h1 h2
  | tup h b l e ih=>exact .tup (k _ _ h λ xs q=>by cases q) b l λ i v d h1 h2=>ih i v d h1 h2
theorem Rp.same {H H':Hp} {F:Addr->Prop} {n:Nat} {v:V} {d:Dt} (r:Rp H F n v d) (s:Same H H'):Rp H' F n v d:=r.mono (λ a o h _=>s a o h) λ _ h=>h
theorem Rp.imp {H:Hp} {F F':Addr->Prop} {n:Nat} {v:V} {d:Dt} (r:Rp H F n v d) (f:∀ a,F a->F' a):Rp H F' n v d:=r.mono (λ a o h _=>h) f
theorem Rp.up {H:Hp} {F:Addr->Prop} {n m:Nat} {v:V} {d:Dt} (r:Rp H F n v d) (h:n<=m):Rp H F m v d:=by
  induction r generalizing m with
  | non=>exact .non
  | bl b=>exact .bl b
  | int i=>exact .int i
  | str z=>exact .str z
  | lst h p b l e ih=>
    cases m with
    | zero=>exact absurd h (by omega)
    | succ m=>exact .lst ‹_› p b l λ i v d h1 h2=>ih i v d h1 h2 (by omega)
  | tup h b l e ih=>
    cases m with
    | zero=>exact absurd h (by omega)
    | succ m=>exact .tup ‹_› b l λ i v d h1 h2=>ih i v d h1 h2 (by omega)
abbrev FT:Addr->Prop:=λ _=>True
abbrev FN (H:Hp):Addr->Prop:=λ a=>H a=none
section
variable {t u:TS} {D:Ends} {σ:St} {H:Hp} {te ta tb tk:TE} {tt tu:TT} {g:TG} {Q:VK} {QT:Bool->Hp->Prop} {QA:List V->Hp->Prop} {i:Nat} {v x y:V} {r:R2} {tr:TA} {K:PySem.W.Frag}
theorem Mn (h:t { D with nx:=u D } σ H):Oc t u D σ H:=h
theorem Kr (h:D.nx σ H):LP D σ H:=h
theorem Mu (h:te σ H λ x H1=>g x σ H1 D.nx):Le te g D σ H:=h
theorem KW {QS:St->Hp->Prop} (h:QS (σ.set i (some v)) H):AC i v σ H QS:=h
theorem Mz (e:σ[i]?=some (some v)) (h:Q v H):Ia i σ H Q:=⟨v,e,h⟩
theorem Qu (h:Q v H):tC v σ H Q:=h
theorem NN (h:ta σ H λ x H1=>tb σ H1 λ y H2=>r x y H2 Q):tOp r ta tb σ H Q:=h
theorem PJ {ru:V->Hp->VK->Prop} (h:ta σ H λ x H1=>ru x H1 Q):tUn ru ta σ H Q:=h
theorem AH {C:Int->Int->Prop} {gg:Int->Int->V} {a b:Int} (c:C a b) (h:Q (gg a b) H):rI C gg (.int a) (.int b) H Q:=⟨a,b,rfl,rfl,c,h⟩
theorem MX {gg:Int->Int->V} {a b:Int} (h:Q (gg a b) H):rI0 gg (.int a) (.int b) H Q:=⟨a,b,rfl,rfl,h⟩
theorem PL {gg:Int->V} {a:Int} (h:Q (gg a) H):rU gg (.int a) H Q:=⟨a,rfl,h⟩
theorem Ng {a b:Int} (h:Q (.bl (decide (a=b))) H):rEq (.int a) (.int b) H Q:=⟨rfl,by rw [show decide (V.int a=V.int b)=decide (a=b) by rw [Bool.eq_iff_iff];simp];exact h⟩
theorem Mh {a b:Str} (h:Q (.bl (decide (a=b))) H):rEq (.str a) (.str b) H Q:=⟨rfl,by rw [show decide (V.str a=V.str b)=decide (a=b) by rw [Bool.eq_iff_iff];simp];exact h⟩
theorem MH {a b:Str} (h:Q (.bl (!decide (a=b))) H):rNe (.str a) (.str b) H Q:=⟨rfl,by rw [show decide (V.str a=V.str b)=decide (a=b) by rw [Bool.eq_iff_iff];simp];exact h⟩
theorem Me {a b:Bool} (h:Q (.bl (!decide (a=b))) H):rNe (.bl a) (.bl b) H Q:=⟨rfl,by rw [show decide (V.bl a=V.bl b)=decide (a=b) by rw [Bool.eq_iff_iff];simp];exact h⟩
theorem Mt (h:tt σ H λ c H1=>QT (!c) H1):Ph tt σ H QT:=h
theorem Kg (h:te σ H λ x H'=>∃ k,x= .bl k/\QT k H'):Jk te σ H QT:=h
theorem OJ (h:te σ H λ x H'=>∃ k,x= .bl k/\QT k H'):tB te σ H QT:=h
theorem NE {b:Bool} {R:Bool->Prop} (h:R b):∃ k,V.bl b= .bl k/\R k:=⟨b,rfl,h⟩
theorem PX (h:tt σ H λ c H1=>if c=true then QT true H1 else tu σ H1 QT):tOr tt tu σ H QT:=h
theorem MG (h:tt σ H λ c H1=>if c=true then tu σ H1 QT else QT false H1):O0 tt tu σ H QT:=h
theorem KG (h:ta σ H λ x H1=>∃ c,x= .bl c/\if c=true then tb σ H1 Q else Q (.bl false) H1):Lx ta tb σ H Q:=h
theorem K9 (h:ta σ H λ x H1=>∃ c,x= .bl c/\Q (.bl (!c)) H1):LB ta σ H Q:=h
theorem L4 (h:tt σ H λ b H1=>if b=true then t D σ H1 else u D σ H1):Hr tt t u D σ H:=h
theorem O8 (h:tt σ H λ c H1=>if c=true then ta σ H1 Q else tb σ H1 Q):tIf tt ta tb σ H Q:=h
theorem MD (h:te σ H D.rt):ML te D σ H:=h
theorem Lf (h:te σ H λ _ H1=>D.nx σ H1):Lz te D σ H:=h
theorem Md (h:QA [] H):Kd σ H QA:=h
theorem KR (h:te σ H λ x H1=>tr σ H1 λ xs H2=>QA (x::xs) H2):Gb te tr σ H QA:=h
theorem Mr (h:tr σ H λ xs H1=>xs.length<=sizeLine/\∀ p,H1 p=none->Q (.ref p) (upd H1 p (.lst xs))):Mp tr σ H Q:=h
theorem Na (h:tr σ H λ xs H1=>xs.length<=sizeLine/\∀ p,H1 p=none->Q (.ref p) (upd H1 p (.tup xs))):N3 tr σ H Q:=h
theorem OA {rr:List V->Hp->VK->Prop} (h:tr σ H λ vs H1=>rr vs H1 Q):tCB rr tr σ H Q:=h
theorem Lk {sp:Sp} {E:XK} (h:tr σ H λ vs H1=>sp vs H1 Q E):G5 sp [] E tr σ H Q:=by
  unfold G5;simpa using h
theorem NF {rs:V->Option Int->Option Int->Hp->VK->Prop} {tl th:TO} (h:te σ H λ x H1=>tl σ H1 λ l H2=>th σ H2 λ u H3=>rs x l u H3 Q):tSl rs te tl th σ H Q:=h
theorem KH {QO:Option Int->Hp->Prop} (h:te σ H λ x H1=>∃ i,x= .int i/\QO (some i) H1):Lv te σ H QO:=h
theorem HC {QO:Option Int->Hp->Prop} (h:QO none H):G1 σ H QO:=h
theorem Nb {a:Int} {R:Int->Prop} (h:R a):∃ k,V.int a= .int k/\R k:=⟨a,rfl,h⟩
theorem FI {z:Str} {lo hi:Option Int} (c:z.length<=sizeLine) (h:Q (.str (Txt.slice z lo hi)) H):Qa (.str z) lo hi H Q:=⟨z,rfl,c,h⟩
theorem Ck {p:Addr} {xs:List V} {lo hi:Option Int} (c:SqL K H p xs) (h:∀ q,H q=none->Q (.ref q) (upd H q (.lst (Dv xs lo hi)))):M7 K (.ref p) lo hi H Q:=⟨p,xs,rfl,c,h⟩
theorem Bx {z:Str} (c:z.length<=sizeLine) (h:Q (.int z.length) H):Ki K [.str z] H Q:=⟨_,_,rfl,⟨c,rfl⟩,h⟩
theorem AI {p:Addr} {xs:List V} (c:SqL K H p xs) (h:Q (.int xs.length) H):Ki K [.ref p] H Q:=⟨_,_,rfl, .inl ⟨xs,c,rfl⟩,h⟩
theorem MZ {p:Addr} {ns:List Int} (c:SqL K H p (ns.map V.int)) (h:Q (.int ns.sum) H):Ny K [.ref p] H Q:=⟨p,ns,rfl,c,h⟩
theorem Nh {p:Addr} {bs:List Bool} (c:SqL K H p (bs.map V.bl)) (h:Q (.bl (bs.all id)) H):Oj K [.ref p] H Q:=⟨p,bs,rfl,c,h⟩
theorem A2 {n:String} {ty:Value} {b:Bool} (c:TyOf K H x ty) (e:PySem.W.kitOne K ty (.type n)=some b) (h:Q (.bl b) H):LL K [x, .ty n] H Q:=⟨x,n,ty,b,rfl,c,e,h⟩
theorem Bm {p:Addr} {xs:List V} {k:Int} (c:SqL K H p xs) (e:atI xs k=some v) (h:Q v H):MU K (.ref p) (.int k) H Q:=⟨p,xs,k,v,rfl,rfl,c,e,h⟩
theorem Es {z:Str} {k:Int} {c:Nat} (l:z.length<=sizeLine) (e:atI z.cps.toList k=some c) (h:Q (.str ⟨#[c]⟩) H):Om (.str z) (.int k) H Q:=⟨z,k,c,rfl,rfl,l,e,h⟩
theorem Mf {xs:List V} {B:Prop} (c:xs.length<=1000) (h:B):xs.length<=sizeLine/\B:=⟨Nat.le_trans c (by decide),h⟩
end
theorem AJ {p A B:Prop} [Decidable p] (h1:p->A) (h2:¬ p->B):if decide p=true then A else B:=by
  by_cases h:p
  · rw [if_pos (decide_eq_true h)];exact h1 h
  · rw [if_neg (λ q=>h (of_decide_eq_true q))];exact h2 h
theorem CZ {p A B:Prop} [Decidable p] (h1:¬ p->A) (h2:p->B):if (!decide p)=true then A else B:=by
  by_cases h:p
  · rw [decide_eq_true h];exact GK (h2 h)
  · rw [decide_eq_false h];exact IU (h1 h)
theorem Ga {b:Bool} {A B:Prop} (h1:b=true->A) (h2:b=false->B):if b=true then A else B:=by
  cases b with
  | true=>exact IU (h1 rfl)
  | false=>exact GK (h2 rfl)
def Po:Dt->Bool | .lst _=>true | _=>false
def LQ:Dt->Bool | .tup _=>true | _=>false
def JL:Dt->List Dt | .lst ds=>ds | .tup ds=>ds | _=>[]
theorem Rp.seq {K:PySem.W.Frag} {H:Hp} {F:Addr->Prop} {n:Nat} {v:V} {d:Dt} (r:Rp H F n v d) (h:(Po d||LQ d)=true):
    ∃ m a vs,n=m+1/\v= .ref a/\SqS (LQ d) K H a vs/\vs.length=(JL d).length/\vs.length<=100000/\∀ (i:Nat) (x:V) (e:Dt),vs[i]?=some x->(JL d)[i]?=some e->Rp H F m x e:=by
  cases r with
  | @lst m a vs ds q f b l e=>exact ⟨m,a,vs,rfl,rfl,(show SqL K H a vs from SqL.of q),l,b,e⟩
  | @tup m a vs ds q b l e=>exact ⟨m,a,vs,rfl,rfl,(show SqT K H a vs from SqT.of q),l,b,e⟩
  | non=>cases h
  | bl _=>cases h
  | int _=>cases h
  | str _=>cases h
theorem SqS.same {K:PySem.W.Frag} {H H':Hp} {tp:Bool} {p:Addr} {xs:List V} (c:SqS tp K H p xs) (s:Same H H'):SqS tp K H' p xs:=by
  cases tp with
  | false=>exact (show SqL K H' p xs from s.seq c)
  | true=>
    rcases (show SqT K H p xs from c) with (q | ⟨o,q⟩) | q
    · exact (show SqT K H' p xs from .inl (.inl (s _ _ q)))
    · exact (show SqT K H' p xs from .inl (.inr ⟨o,s _ _ q⟩))
    · exact (show SqT K H' p xs from .inr q)
theorem Ae {H:Hp} {p:Addr} {o:HO} (h:H p=none):Same H (upd H p o):=λ b u e=>by rw [Ai (AU e h)];exact e
theorem BK {H H':Hp} {D:Addr} {o:HO} (s:Same H H') (h:H D=none):Same H (upd H' D o):=λ b u e=>by rw [Ai (AU e h)];exact s b u e
structure SrcOk (J:It) (g:TG) (σ0:St) (H:Hp) (n:Nat) (st:Nat->St):Prop where
  go:∀ i H',i<n->Same H H'->J.go i H'
  stop:∀ H',Same H H'->J.stop n H'
  yld:∀ i H' x H'' (R:St->Hp->Prop),i<n->Same H H'->J.yld i H' x H''->(∀ H3,Same H' H3->R (st i) H3)->g x σ0 H'' R
  kp:∀ i,i<n->Kp σ0 (st i)
section
variable {J:It} {g:TG} {σ0:St} {H:Hp} {n:Nat} {st:Nat->St} {tc:TT} {te:TE} {Q:VK} {D:Addr}
theorem Rp.off {H:Hp} {F:Addr->Prop} {m:Nat} {v:V} {d:Dt} {D:Addr} {xs:List V} {o:HO} (r:Rp H F m v d) (hD:H D=some (.lst xs)) (hF:¬ F D):Rp (L2.upd H D o) F m v d:=by
  refine r.mono (λ a u e q=> ?_) λ _ h=>h;have n:a≠D:=λ z=>by
    subst z;rw [hD] at e;cases e;exact hF (q _ rfl)
  rw [Ai n];exact e
theorem EU {m:Nat} {p:Nat->Bool} {G:Nat->Dt} (S:SrcOk J g σ0 H n st) (hD:H D=none) (hn:n<=100000)
    (ht:∀ i H' (R:Bool->Hp->Prop),i<n->Same H H'->(∀ H3,Same H' H3->R (p i) H3)->tc (st i) H' R)
    (he:∀ i H' (R:VK),i<n->p i=true->Same H H'->(∀ H3 y,Same H' H3->Rp H3 (FN H') m y (G i)->R y H3)->te (st i) H' R)
    (hd:∀ H' ys,Same H H'->H' D=some (.lst ys)->Rp H' (FN H) (m+1) (.ref D) (.lst (((List.range n).filter p).map G))->Q (.ref D) H'):
    DC J σ0 g tc te Q H D:=by
  refine ⟨λ i k ys H'=>k=n - i/\i<=n/\Same H H'/\H' D=some (.lst ys)/\ys.length=(((List.range i).filter p).map G).length/\∀ (j:Nat) (y:V) (d:Dt),ys[j]?=some y->(((List.range i).filter p).map G)[j]?=some d->Rp H' (λ a=>H a=none/\a≠D) m y d,
    ⟨_,rfl,Nat.zero_le _,BK (Same.refl _) hD,Ab,rfl,λ j y d q=>by simp at q⟩,?_⟩
  rintro i k ys H1 ⟨rfl,hi,s1,hl,len,el⟩;have bnd:∀ i,(((List.range i).filter p).map G).length<=i:=λ i=>by
    rw [List.length_map];exact Nat.le_trans (List.length_filter_le _ _) (by simp)
  by_cases hlt:i<n
  · refine .inr ⟨S.go i H1 hlt s1,λ ys' H'=>Same H H'/\H' D=some (.lst ys')/\ys'.length=(((List.range (i+1)).filter p).map G).length/\∀ (j:Nat) (y:V) (d:Dt),ys'[j]?=some y->(((List.range (i+1)).filter p).map G)[j]?=some d->Rp H' (λ a=>H a=none/\a≠D) m y d,
      λ ys' H' q=>⟨n - (i+1),by omega,rfl,hlt,q⟩,λ x H2 y=> ?_⟩
    refine S.yld i H1 x H2 _ hlt s1 y λ H3 s3=>⟨S.kp i hlt,?_⟩;refine ht i H3 _ hlt (s1.trans s3) λ H4 s4=> ?_;have hl4:H4 D=some (.lst ys):=s4 _ _ (s3 _ _ hl);have s14:Same H H4:=s1.trans (s3.trans s4);cases hp:p i with
    | false=>
      refine GK ⟨s14,hl4,?_,?_⟩
      · rw [List.range_succ,List.filter_append,List.filter_cons,hp];simpa using len
      · intro j y d h1 h2;have e:((List.range (i+1)).filter p).map G=((List.range i).filter p).map G:=by
          rw [List.range_succ,List.filter_append,List.filter_cons,hp];simp
        rw [e] at h2;exact (el j y d h1 h2).same (s3.trans s4)
    | true=>
      refine IU ?_;refine he i H4 _ hlt hp s14 λ H5 y s5 ry=> ?_;have hl5:H5 D=some (.lst ys):=s5 _ _ hl4;have e:((List.range (i+1)).filter p).map G=((List.range i).filter p).map G++[G i]:=by
        rw [List.range_succ,List.filter_append,List.filter_cons,hp];simp
      refine ⟨hl5,?_,?_,Ab,?_,?_⟩
      · have:=bnd i;exact Nat.lt_of_le_of_lt (by omega:ys.length<=100000) (by decide)
      · exact BK (s14.trans s5) hD
      · rw [e,List.length_append,List.length_append,len];rfl
      · intro j z d h1 h2;rw [e] at h2;have nF:¬ (H D=none/\D≠D):=λ q=>q.2 rfl;by_cases hj:j<ys.length
        · rw [List.getElem?_append_left hj] at h1;rw [List.getElem?_append_left (by omega)] at h2;exact ((el j z d h1 h2).same (s3.trans (s4.trans s5))).off hl5 nF
        · have ej:j=ys.length:=by
            have:=(List.getElem?_eq_some_iff.mp h1).1;rw [List.length_append] at this;have:([y]:List V).length=1:=rfl;omega
          subst ej;rw [List.getElem?_append_right (Nat.le_refl _),Nat.sub_self] at h1;rw [len,List.getElem?_append_right (Nat.le_refl _),Nat.sub_self] at h2;cases h1;cases h2;refine (ry.imp (F':=λ a=>H a=none/\a≠D) λ a ha=>⟨s14.free ha,λ q=> ?_⟩).off hl5 nF;subst q;rw [show H4 a=none from ha] at hl4;cases hl4
  · have e:i=n:=by omega
    subst e;refine .inl ⟨S.stop H1 s1,hd H1 ys s1 hl (.lst hl hD ?_ len λ j y d h1 h2=>(el j y d h1 h2).imp λ a q=>q.1)⟩;have:=bnd i;omega
theorem ID {m:Nat} {G:Nat->Dt} (S:SrcOk J g σ0 H n st) (hD:H D=none) (hn:n<=100000)
    (he:∀ i H' (R:VK),i<n->Same H H'->(∀ H3 y,Same H' H3->Rp H3 (FN H') m y (G i)->R y H3)->te (st i) H' R)
    (hd:∀ H' ys,Same H H'->H' D=some (.lst ys)->Rp H' (FN H) (m+1) (.ref D) (.lst ((List.range n).map G))->Q (.ref D) H'):
    DC J σ0 g MR te Q H D:=by
  refine EU (p:=λ _=>true) (m:=m) (G:=G) S hD hn (λ i H' R _ _ k=>k H' (Same.refl _)) (λ i H' R hi _ s k=>he i H' R hi s k) λ H' ys s hl r=>hd H' ys s hl ?_;have e:(List.range n).filter (λ _=>true)=List.range n:=by simp
  rw [e] at r;exact r
variable {K:PySem.W.Frag} {a b:Addr} {xs zs:List V}
theorem Lr {z:Str} (h0:σ0[0]?=some none):SrcOk (Its z) (AC 0) σ0 H z.cps.size (λ i=>σ0.set 0 (some (.str ⟨#[z.cps.toList.getD i 0]⟩))) where
  go:=λ i H' hi s=>hi
  stop:=λ H' s=>Nat.le_refl _
  yld:=λ i H' x H'' R hi s y k=>by
    obtain ⟨e,c,hc,hv⟩:=y;subst e hv;have e:c=z.cps.toList.getD i 0:=by
      rw [List.getD_eq_getElem?_getD,show z.cps.toList[i]?=some c by simpa using hc];rfl
    rw [e];exact k _ (Same.refl _)
  kp:=λ i hi=>(Kp.refl _).set h0
end
section
variable {X:Cx} {tg:Expr}
def NM:List V->Hp->VK->Prop:=λ xs H Q=>∃ b:Bool,xs=[.bl b]/\Q (.int (if b=true then 1 else 0)) H
end
theorem MI {X:Cx}:Ba X (.type "int") NM:=by
  intro pins s σ H xs us Q I r h;obtain ⟨b,rfl,q⟩:=h;exact HK pins s σ H _ us Q I r (.inr ⟨b,rfl,q⟩)
section
variable {X:Cx} {K:PySem.W.Frag} {e st:Expr} {te ts:TE} {pos p2:Pos}
end
end L2
namespace MM
end MM
namespace L2
open PySem PySem.Spec PyProof.Rows
section
variable {X:Cx}
theorem IG {x:Str} {i:Int} {pos:Pos} (h:∃ t,X.mg x=some (.int i t)) (hg:Gl X x:=by rfl) (hd:(x == ("__debug__":Str))=false:=by decide):PE X (.Name x pos) (tC (.int i)):=by
  obtain ⟨t,e⟩:=h;exact Fq hg e ⟨t,rfl⟩ hd
theorem Ff {x z:Str} {pos:Pos} (h:∃ t,X.mg x=some (.str z t)) (hg:Gl X x:=by rfl) (hd:(x == ("__debug__":Str))=false:=by decide):PE X (.Name x pos) (tC (.str z)):=by
  obtain ⟨t,e⟩:=h;exact Fq hg e ⟨t,rfl⟩ hd
end
section
variable {H:Hp} {Q:VK} {σ:St} {td ty tv:TE} {D:Ends} {a:Addr} {kvs:List (Key × V)}
theorem KU (h:td σ H λ x H1=>ty σ H1 λ y H2=>∃ a v,x= .ref a/\DGet H2 a y (some v)/\Q v H2):LI td ty σ H Q:=h
theorem Lp (h:tv σ H λ v H1=>td σ H1 λ x H2=>ty σ H2 λ y H3=>∃ a H4,x= .ref a/\DPut H3 a y v H4/\D.nx σ H4):LG td ty tv D σ H:=h
theorem Ko {trs:List (TE × TE)} (h:∀ p,H p=none->CQ trs σ (upd H p (.dK [])) λ ps H2=>H2 p=some (.dK [])/\∃ kvs:List (Key × V),ps=kvs.map (λ kv=>(kV kv.1,kv.2))/\kvs.length<=15/\Q (.ref p) (upd H2 p (.dK (Du [] kvs)))):LK trs σ H Q:=h
theorem Kz {R:List (V × V)->Hp->Prop} (h:R [] H):CQ [] σ H R:=h
theorem IP {tk tw:TE} {r:List (TE × TE)} {R:List (V × V)->Hp->Prop} (h:tk σ H λ x H1=>tw σ H1 λ y H2=>CQ r σ H2 λ ps H3=>R ((x,y)::ps) H3):CQ ((tk,tw)::r) σ H R:=h
end
theorem Room.units1 {k:Nat} {A:Around} (r:Room k A):A.units+1<cLine:=by have:=r.un;omega
section
variable {H:Hp} {Q:VK} {σ:St} {K:PySem.W.Frag} {to:TE} {t:TA} {r:V->List V->Hp->VK->Prop} {T:String} {l p q:Addr} {xs ys:List V} {y:V}
theorem Ma (h:to σ H λ x H1=>tyV K T x H1/\r x [] H1 Q):M4 K T r to σ H Q:=h
theorem OK (h:to σ H λ x H1=>tyV K T x H1/\t σ H1 λ xs H2=>r x xs H2 Q):tBM K T r to t σ H Q:=h
theorem tyL {B:Prop} (c:SqL K H l xs) (h:B):tyV K "list" (.ref l) H/\B:=⟨.inl ⟨rfl,xs,c⟩,h⟩
theorem AV (c:H l=some (.lst xs)) (b:xs.length<16777216) (h:Q .non (upd H l (.lst (xs++[y])))):rAppend (.ref l) [y] H Q:=⟨l,xs,y,rfl,rfl,c,by rw [sizeLine_eq];exact b,h⟩
theorem Mc (c:H l=some (.lst xs)) (d:H p=some (.lst ys)) (b:xs.length+ys.length<=16777216) (h:Q .non (upd H l (.lst (xs++ys)))):rExtend (.ref l) [.ref p] H Q:=⟨l,p,xs,ys,rfl,rfl,c,d,by rw [sizeLine_eq];exact b,h⟩
theorem BD (c:SqL K H l xs) (d:SqL K H p ys) (b:xs.length+ys.length<=16777216) (h:∀ q,H q=none->Q (.ref q) (upd H q (.lst (xs++ys)))):F0 K (.ref l) (.ref p) H Q:=⟨l,p,xs,ys,rfl,rfl,c,d,by rw [sizeLine_eq];exact b,h⟩
theorem Fp {k:Int} (c:H l=some (.lst xs)) (b1:0<=k) (b2:k<=100000) (b3:xs.length<=100) (h:∀ q,H q=none->Q (.ref q) (upd H q (.lst (List.replicate k.toNat xs).flatten))):My (.ref l) (.int k) H Q:=
  ⟨l,k,xs,rfl,rfl,c,by omega,by omega,by
    rw [sizeLine_eq];have h1:k.toNat<=100000:=by omega
    exact Nat.le_trans (Nat.mul_le_mul b3 h1) (by decide),h⟩
theorem HE {z:Addr} (c:SqL K H z xs) (h:∀ q,H q=none->Q (.ref q) (upd H q (.lst xs))):Hc K [.ref z] H Q:=⟨z,xs,rfl, .inl c,h⟩
end
end L2
namespace L2
open PySem
open Sem (wp)
open AutoSeq1 (wpAny_loadPart')
section
variable {prog:Program} {w:World} {A:Around} {E:Value->Shared->Prop} {s:Shared}
theorem Gh {T newId:String} {Bn:Builtin} {v:Value} {x:Str} {u:Value} {Q:Value->Shared->Prop} (ft:TypeCalled T newId "object.__init__") (hne:(some newId != some "object.__new__")=true)
    (hct:checkTypeCall T ⟨[v],[(x,u)]⟩=pure ()) (hcn:checkBuiltinCall newId ⟨[.type T,v],[(x,u)]⟩=pure ()) (hok:∀ obj,argsOk "object.__init__" ⟨[obj,v],[(x,u)]⟩) (entryN:entryFor table newId=some Bn)
    (g:wpAny (model prog w) A.in1.in1 (Bn ⟨[.type T,v],[(x,u)]⟩) (λ fin s1=>∃ obj,fin= .done (.ret obj)/\s1.TypeIs obj T/\Q obj s1) E s):wpAny (model prog w) A (call (.type T) [v] [(x,u)]) Q E s:=by
  obtain ⟨c,tl,hmro⟩:=ft.mro;have hmade:=ft.made;have hsub:=ft.sub;refine wpAny_call (codeAny_of_tree ?_);show wpAny _ _ (callAny (.type T) _) _ _ _;refine wpAny_pure ⟨Code.quiet_builtin _ (by decide +kernel),codeAny_builtin F.entry_type_call ?_⟩;rw [Around.under_plain (weight_type_call_type T [v] [(x,u)]) (units_type_call_type T [v] [(x,u)])];have h1:=ft.notType;have h2:=ft.canCreate
  repeat (any_goals (first | assumption | wp_step))
  refine codeAny_call_builtin ft.plain entryN (wpAny_of_eq hcn (wpAny_mono g (λ fin s1 q=> ?_) λ _ _ q=>q));obtain ⟨obj,rfl,hT,q⟩:=q;have hli:=ft.init.lookup;have hbi:=ft.init.bind obj;show wpAny _ _ _ _ _ _
  repeat (any_goals (first | assumption | wp_step))
  refine codeAny_call_builtin ft.init.plain F.entry_object_init (ft.init.check _ _ _ _ _ _ _ _ hT (hok obj) ?_)
  repeat (any_goals (first | assumption | wp_step))
  trace_state
theorem FV {v:Value} {t:Tok} {Q:Value->Shared->Prop}
    (h:wpAny (model prog w) A (pyIter v) (λ itv s1=>Q (.ref s1.heap.objs.size) { s1 with heap:=s1.heap.push { cls:= .type "enumerate",data:= .fields #[.none, .bool false,itv,rawInt 1, .none, .none] } }) E s):
    wpAny (model prog w) A (Builtin.«enumerate.__new__» ⟨[.type "enumerate",v],[("start", .int 1 t)]⟩) (λ fin s1=>∃ obj,fin= .done (.ret obj)/\Q obj s1) E s:=by
  have hsub:=sub_enumerate;have hit:∀ {R:Value->Shared->Prop},(∀ itv s1,Q (.ref s1.heap.objs.size) { s1 with heap:=s1.heap.push { cls:= .type "enumerate",data:= .fields #[.none, .bool false,itv,rawInt 1, .none, .none] } }->R itv s1)->wpAny (model prog w) A (pyIter v) R E s:=λ k=>wpAny_mono h k λ _ _ q=>q;unfold Builtin.«enumerate.__new__»
  wp_walk
  refine wpAny_stack_any λ st=>wpAny_pure ?_;split
  · rename_i c _ _ _ _ _
    cases (c == Value.type "enumerate")
    · wp_walk using hit
      intro itv s1 q
      wp_walk
      exact ⟨_,rfl,q⟩
    · wp_walk using hit
      intro itv s1 q
      wp_walk
      exact ⟨_,rfl,q⟩
  · wp_walk using hit
    intro itv s1 q
    wp_walk
    exact ⟨_,rfl,q⟩
theorem GM {v:Value} {t:Tok} {Q:Value->Shared->Prop}
    (h:wpAny (model prog w) A.in1.in1 (pyIter v) (λ itv s1=>∃ it,itv= .ref it/\∀ h',IsEnum h' s1.heap.objs.size it 1 .none->(∀ b o,s1.heap.get? b=some o->h'.get? b=some o)->h'.objs.size=s1.heap.objs.size+1->Q (.ref s1.heap.objs.size) { s1 with heap:=h' }) E s):
    wpAny (model prog w) A (call (.type "enumerate") [v] [("start", .int 1 t)]) Q E s:=by
  refine Gh F.called_enumerate (by decide) (by kernel_rfl) (by kernel_rfl) (λ obj=>by unfold argsOk;kernel_rfl) F.entry_enumerate_new (FV (wpAny_mono h (λ itv s1 q=> ?_) λ _ _ q=>q));obtain ⟨it,rfl,q⟩:=q;refine ⟨⟨_,Heap.get?_push_size _ rfl,rfl⟩,q _ (Heap.get?_push_size _ rfl) (λ b o e=>Heap.get?_push_of_some _ e) (Heap.size_push ..)⟩
end
theorem MA {prog:Program} {w:World} {A:Around} {it:Addr} {fp:List Addr} {n:Nat} {Pv:Nat->Value->Prop} {St:Nat->Heap->Prop} (k:Nat) (D:Draws prog w A it fp n Pv St):
    Draws prog w A it fp (n+k) (λ i v=>∃ j,i=j+k/\Pv j v) (λ i h=>∃ j,i=j+k/\St j h) where
  live:=λ i h ⟨j,_,st⟩=>D.live j h st
  frame:=λ i h h' ⟨j,e,st⟩ q=>⟨j,e,D.frame j h h' st q⟩
  item:=λ i s Q E hi ⟨j,e,st⟩ hQ=>D.item j s Q E (by omega) st λ x h' tk p st' sb=>hQ x h' tk ⟨j,e,p⟩ ⟨j+1,by omega,st'⟩ sb
  done:=λ s Q E ⟨j,e,st⟩ hE=>D.done s Q E (by
    have q:j=n:=by omega
    rw [q] at st;exact st) hE
theorem Gq {M:Model} {A:Around} {E:Value->Shared->Prop} {s:Shared} {pos:Pos} {T:String} {args:List (Bool × Sem Value)} {kws:List (Option Str × Sem Value)} {Q:Value->Shared->Prop}
    (hp:args.any (·.1)=false) (hk:kws.any (·.1.isNone)=false) (h:wpAny M A (evalArgs (.type T) true args kws) (λ a s1=>wpAny M A (call (.type T) a.pos a.kw) Q E s1) E s):wpAny M A (callWith pos (.type T) [] args kws) Q E s:=by
  unfold callWith;refine wpAny_bind (wpAny_holding (wpAny_mono h (λ a s1 h1=>wpAny_bind (wpAny_standAt ?_)) λ _ _ q=>q));simp only [hp,hk,Bool.or_false];refine wpAny_bind (wpAny_pure ?_);refine wpAny_bind (wpAny_mono h1 (λ r s2 hr=> ?_) λ _ _ q=>q);exact wpAny_bind (wpAny_holding (wpAny_point (wpAny_pure hr)))
end L2
namespace L2
open PySem PySem.Spec PyProof.Rows
theorem MT {prog:Program} {w:World} {A:Around} (hh:A.handled=none) (tp:Bool) (it l:Addr) (hne:l≠it) (items:Array Value):
    Draws prog w A it [it,l] items.size (λ i v=>items[i]?=some v) (λ i h=>Bw tp h it l i/\Dw tp h l items) where
  live:=λ _ _ st=>let ⟨o,e,_⟩:=Cy st.1;⟨o,e⟩
  frame:=λ _ _ _ st hk=>⟨A7 st.1 λ o e=>hk it (by simp) o e,F3 st.2 λ o e=>hk l (by simp) o e⟩
  item:=λ i s Q E hi st hQ=>Jq st.1 st.2 (x:=items[i]) (by simp [hi]) λ h' hit sb=>hQ _ h' s.toks (by simp [hi]) ⟨hit,F3 st.2 λ o e=>(sb.2 l hne).trans e⟩ sb
  done:=λ s Q E st hE=>GY hh st.1 st.2 (by simp) hE
def KS (tp:Bool) (K:PySem.W.Frag) (a:Addr):It:=
  ⟨λ i H=>∃ xs x,SqS tp K H a xs/\xs[i]?=some x,λ i H v H'=>∃ p x,H p=none/\v= .ref p/\H'=upd H p (.tup [.int ((i+1:Nat):Int),x])/\∀ xs,SqS tp K H a xs->xs[i]?=some x,λ i H=>∃ xs,SqS tp K H a xs/\xs.length<=i⟩
theorem GH {P:Program} {w:World} {K:PySem.W.Frag} {elts:List Expr} {k:Nat} {pos:Pos} (tp:Bool) (a e it:Addr) (hne:e≠it):
    Turn P w K (.Tuple elts k pos) (KS tp K a) [e,it] e (λ i h=>(∃ old,IsEnum h e it ((i+1:Nat):Int) old)/\Bw tp h it a i) where
  mem:=by simp
  obj:=λ i h st b hb=>by
    obtain ⟨⟨old,he⟩,hi⟩:=st;obtain ⟨o,eo,d⟩:=Cy hi;rcases List.mem_cons.mp hb with z | z
    · subst z;exact ⟨_,he,λ v z=>by cases (show Data.fields _=Data.cell v from z)⟩
    · have z:b=it:=by simpa using z
      subst z;exact ⟨o,eo,λ v z=>by rw [d] at z;cases z⟩
  keep:=λ i h h' st kp=>by
    obtain ⟨⟨old,he⟩,hi⟩:=st;exact ⟨⟨old,kp e (by simp) _ he⟩,A7 hi λ o z=>kp it (by simp) o z⟩
  item:=by
    intro X hP hw hK hc i pins s σ H E I hf st hg;subst hP hw hK;obtain ⟨xs,x,hq,hx⟩:=hg;obtain ⟨its,rv,p⟩:=FO I hq;obtain ⟨u,hu,ru⟩:=rv.get hx;obtain ⟨⟨old,he⟩,hi⟩:=st;obtain ⟨oi,ei,di⟩:=Cy hi;obtain ⟨oa,na,ea,da⟩:=E3 p;have hel:e<s.heap.objs.size:=Heap.lt_size he;have hil:it<s.heap.objs.size:=Heap.lt_size ei;have nia:a≠it:=λ z=>by
      subst z;rw [ei] at ea;cases ea;rw [di] at da;cases da
    have nea:e≠a:=λ z=>by
      subst z;rw [show s.heap.get? e=_ from he] at ea;cases ea;cases (show Data.fields _=Data.seq _ _ from da)
    have hlt:i<its.toArray.size:=by
      have:=(List.getElem?_eq_some_iff.mp hu).1;simpa using this
    have D:=MA 1 (MT (prog:=X.prog) (w:=X.w) (A:=X.A.in1) (I.ok.hd hc) tp it a nia its.toArray);refine wpAny_pyNext_enum_itemD (i:=i+1) D he ⟨i,rfl,hi,p⟩ (by omega) hne (by simp [hne,nea]) λ v h' tk pv ho st' hT hsz hk=> ?_;obtain ⟨j,ej,ev⟩:=pv;obtain ⟨j2,ej2,hi',p'⟩:=st';have ej:j=i:=by omega
    have ej2:j2=i+1:=by omega
    subst ej ej2;have ev:v=u:=by
      rw [show its.toArray[j]?=some u by simpa using hu] at ev;exact (Option.some.inj ev).symm
    subst ev;have I0:=I.laid (h':=s.heap.push { cls:= .type "tuple",data:= .seq #[.int ((j+1:Nat):Int) tk,v] }) (a:=s.heap.objs.size) (o:= .tup [.int ((j+1:Nat):Int),x]) (t':=tk+1) (λ _ _ q=>Heap.get?_push_of_some _ q) (Nat.le_refl _)
      ⟨(by show 2<=sizeLine;decide),[.int ((j+1:Nat):Int) tk,v], .cons ⟨_,rfl⟩ (.cons ru .nil),⟨_,Heap.get?_push_size _ rfl,rfl,_,rfl⟩⟩
    have f0:∀ b∈[e,it],CO X pins (upd H s.heap.objs.size (.tup [.int ((j+1:Nat):Int),x])) b:=λ b hb=>M8 (hf b hb) (by
      rcases List.mem_cons.mp hb with z | z
      · rw [z];exact Nat.ne_of_lt hel
      · rw [show b=it by simpa using z];exact Nat.ne_of_lt hil)
    have I1:=Inv.turnedL (t':=tk+1) (h':=h') [e,it] I0 f0 (λ b o hb z=>by
      have hb1:b≠e:=λ q=>hb (by simp [q]);have hb2:b≠it:=λ q=>hb (by simp [q]);rcases Heap.get?_push_cases (show (s.heap.push { cls:= .type "tuple",data:= .seq #[.int ((j+1:Nat):Int) tk,v] }).get? b=some o from z) with ⟨q1,q2⟩ | q
      · rw [q1,q2];exact hT
      · exact hk b o hb1 hb2 q)
    refine ⟨.ref s.heap.objs.size,rfl,wpAny_letOwnedTupleGo_enum (s:={ s with heap:=h',toks:=tk+1 }) ho λ h2 he2 sb=> ?_⟩;exact ⟨.ref s.heap.objs.size,_,Inv.turnedL (t':=tk+1) (h':=h2) [e,it] I1 f0 (λ b o hb z=>(sb.2 b λ q=>hb (by simp [q])).trans z),rfl,⟨_,x,I.fresh,rfl,rfl,λ ys hy=>by rw [Lj I hy hq];exact hx⟩,
      ⟨⟨v,by simpa using he2⟩,A7 hi' λ o z=>(sb.2 it hne.symm).trans z⟩,λ b hb=>(f0 b hb).1⟩
  done:=by
    intro X hP hw hK hc i pins s σ H E I hf st hg;subst hP hw hK;obtain ⟨xs,hq,hx⟩:=hg;obtain ⟨its,rv,p⟩:=FO I hq;obtain ⟨⟨old,he⟩,hi⟩:=st;obtain ⟨oi,ei,di⟩:=Cy hi;obtain ⟨oa,na,ea,da⟩:=E3 p;have hT:s.TypeIs (.ref e) "enumerate":=⟨_,he,rfl⟩;have hl:=rv.length;unfold pyNext;refine wpAny_bind (wpAny_attempt (wpAny_callSpecial?_slot (name:=Str.ofString "__next__") hT F.slot_enumerate_next (wpAny_call_entry F.slot_enumerate_next hT F.entry_enumerate_next ?_ (F.args_enumerate_next_1 _))));show wpAny _ _ (field (.ref e) 2 >>= _) _ _ _;refine wpAny_bind (wpAny_field he rfl (x:= .ref it) rfl ?_);refine wpAny_bind (GY (A:=X.A.in1) (I.ok.hd hc) hi p (by simp;omega) λ h' x eb hx'=> ?_);obtain ⟨o,ho,hc2⟩:=hx';exact wpAny_bind (wpAny_isInstance (T:="StopIteration") (b:=true) ⟨o,ho,hc2⟩ isSubtype_stop (wpAny_pure ⟨rfl,I.turnedL (t':=s.toks) [e,it] hf λ b o hb z=>eb b o (λ q=>hb (by simp [q])) z⟩))
  self:=λ _ _ _ _ _ st h=>by
    obtain ⟨⟨old,he⟩,_⟩:=st;exact wpAny_pyIter_enum he h
section
variable {X:Cx} {elts:List Expr} {k:Nat} {tpos:Pos} {K:PySem.W.Frag}
def J4 (K:PySem.W.Frag) (ta:TA):TI:=λ σ H R=>ta σ H λ vs H1=>∃ tp a,vs=[.ref a]/\(∃ xs,SqS tp K H1 a xs)/\R (KS tp K a) H1
theorem IL {l:Expr} {ta:TA} {p pos kp cp:Pos} {cj:Nat} (hg:Gl X "enumerate") (hm:X.mg "enumerate"=none) (ha:PA X [l] ta) (hK:X.K=K:=by rfl) (hs:starEach [l] X.env=[(false,eval l X.env)]:=by rfl):
    PI X (.Tuple elts k tpos) (.Call (.Name "enumerate" p) [l] [⟨some "start", .Constant (.int 1) cj cp,kp⟩] pos) (J4 K ta):=by
  subst hK;intro pins s σ H R I h;refine wpAny_Call_Name_kw (DY I hg hm Il (Gq (by rw [hs];rfl) rfl (PyProof.Rows.evalArgs_kw2 rfl ?_ (by rw [hs];rfl))));refine thn (ha pos pins s σ H _ I h) λ us s1 ⟨vs,H1,I1,r1,q1⟩=>PyProof.Rows.kwAll_cons ?_;refine Ag pins s1 σ H1 (λ v H2=>v= .int 1/\H2=H1) I1 ⟨rfl,rfl⟩ |> λ z=>thn z λ u s2 ⟨v,H2,I2,r2,ev,eh⟩=> ?_
  subst ev eh;obtain ⟨t,rfl⟩:=r2;refine PyProof.Rows.kwAll_nil ?_;obtain ⟨tp,a,e,⟨xs,hq⟩,q⟩:=q1;subst e;cases r1 with
  | cons r rr=>
    cases rr;cases r;obtain ⟨its,rv,pl⟩:=FO I2 hq;refine GM ?_;refine JJ pl ⟨_,rfl,λ h' he hk hsz=> ?_⟩;refine wpAny_pyIter_enum he ?_;have hz:(s2.heap.push { cls:= .type (Jm tp),data:= .fields #[.ref a, .int 0 0] }).objs.size=s2.heap.objs.size+1:=Heap.size_push ..;have hk2:∀ b o,s2.heap.get? b=some o->h'.get? b=some o:=λ b o z=>hk b o (Heap.get?_push_of_some _ z);have I3:=I2.kept (t':=s2.toks) hk2;have st:Bw tp h' s2.heap.objs.size a 0:=A7 HN λ o z=>hk _ o z;refine ⟨_,[_,s2.heap.objs.size],_,_,H2,rfl,I3,GH tp a _ _ (by rw [hz];exact Nat.succ_ne_self _),⟨⟨_,he⟩,st⟩,λ b hb=> ?_,q⟩;have hb':s2.heap.objs.size<=b:=by
      rcases List.mem_cons.mp hb with z | z
      · rw [z,hz];exact Nat.le_succ _
      · have z:b=s2.heap.objs.size:=by simpa using z
        rw [z];exact Nat.le_refl _
    exact I2.fpOk hb' (I2.hok.fresh hb')
end
def Isq (tp:Bool) (K:PySem.W.Frag) (a:Addr):It:=if tp=true then Itt K a else Itl K a
section
variable {X:Cx} {tg:Expr} {K:PySem.W.Frag}
end
structure FSrc (J:It) (g:TG) (H:Hp) (n:Nat) (set:Nat->St->St):Prop where
  go:∀ i H',i<n->Same H H'->J.go i H'
  stop:∀ H',Same H H'->J.stop n H'
  yld:∀ i σ H' x H'' (R:St->Hp->Prop),i<n->Same H H'->J.yld i H' x H''->(∀ H3,Same H' H3->R (set i σ) H3)->g x σ H'' R
section
variable {K:PySem.W.Frag} {H:Hp} {a b:Addr} {xs zs:List V} {tp t1 t2:Bool} {i1 i2:Nat}
theorem P6 (h:SqS tp K H a xs):FSrc (Isq tp K a) (AC i1) H xs.length (λ i σ=>σ.set i1 (some (xs.getD i .non))):=by
  cases tp with
  | false=>exact {
      go:=λ i H' hi s=>⟨xs,xs[i],SqS.same (tp:=false) h s,by simp [hi]⟩
      stop:=λ H' s=>⟨xs,SqS.same (tp:=false) h s,Nat.le_refl _⟩
      yld:=λ i σ H' x H'' R hi s y k=>by
        obtain ⟨e,hv⟩:=y;subst e;have e:x=xs.getD i .non:=by
          rw [List.getD_eq_getElem?_getD,hv xs (SqS.same (tp:=false) h s)];rfl
        subst e;exact k _ (Same.refl _) }
  | true=>exact {
      go:=λ i H' hi s=>⟨xs,xs[i],SqS.same (tp:=true) h s,by simp [hi]⟩
      stop:=λ H' s=>⟨xs,SqS.same (tp:=true) h s,Nat.le_refl _⟩
      yld:=λ i σ H' x H'' R hi s y k=>by
        obtain ⟨e,hv⟩:=y;subst e;have e:x=xs.getD i .non:=by
          rw [List.getD_eq_getElem?_getD,hv xs (SqS.same (tp:=true) h s)];rfl
        subst e;exact k _ (Same.refl _) }
theorem Kt (h:SqL K H a xs):FSrc (Itl K a) (AC i1) H xs.length (λ i σ=>σ.set i1 (some (xs.getD i .non))):=P6 (tp:=false) h
theorem Jl {lo:Int} {n:Nat}:FSrc (Itr lo n) (AC i1) H n (λ i σ=>σ.set i1 (some (.int (lo+i)))) where
  go:=λ i H' hi s=>hi
  stop:=λ H' s=>Nat.le_refl _
  yld:=λ i σ H' x H'' R hi s y k=>by
    obtain ⟨e,hv⟩:=y;subst e hv;exact k _ (Same.refl _)
theorem JM (h:SqS tp K H a xs):FSrc (KS tp K a) (HI K 2 (C0 (AC i1) (C0 (AC i2) J2))) H xs.length (λ i σ=>(σ.set i1 (some (.int ((i+1:Nat):Int)))).set i2 (some (xs.getD i .non))) where
  go:=λ i H' hi s=>⟨xs,xs[i],h.same s,by simp [hi]⟩
  stop:=λ H' s=>⟨xs,h.same s,Nat.le_refl _⟩
  yld:=λ i σ H' x H'' R hi s y k=>by
    obtain ⟨p,v,hp,rfl,rfl,hv⟩:=y;have e:v=xs.getD i .non:=by
      rw [List.getD_eq_getElem?_getD,hv xs (h.same s)];rfl
    subst e;exact ⟨p,_,rfl,SqT.of Ab,rfl,_,_,rfl,_,_,rfl,rfl,k _ (Ae hp)⟩
end
section
variable {X:Cx}
end
section
variable {H:Hp} {Q:VK} {σ:St} {D:Ends} {te:TE} {ti:TIp} {i:Nat} {x:V}
theorem ME (e:σ[i]?=some (some x)) (h:te σ H λ y H1=>ti x y H1 λ z H2=>D.nx (σ.set i (some z)) H2):Pp i te ti D σ H:=⟨x,e,h⟩
end
abbrev nV (n:Nat):V:= .int (n:Nat)
theorem JS {J:It} {g:TG} {σ0:St} {H:Hp} {n:Nat} {st:Nat->St} {te:TE} {Q:VK} {D:Addr} {G:Nat->Bool} (S:SrcOk J g σ0 H n st) (hD:H D=none) (hn:n<=100000)
    (he:∀ i H' (R:VK),i<n->Same H H'->(∀ H3,Same H' H3->R (.bl (G i)) H3)->te (st i) H' R)
    (hd:∀ H',Same H H'->H' D=some (.lst (((List.range n).map G).map V.bl))->Q (.ref D) H'):DC J σ0 g MR te Q H D:=by
  refine ID (m:=0) (G:=λ i=> .bl (G i)) S hD hn (λ i H' R hi s k=>he i H' R hi s λ H3 s3=>k H3 _ s3 (.bl _)) λ H' ys s hl r=> ?_;have e:ys=((List.range n).map G).map V.bl:=by
    cases r with
    | @lst _ _ vs _ q f b l ee=>
      rw [hl] at q;cases q;refine List.ext_getElem (by simpa using l) λ i h1 h2=> ?_;have hi:i<n:=by simpa using h2
      have:=ee i ys[i] (.bl (G i)) (by simp [h1]) (by simp [hi]);cases hv:ys[i] <;> rw [hv] at this <;> cases this;simp
  rw [e] at hl;exact hd H' s hl
section
variable {X:Cx} {x m:Str} {C:Addr} {k:Nat} {ps:List Str} {sp:Sp} {o e:Expr} {es:List Expr} {t:TA} {ta:TE} {p pos apos:Pos}
theorem DB {x:Str} {C:Addr} {pos:Pos} (h:X.mg x=some (.ref C)) (hg:Gl X x:=by rfl) (hd:(x == ("__debug__":Str))=false:=by decide):PE X (.Name x pos) (tC (.ref C)):=Fq hg h rfl hd
end
structure Kind (K:PySem.W.Frag) (C:Addr):Prop where
  cl:Cls K C
  ha:PySem.W.findIn K (.ref C) "__class__"=some (some (.builtin "object.__class__"))
  hn:PySem.W.specialIn K (.builtin "object.__class__") "__get__"=some (some (.builtin "getset_descriptor.__get__"))
  htk:PySem.W.takesIn K (.builtin "object.__class__")=some true
  hm:PySem.W.mroIn K C (.type "object")=some true
section
variable {K:PySem.W.Frag} {H:Hp} {Q:VK} {σ:St} {D:Ends} {te tv:TE} {t:TA} {a C dx:Addr} {fs:List (Str × V)} {f:Str} {v:V} {sp:Sp}
end
theorem Iv {r r':R2} {ta tb tc:TE} {σ:St} {H:Hp} {Q:VK} (h:ta σ H λ x H1=>tb σ H1 λ y H2=>r x y H2 λ z H3=>∃ k,z= .bl k/\(if k=true then tc σ H3 λ w' H4=>r' y w' H4 Q else Q (.bl false) H3)):GI r r' ta tb tc σ H Q:=h
def GA (x:V) (a b:Int):Bool:=match x with | .int i=>decide (a<=i)&&decide (i<=b) | _=>false
theorem F2 {b b':Bool} {Q:VK} {H:Hp} (e:b=b') (h:Q (.bl b') H):Q (.bl b) H:=e▸h
theorem LW {b:Bool} {A B:Prop} (h1:b=true->A) (h2:b=false->B):if b=true then A else B:=by
  cases b with
  | true=>exact h1 rfl
  | false=>exact h2 rfl
theorem Rp.inj {H:Hp} {F G:Addr->Prop} {n m:Nat} {v:V} {d e:Dt} (r:Rp H F n v d) (r2:Rp H G m v e):d=e:=by
  induction r generalizing m e with
  | non=>cases r2;rfl
  | bl b=>cases r2;rfl
  | int i=>cases r2;rfl
  | str z=>cases r2;rfl
  | @lst n a vs ds h f b l el ih=>
    cases r2 with
    | @lst m _ vs2 ds2 h2 f2 b2 l2 el2=>
      rw [h] at h2;cases h2;congr 1;refine List.ext_getElem (by omega) λ i h1 h3=> ?_;have hv:i<vs.length:=by omega
      exact ih i vs[i] ds[i] (by simp [hv]) (by simp [h1]) (el2 i vs[i] ds2[i] (by simp [hv]) (by simp [h3]))
    | tup h2 _ _ _=>rw [h] at h2;cases h2
  | @tup n a vs ds h b l el ih=>
    cases r2 with
    | @tup m _ vs2 ds2 h2 b2 l2 el2=>
      rw [h] at h2;cases h2;congr 1;refine List.ext_getElem (by omega) λ i h1 h3=> ?_;have hv:i<vs.length:=by omega
      exact ih i vs[i] ds[i] (by simp [hv]) (by simp [h1]) (el2 i vs[i] ds2[i] (by simp [hv]) (by simp [h3]))
    | lst h2 _ _ _ _=>rw [h] at h2;cases h2
section
variable {X:Cx} {pins:List (Addr × Obj)} {σ:St} {H:Hp} {s:Shared}
end
abbrev dN (n:Nat):Dt:= .int (n:Nat)
def dT (ns:List Nat):Dt:= .tup (ns.map dN)
def dS (zs:List Str):Dt:= .lst (zs.map .str)
section
variable {H:Hp} {F:Addr->Prop} {n:Nat} {v:V}
theorem IW {α:Type} {f:α->V} {g:α->Dt} (uniq:∀ (a:α) (v:V),Rp H F n v (g a)->v=f a) {vs:List V} {as:List α} (l:vs.length=(as.map g).length)
    (e:∀ (i:Nat) (v:V) (d:Dt),vs[i]?=some v->(as.map g)[i]?=some d->Rp H F n v d):vs=as.map f:=by
  refine List.ext_getElem (by simpa using l) λ i h1 h2=> ?_;have h3:i<as.length:=by simpa using h2
  rw [List.getElem_map];exact uniq _ _ (e i vs[i] (g as[i]) (by simp [h1]) (by simp [h3]))
theorem Mx (a:Str) (v:V) (r:Rp H F n v (.str a)):v= .str a:=by cases r;rfl
theorem NU {zs:List Str} (r:Rp H F n v (dS zs)):∃ a,v= .ref a/\H a=some (.lst (zs.map V.str))/\F a/\zs.length<=100000:=by
  unfold dS at r;cases r with
  | @lst m a vs _ h f b l e=>
    have q:=IW (f:=V.str) (λ a v r=>Mx a v r) l e;subst q;exact ⟨a,rfl,h,f,by simpa using b⟩
theorem Iu {α β:Type} (f:α->β) (as:List α) (i:Nat) (x:β) (y:α) (h:i<as.length):(as.map f).getD i x=f (as.getD i y):=by simp [List.getD_eq_getElem?_getD,h]
theorem Em {zs:List Str} {i:Nat} (h:i<(zs.map V.str).length):(zs.map V.str).getD i .non= .str (zs.getD i Str.empty):=Iu V.str zs i .non Str.empty (by simpa using h)
end
def But (x:Addr) (H H':Hp):Prop:=∀ b o,H b=some o->b≠x->H' b=some o
theorem But.of {x:Addr} {H H1:Hp} (s:Same H H1):But x H H1:=λ a o e _=>s _ _ e
section
variable {H:Hp} {a:Addr} {kvs:List (Key × V)}
end
theorem IR {xs:List V} {k:Int} (h:0<=k):Dv xs (some k) none=xs.drop k.toNat:=by
  unfold Dv;have e2:HT.sIx xs.length xs.length none=xs.length:=rfl;rw [e2];have e1:HT.sIx xs.length 0 (some k)=min k.toNat xs.length:=by
    unfold HT.sIx;simp only;split <;> omega
  rw [e1];by_cases q:k.toNat<=xs.length
  · rw [Nat.min_eq_left q,List.take_of_length_le (by simp)]
  · rw [Nat.min_eq_right (by omega),List.drop_of_length_le (Nat.le_refl _),List.drop_of_length_le (by omega)];simp
theorem Ji {xs:List V} {k:Int} (h:0<=k):Dv xs none (some k)=xs.take k.toNat:=by
  unfold Dv;have e2:HT.sIx xs.length 0 none=0:=rfl;rw [e2,List.drop_zero];have e1:HT.sIx xs.length xs.length (some k)=min k.toNat xs.length:=by
    unfold HT.sIx;simp only;split <;> omega
  rw [e1,Nat.sub_zero];by_cases q:k.toNat<=xs.length
  · rw [Nat.min_eq_left q]
  · rw [Nat.min_eq_right (by omega),List.take_of_length_le (Nat.le_refl _),List.take_of_length_le (by omega)]
section
variable {K:PySem.W.Frag} {wi:TI} {own:List Str} {fr:List (Str × Nat)} {g:TG} {tc:TT} {te tl:TE} {tb:TS} {D:Ends} {σ:St} {H:Hp} {Q:VK} {R:It->Hp->Prop} {ta:TA}
theorem Kk (h:wi σ H λ J H1=>∀ D,H1 D=none->DC J (De own fr σ) g tc te Q H1 D):Fc wi own fr g tc te σ H Q:=h
theorem Ml (h:wi σ H λ J H1=>∃ W:Nat->Nat->St->Hp->Prop,(∃ m,W 0 m σ H1)/\∀ i m σ H,W i m σ H->
  (J.stop i H/\D.nx σ H)\/(J.go i H/\∃ N:St->Hp->Prop,(∀ σ' H',N σ' H'->∃ m',m'<m/\W (i+1) m' σ' H')/\∀ x H',J.yld i H x H'->g x σ H' λ σ2 H2=>tb { D with nx:=N,ct:=N,bk:=D.nx } σ2 H2)):N8 wi g tb D σ H:=h
theorem Px (h:tl σ H λ x H1=>∃ a,x= .ref a/\(∃ xs,SqL K H1 a xs)/\R (Itl K a) H1):Jg K tl σ H R:=h
theorem Qk (h:te σ H λ x H1=>∃ z,x= .str z/\R (Its z) H1):PM te σ H R:=h
theorem OE (h:ta σ H λ vs H1=>∃ tp a,vs=[.ref a]/\(∃ xs,SqS tp K H1 a xs)/\R (KS tp K a) H1):J4 K ta σ H R:=h
theorem OV (h:ta σ H λ vs H1=>∃ j:Int,vs=[.int j]/\ -(2 ^ 62)<=j/\j<2 ^ 62/\R (Itr 0 j.toNat) H1):LM ta σ H R:=h
end
theorem EH {J:It} {g:TG} {H0 H:Hp} {n:Nat} {set:Nat->St->St} {tb:TS} {D:Ends} {σ:St} (S:FSrc J g H0 n set) (Pv:Nat->St->Hp->Prop) (h0:Pv 0 σ H) (hk:∀ i σ H',Pv i σ H'->Same H0 H')
    (hs:∀ i σ H' H3,i<n->Pv i σ H'->Same H' H3->tb { D with nx:=Pv (i+1),ct:=Pv (i+1),bk:=D.nx } (set i σ) H3) (hd:∀ σ H',Pv n σ H'->D.nx σ H'):
    ∃ W:Nat->Nat->St->Hp->Prop,(∃ m,W 0 m σ H)/\∀ i m σ H,W i m σ H->
      (J.stop i H/\D.nx σ H)\/(J.go i H/\∃ N:St->Hp->Prop,(∀ σ' H',N σ' H'->∃ m',m'<m/\W (i+1) m' σ' H')/\∀ x H',J.yld i H x H'->g x σ H' λ σ2 H2=>tb { D with nx:=N,ct:=N,bk:=D.nx } σ2 H2):=by
  refine ⟨λ i m σ H'=>m=n - i/\i<=n/\Pv i σ H',⟨n,by simp,Nat.zero_le _,h0⟩,?_⟩;rintro i m σ H1 ⟨rfl,hi,p⟩;by_cases hlt:i<n
  · exact .inr ⟨S.go i H1 hlt (hk _ _ _ p),Pv (i+1),λ σ' H' p'=>⟨n - (i+1),by omega,rfl,hlt,p'⟩,λ x H' y=>S.yld i σ H1 x H' _ hlt (hk _ _ _ p) y λ H3 s3=>hs i σ H1 H3 hlt p s3⟩
  · have e:i=n:=by omega
    subst e;exact .inl ⟨S.stop H1 (hk _ _ _ p),hd σ H1 p⟩
theorem Ii {H:Hp} {i1 n:Nat}:FSrc (Itr 0 n) (AC i1) H n (λ i σ=>σ.set i1 (some (.int (i:Nat)))):=by
  have:=Jl (H:=H) (i1:=i1) (lo:=0) (n:=n);simpa using this
theorem OH {A B:Prop} (h:B):if (!true)=true then A else B:=by simpa using h
theorem O1 {A B:Prop} (h:A):if (!false)=true then A else B:=by simpa using h
theorem ifJ {c:TT} {t u:TS} {D:Ends} {σ:St} {H:Hp} (J:St->Hp->Prop) (h1:∀ σ' H',J σ' H'->D.nx σ' H') (h2:(∀ σ' H',J σ' H'->D.nx σ' H')->Hr c t u D σ H):Hr c t u D σ H:=h2 h1
end L2
namespace L2
theorem Hl {α:Type} {as:List α} {i:Nat} {y:α} (h:i<as.length):as.getD i y=as[i]:=by
  rw [List.getD_eq_getElem?_getD,List.getElem?_eq_getElem h];rfl
end L2
namespace L2
open PySem PySem.Spec PyProof.Rows
def Oe (i j:Int):Prop:=0<j/\j<2 ^ 200
theorem Ib {j:Int} (h0:0<j) (h:j<2 ^ 200):j.natAbs.log2<9000:=by
  have h1:j.natAbs<2 ^ 200:=by omega
  have:=(Nat.log2_lt (show j.natAbs≠0 by omega)).mpr h1;omega
theorem Ep {X:Cx}:OpR X (binaryOp .FloorDiv) (rI Oe λ i j=> .int (i / j)):=opI λ i j _ _ _ _ _ hc q=>by
  rw [<-Int.fdiv_eq_ediv_of_nonneg i (by have:=hc.1;omega)] at q;exact floordiv_int (by have:=hc.1;omega) q (.inl (PyProof.noPylong_of_log2 (Ib hc.1 hc.2)))
section
variable {prog:Program} {w:World} {A:Around} {E:Value->Shared->Prop} {s:Shared} {T:String} {r d:Addr} {n:Nat} {P:Nat->Value->Prop} {St:Nat->Heap->Prop}
end
section
variable {prog:Program} {w:World} {A:Around} {E:Value->Shared->Prop} {s:Shared}
end
section
variable {X:Cx} {K:PySem.W.Frag} {e o:Expr} {ta:TA} {to:TE} {p p2 pos pos2 apos cpos:Pos}
end
section
variable {X:Cx} {K:PySem.W.Frag} {e o:Expr} {es:List Expr} {ta to:TE} {t:TA} {f name:Str} {pos apos cpos:Pos} {T id:String} {r:V->List V->Hp->VK->Prop}
theorem Jd (pa:PlainAttrs T) (slot:Slot T name id) (hty:typeOf (.builtin id)=pure (.type "method_descriptor")) (hm:MtR X id r) (ho:PE X o to) (hK:X.K=K:=by rfl)
    (hbase:attributeBase o name X.env (eval o X.env)=eval o X.env:=by rfl) (hline:(apos.endLine == cpos.line)=true:=by rfl):PE X (.Call (.Attribute o name apos) [] [] cpos) (M4 K T r to):=by
  subst hK;exact Mw pa slot hty hm ho hbase hline
theorem Bl (pa:PlainAttrs T) (slot:Slot T name id) (hty:typeOf (.builtin id)=pure (.type "method_descriptor")) (hm:MtR X id r) (ho:PE X o to) (ha:PA X (e::es) t) (hK:X.K=K:=by rfl)
    (hbase:attributeBase o name X.env (eval o X.env)=eval o X.env:=by rfl)
    (hfew:((backTo cpos (starEach (e::es) X.env)).all (λ x=> !x.1)&&(backToKw cpos (keywordEach [] X.env)).all (λ x=>x.1.isSome)
      && decide ((e::es).length+([]:List Keyword).length+(if ([]:List Keyword).isEmpty then 0 else 1)<30))=true:=by rfl)
    (hline:(apos.endLine == cpos.line)=true:=by rfl) (hs:starEach (e::es) X.env=(false,eval e X.env)::starEach es X.env:=by rfl) (hplain:(backTo cpos (starEach es X.env)).any (·.1)=false:=by rfl):
    PE X (.Call (.Attribute o name apos) (e::es) [] cpos) (tBM K T r to t):=by
  subst hK;exact Nn pa slot hty hm ho ha hbase hfew hline hs hplain
end
section
variable {prog:Program} {w:World} {A:Around} {E:Value->Shared->Prop} {s:Shared}
end
section
variable {X:Cx} {K:PySem.W.Frag} {e o:Expr} {ta:TA} {to:TE} {p p2 pos pos2 apos cpos:Pos}
end
def Nr (P:Program) (w:World) (K:PySem.W.Frag) (mg:Str->Option Value) (base:Heap) (k:Nat) (f:Addr) (sp:Sp):Prop:=
  ∃ fd ps,PySem.W.keepIn K (.ref f)=true/\FnOk P w K mg base CX0 k f fd ps sp/\Binds K fd ps []
theorem CallF.val {P:Program} {w:World} {K:PySem.W.Frag} {mg:Str->Option Value} {base:Heap} {x:Str} {k:Nat} {ps:List Str} {sp:Sp} (h:CallF P w K mg base x k ps sp):∃ f,mg x=some (.ref f)/\Nr P w K mg base k f sp:=
  let ⟨f,fd,hm,hk,F,hb⟩:=h;⟨f,hm,fd,ps,hk,F,hb⟩
section
variable {X:Cx} {k:Nat} {e o:Expr} {es:List Expr} {t:TA} {to:TE} {pos:Pos} {S:Addr->Sp->Prop}
end
theorem arg1 {α:Type} {P:List α->Prop} (h:∀ a0,P [a0]):∀ us:List α,us.length=1->P us:=λ us hl=>match us,hl with | [a0],_=>h a0
theorem arg2 {α:Type} {P:List α->Prop} (h:∀ a0 a1,P [a0,a1]):∀ us:List α,us.length=2->P us:=λ us hl=>match us,hl with | [a0,a1],_=>h a0 a1
theorem arg3 {α:Type} {P:List α->Prop} (h:∀ a0 a1 a2,P [a0,a1,a2]):∀ us:List α,us.length=3->P us:=λ us hl=>match us,hl with | [a0,a1,a2],_=>h a0 a1 a2
theorem arg4 {α:Type} {P:List α->Prop} (h:∀ a0 a1 a2 a3,P [a0,a1,a2,a3]):∀ us:List α,us.length=4->P us:=λ us hl=>match us,hl with | [a0,a1,a2,a3],_=>h a0 a1 a2 a3
theorem arg5 {α:Type} {P:List α->Prop} (h:∀ a0 a1 a2 a3 a4,P [a0,a1,a2,a3,a4]):∀ us:List α,us.length=5->P us:=λ us hl=>match us,hl with | [a0,a1,a2,a3,a4],_=>h a0 a1 a2 a3 a4
theorem arg6 {α:Type} {P:List α->Prop} (h:∀ a0 a1 a2 a3 a4 a5,P [a0,a1,a2,a3,a4,a5]):∀ us:List α,us.length=6->P us:=λ us hl=>match us,hl with | [a0,a1,a2,a3,a4,a5],_=>h a0 a1 a2 a3 a4 a5
theorem arg7 {α:Type} {P:List α->Prop} (h:∀ a0 a1 a2 a3 a4 a5 a6,P [a0,a1,a2,a3,a4,a5,a6]):∀ us:List α,us.length=7->P us:=λ us hl=>match us,hl with | [a0,a1,a2,a3,a4,a5,a6],_=>h a0 a1 a2 a3 a4 a5 a6
theorem arg8 {α:Type} {P:List α->Prop} (h:∀ a0 a1 a2 a3 a4 a5 a6 a7,P [a0,a1,a2,a3,a4,a5,a6,a7]):∀ us:List α,us.length=8->P us:=λ us hl=>match us,hl with | [a0,a1,a2,a3,a4,a5,a6,a7],_=>h a0 a1 a2 a3 a4 a5 a6 a7
theorem arg9 {α:Type} {P:List α->Prop} (h:∀ a0 a1 a2 a3 a4 a5 a6 a7 a8,P [a0,a1,a2,a3,a4,a5,a6,a7,a8]):∀ us:List α,us.length=9->P us:=λ us hl=>match us,hl with | [a0,a1,a2,a3,a4,a5,a6,a7,a8],_=>h a0 a1 a2 a3 a4 a5 a6 a7 a8
structure BlkScopeC (X:Cx) (scope:Scope) (cx:Str) (own:List Str) (fr:List (Str × Nat)):Prop where
  kind:scope.kind= .function
  onec:∀ y∈scope.names,y.2= .cell->y.1=cx
  isc:scope.names.lookup cx=some .cell
  lay:∀ n cl,cellsFrom n scope.names cl=(cx,n)::cl
  push:∀ h:Heap,pushCells h scope.names=h.push { cls:= .type "cell",data:= .cell none }
  loc:∀ y∈scope.names,y.2= .local->scope.names.lookup y.1=some .local
  free:∀ y∈scope.names,y.2= .free->(X.env.scope.names.lookup y.1=some .cell\/X.env.scope.names.lookup y.1=some .free)
  fr:∀ p∈fr,X.N[p.2]?=some p.1/\(p.1,NameKind.free)∈scope.names
  only:∀ x,(x,NameKind.free)∈scope.names->scope.names.lookup x=some .free
section
variable {X:Cx} {pins:List (Addr × Obj)} {σ:St} {H:Hp} {s:Shared} {scope:Scope} {cx:Str} {own:List Str} {fr:List (Str × Nat)} {fp:List Addr}
end
section
variable {X:Cx}
end
def Ja (sc:Scope) (N:List Str) (scope:Scope) (cx:Str) (own:List Str) (fr:List (Str × Nat)):Bool:=
  decide (scope.kind= .function)&&
  (scope.names.all λ y=>(decide (y.2≠ .cell)||decide (y.1=cx))&&(decide (y.2≠ .local)||decide (scope.names.lookup y.1=some .local))&&
    (decide (y.2≠ .free)||((decide (sc.names.lookup y.1=some .cell)||decide (sc.names.lookup y.1=some .free))&&decide (scope.names.lookup y.1=some .free))))&&
  (fr.all λ p=>decide (N[p.2]?=some p.1)&&decide ((p.1,NameKind.free)∈scope.names))&&
  decide (scope.names.lookup cx=some .cell)&&decide ((own++fr.map (·.1)).Nodup)
section
variable {X:Cx} {scope:Scope} {cx:Str} {own:List Str} {fr:List (Str × Nat)}
theorem BlkScopeC.of (h:Ja X.env.scope X.N scope cx own fr=true) (lay:∀ n cl,cellsFrom n scope.names cl=(cx,n)::cl) (push:∀ h:Heap,pushCells h scope.names=h.push { cls:= .type "cell",data:= .cell none }):BlkScopeC X scope cx own fr:=by
  unfold Ja at h;simp only [Bool.and_eq_true,List.all_eq_true,decide_eq_true_iff,Bool.or_eq_true] at h;obtain ⟨⟨⟨⟨h1,h2⟩,h3⟩,h4⟩,h5⟩:=h;exact ⟨h1,λ y hy e=>(h2 y hy).1.1.resolve_left (λ z=>z e),h4,lay,push,λ y hy e=>(h2 y hy).1.2.resolve_left (λ z=>z e),λ y hy e=>((h2 y hy).2.resolve_left (λ z=>z e)).1,λ p hp=>h3 p hp,λ x hx=>((h2 _ hx).2.resolve_left (λ z=>z rfl)).2⟩
end
section
variable {X:Cx} {K:PySem.W.Frag} {scope:Scope} {fr:List (Str × Nat)}
end
section
variable {X:Cx} {e o:Expr} {es:List Expr} {t:TA} {to:TE} {pos:Pos} {S:Addr->Sp->Prop}
end
section
variable {X:Cx} {K:PySem.W.Frag}
end
end L2
namespace HT
open PySem PySem.Spec PyProof.Rows
variable {prog:Program} {w:World} {A:Around} {E:Value->Shared->Prop} {s:Shared}
end HT
namespace L2
open PySem PySem.Spec PyProof.Rows
theorem Fb (as bs:List Str):DM (as.map V.str) (bs.map V.str)=decide (as=bs):=by
  rw [Bool.eq_iff_iff,decide_eq_true_iff];unfold DM;simp only [Bool.and_eq_true,beq_iff_eq,List.length_map,List.all_eq_true,List.mem_range];constructor
  · rintro ⟨h1,h2⟩;refine List.ext_getElem h1 λ i ha hb=> ?_;have h3:=h2 i ha;rw [Em (by simpa using ha),Em (by simpa using hb)] at h3;have h4:(as.getD i Str.empty == bs.getD i Str.empty)=true:=h3;rw [beq_iff_eq,Hl ha,Hl hb] at h4;exact h4
  · rintro rfl;refine ⟨rfl,λ i hi=> ?_⟩;rw [Em (by simpa using hi)];show (as.getD i Str.empty == as.getD i Str.empty)=true;rw [beq_iff_eq]
theorem DQ {K:PySem.W.Frag} {H:Hp} {Q:VK} {l p:Addr} {as bs:List Str} (c:SqL K H l (as.map V.str)) (d:SqL K H p (bs.map V.str)) (h:Q (.bl (decide (as=bs))) H):Hy K false (.ref l) (.ref p) H Q:=
  ⟨l,p,_,_,rfl,rfl,c,d,by simp [AK],by simp [AK],by rw [Fb];exact h⟩
def DK {α:Type}:Sem α->Prop
  | .rule _ k=>DK (k ())
  | .at _ k=>DK (k ())
  | .load _ _ k=>∀ o,DK (k o)
  | .update _ _ f k=>(∀ o,(f o).dict=o.dict)/\DK (k ())
  | .loadIfAlive _ k=>∀ o,DK (k o)
  | .point _ k=>DK (k ())
  | .alloc _ k=>∀ a,DK (k a)
  | .fresh k=>∀ t,DK (k t)
  | .ask k=>∀ t,DK (k t)
  | .choose _ _ k=>∀ t,DK (k t)
  | .os _ _ k=>∀ t,DK (k t)
  | .call .. => False
  | .handled _ k=>∀ t,DK (k t)
  | .genState _ k=>∀ t,DK (k t)
  | .newGen _ k=>∀ t,DK (k t)
  | .resume .. => False
  | .stack k=>∀ t,DK (k t)
  | .thread k=>∀ t,DK (k t)
  | _=>True
def KD (h h':Heap):Prop:=∀ (b:Nat) (o:Obj),h.objs[b]?=some o->∃ o',h'.objs[b]?=some o'/\o'.dict=o.dict
theorem KD.refl (h:Heap):KD h h:=λ b o e=>⟨o,e,rfl⟩
theorem KD.trans {h h1 h2:Heap} (a:KD h h1) (b:KD h1 h2):KD h h2:=λ c o e=>by
  obtain ⟨o1,e1,d1⟩:=a c o e;obtain ⟨o2,e2,d2⟩:=b c o1 e1;exact ⟨o2,e2,d2.trans d1⟩
theorem IM {h:Heap} {b:Addr} {o:Obj} (e:h.get? b=some o):h.objs[b]?=some o:=by
  unfold Heap.get? at e;split at e
  · cases e
  · exact e
theorem KD.at' {h h':Heap} (k:KD h h') {b:Addr} {o o':Obj} (e:h.get? b=some o) (e':h'.get? b=some o'):o'.dict=o.dict:=by
  obtain ⟨o1,e1,d1⟩:=k b o (IM e);rw [IM e'] at e1;cases e1;exact d1
theorem KD.push (h:Heap) (o:Obj):KD h (h.push o):=λ b u e=>by
  refine ⟨u,?_,rfl⟩;show (h.objs.push o)[b]?=some u;have hb:b<h.objs.size:=(Array.getElem?_eq_some_iff.mp e).1;rw [Array.getElem?_push_lt hb];rw [Array.getElem?_eq_getElem hb] at e;exact e
theorem KD.upd (h:Heap) (a:Addr) {f:Obj->Obj} (hf:∀ o,(f o).dict=o.dict):KD h (h.update a f):=λ b u e=>by
  have hb:b<h.objs.size:=(Array.getElem?_eq_some_iff.mp e).1;show ∃ o',(h.objs.modify a f)[b]?=some o'/\_;rw [Array.getElem?_modify,e];by_cases q:a=b
  · rw [if_pos q];exact ⟨f u,rfl,hf u⟩
  · rw [if_neg q];exact ⟨u,rfl,rfl⟩
theorem Of {α:Type} {M:Model} {Γ:PySem.Ctx}:∀ (t:Sem α) (Q:α->Pos->Shared->Prop) (E:Value->Pos->Shared->Prop) (p:Pos) (s s0:Shared),DK t->KD s0.heap s.heap->Sem.wp M Γ t Q E p s->
    Sem.wp M Γ t (λ a p s'=>Q a p s'/\KD s0.heap s'.heap) (λ a p s'=>E a p s'/\KD s0.heap s'.heap) p s:=by
  intro t
  induction t with
  | pure a=>intro Q E p s s0 _ k h;rw [Sem.wp] at h ⊢;exact ⟨h,k⟩
  | raise e=>intro Q E p s s0 _ k h;rw [Sem.wp] at h ⊢;exact ⟨h,k⟩
  | unsupported w=>intro Q E p s s0 _ k h;rw [Sem.wp] at h;exact h.elim
  | finish e=>intro Q E p s s0 _ k h;rw [Sem.wp] at h;exact h.elim
  | rule t k ih=>intro Q E p s s0 d k h;rw [Sem.wp] at h ⊢;exact ih () Q E p s s0 d k h
  | «at» t k ih=>intro Q E p s s0 d k h;rw [Sem.wp] at h ⊢;exact ih () Q E _ s s0 d k h
  | load a part k ih=>
    intro Q E p s s0 d k h;rw [Sem.wp] at h ⊢;obtain ⟨o,e,h⟩:=h;exact ⟨o,e,ih o Q E p s s0 (d o) k h⟩
  | update a part f k ih=>
    intro Q E p s s0 d k h;rw [Sem.wp] at h ⊢;exact ⟨h.1,ih () Q E p _ s0 d.2 (k.trans (KD.upd s.heap a d.1)) h.2⟩
  | alloc o k ih=>intro Q E p s s0 d k h;rw [Sem.wp] at h ⊢;exact ih _ Q E p _ s0 (d _) (k.trans (KD.push _ _)) h
  | loadIfAlive a k ih=>intro Q E p s s0 d k h;rw [Sem.wp] at h ⊢;exact ih _ Q E p _ s0 (d _) k h
  | point l k ih=>intro Q E p s s0 d k h;rw [Sem.wp] at h ⊢;exact ih _ Q E p _ s0 d k h
  | register a k ih=>intro Q E p s s0 d k h;rw [Sem.wp] at h;exact h.elim
  | fresh k ih=>intro Q E p s s0 d k h;rw [Sem.wp] at h ⊢;exact ih _ Q E p _ s0 (d _) k h
  | ask k ih=>intro Q E p s s0 d k h;rw [Sem.wp] at h ⊢;exact ih _ Q E p _ s0 (d _) k h
  | choose a n k ih=>intro Q E p s s0 d k h;rw [Sem.wp] at h ⊢;exact ⟨h.1,ih _ Q E p _ s0 (d _) k h.2⟩
  | os a n k ih=>intro Q E p s s0 d k h;rw [Sem.wp] at h ⊢;exact ih _ Q E p _ s0 (d _) k h
  | call c a b l k ih=>intro Q E p s s0 d k h;exact d.elim
  | handled a k ih=>intro Q E p s s0 d k h;rw [Sem.wp] at h ⊢;exact ih _ Q E p _ s0 (d _) k h
  | newGen c k ih=>intro Q E p s s0 d k h;rw [Sem.wp] at h ⊢;exact ih _ Q E p _ s0 (d _) k h
  | genState g k ih=>
    intro Q E p s s0 d k h;rw [Sem.wp] at h ⊢;obtain ⟨st,e,h⟩:=h;exact ⟨st,e,ih _ Q E p s s0 (d _) k h⟩
  | resume g r l k ih=>intro Q E p s s0 d k h;exact d.elim
  | yield v g l k ih=>intro Q E p s s0 d k h;rw [Sem.wp] at h;exact h.elim
  | stack k ih=>intro Q E p s s0 d k h;rw [Sem.wp] at h ⊢;exact ih _ Q E p _ s0 (d _) k h
  | fork c k ih=>intro Q E p s s0 d k h;rw [Sem.wp] at h;exact h.elim
  | thread k ih=>intro Q E p s s0 d k h;rw [Sem.wp] at h ⊢;exact ih _ Q E p _ s0 (d _) k h
  | await a t b l k ih=>intro Q E p s s0 d k h;rw [Sem.wp] at h;exact h.elim
theorem B8 {α:Type} {M:Model} {A:Around} {t:Sem α} {Q:α->Shared->Prop} {E:Value->Shared->Prop} {s:Shared} (d:DK t) (h:wpAny M A t Q E s):wpAny M A t (λ a s'=>Q a s'/\KD s.heap s'.heap) (λ e s'=>E e s'/\KD s.heap s'.heap) s:=
  λ Γ p hΓ=>Of t _ _ p s s d (KD.refl _) (h Γ p hΓ)
theorem DK.bind {α β:Type} {f:α->Sem β}:∀ {t:Sem α},DK t->(∀ a,DK (f a))->DK (t >>= f):=by
  intro t;show _->_->DK (Sem.bind t f)
  induction t with
  | pure a=>intro _ h;exact h a
  | raise e=>intro _ _;trivial
  | unsupported w=>intro _ _;trivial
  | finish e=>intro _ _;trivial
  | rule t k ih=>intro d h;exact ih () d h
  | «at» t k ih=>intro d h;exact ih () d h
  | load a part k ih=>intro d h o;exact ih o (d o) h
  | update a part f k ih=>intro d h;exact ⟨d.1,ih () d.2 h⟩
  | alloc o k ih=>intro d h a;exact ih a (d a) h
  | loadIfAlive a k ih=>intro d h o;exact ih o (d o) h
  | point l k ih=>intro d h;exact ih () d h
  | register a k ih=>intro _ _;trivial
  | fresh k ih=>intro d h o;exact ih o (d o) h
  | ask k ih=>intro d h o;exact ih o (d o) h
  | choose a n k ih=>intro d h o;exact ih o (d o) h
  | os a n k ih=>intro d h o;exact ih o (d o) h
  | call c a b l k ih=>intro d h;exact d.elim
  | handled a k ih=>intro d h o;exact ih o (d o) h
  | newGen c k ih=>intro d h o;exact ih o (d o) h
  | genState g k ih=>intro d h o;exact ih o (d o) h
  | resume g r l k ih=>intro d h;exact d.elim
  | yield v g l k ih=>intro _ _;trivial
  | stack k ih=>intro d h o;exact ih o (d o) h
  | fork c k ih=>intro _ _;trivial
  | thread k ih=>intro d h o;exact ih o (d o) h
  | await a t b l k ih=>intro _ _;trivial
theorem Ay {α:Type} (a:α):DK (pure a:Sem α):=trivial
theorem Bz {α:Type} (w:String):DK (unsupported w:Sem α):=trivial
theorem FF (a:Addr):DK (load a):=λ _=>trivial
theorem F7 (v:Value):DK (fieldsOf v):=by
  unfold fieldsOf;split
  · refine DK.bind (FF _) λ o=> ?_;split
    · exact Ay _
    · exact Bz _
  · exact Bz _
theorem Dk (v:Value) (i:Nat):DK (field v i):=by
  unfold field;refine DK.bind (F7 v) λ vs=> ?_;split
  · exact Ay _
  · exact Bz _
theorem ED (f:Array Value->Array Value) (o:Obj):(Obj.mapFields f o).dict=o.dict:=by
  unfold Obj.mapFields;split <;> rfl
theorem E7 (a:Addr) {f:Obj->Obj} (h:∀ o,(f o).dict=o.dict):DK (update a f):=⟨h,trivial⟩
theorem Cf (v:Value) (i:Nat) (x:Value):DK (setField v i x):=by
  unfold setField;split
  · unfold updateField;refine DK.bind (FF _) λ o=> ?_;split
    · split
      · exact E7 _ (ED _)
      · exact Bz _
    · exact Bz _
  · exact Bz _
theorem Eu:DK (stack):=λ _=>trivial
theorem Cd {α:Type} {c:Prop} [Decidable c] {x y:Sem α} (hx:DK x) (hy:DK y):DK (if c then x else y):=by
  split
  · exact hx
  · exact hy
theorem BX (e:Value) (f:Option Addr):DK (setFlight e f):=by
  unfold setFlight;refine DK.bind (Dk _ _) λ tb=> ?_;exact Cd (Cf _ _ _) (Ay _)
theorem HG (env:Env) (outer:List Env):DK (behindIsImport env outer):=by
  unfold behindIsImport;refine Cd (Ay _) (Cd (Ay _) ?_);exact DK.bind (Dk _ _) λ _=>Ay _
theorem Lo (env:Env) (i:Bool) (l:List Env):DK (keptBack env i l):=by
  unfold keptBack;split
  · refine Cd (Ay _) ?_;unfold underTheClaimsCaller;exact DK.bind (DK.bind Eu λ _=>Ay _) λ _=>Ay _
  · exact Ay _
theorem F6:∀ l:List Env,DK (readyFrames l)
  | []=>trivial
  | env::outer=>by
    unfold readyFrames;split
    · refine DK.bind (FF _) λ o=> ?_;refine Cd (Ay _) ?_;refine DK.bind (HG _ _) λ _=>DK.bind (Lo _ _ _) λ _=>DK.bind (E7 _ λ _=>rfl) λ _=>F6 outer
    · exact Bz _
theorem GJ (env:Env):DK (PySem.frameOf env):=by
  unfold PySem.frameOf;refine DK.bind ?_ λ _=>DK.bind ?_ λ o=> ?_
  · unfold frameEnvs;exact DK.bind Eu λ _=>Ay _
  · unfold frameObject;split
    · exact Ay _
    · exact DK.bind (F6 _) λ _=>Ay _
  · split
    · exact Ay _
    · exact Bz _
theorem Fk (ty:String) (vs:List Value):DK (newFields ty vs):=by
  unfold newFields newObj;have hj:DK (newObjAsIs (.type ty) (.fields vs.toArray)):=by
    unfold newObjAsIs;exact λ _=>trivial
  exact Cd (DK.bind (Bz _) λ _=>hj) hj
theorem IS (f:Addr) (b:Bool):DK (entryPlaceOf f b):=by
  unfold entryPlaceOf;refine DK.bind Eu λ _=> ?_;split
  · exact Ay _
  · exact Ay _
theorem G3 (e:Value) (env:Env):DK (noteFrame e env):=by
  unfold noteFrame;split
  · rename_i f _
    refine DK.bind (Dk _ _) λ head=> ?_;have hj:DK (do
        let fr <-PySem.frameOf env;let pl <-entryPlaceOf f (head != Value.none);let b <-EntryCells.newEntry head fr Value.none (rawInt f) Value.none pl
        setField e 1 b):=DK.bind (GJ env) λ _=>DK.bind (IS _ _) λ _=>DK.bind (Fk _ _) λ _=>Cf _ _ _
    refine Cd (DK.bind (Dk _ _) λ _=>Cd (Ay _) (DK.bind (Cf _ _ _) λ _=>hj)) hj
  · exact Bz _
theorem Ei (env:Env) (e:Value):DK (leaving env e):=by
  unfold leaving;exact DK.bind (G3 _ _) λ _=>BX _ _
section
variable {M:Model} {A:Around} {E:Value->Shared->Prop} {s:Shared}
theorem MK {base:Heap} {env:Env} {outer:List Env} {L e:Addr} {cls a0:Value} {Q:Unit->Shared->Prop} (hfr:A.frames=some (env::outer)) (hf:env.frame=some L) (hfl:Heap.FlyingW base (env::outer) e cls a0 s.heap)
    (hQ:∀ h',Heap.FlyingW base outer e cls a0 h'->s.heap.UpToSlots h'->KD s.heap h'->Q () { s with heap:=h' }):wpAny M A (leaving env (.ref e)) Q E s:=
  wpAny_mono (B8 (Ei env (.ref e)) (wpAny_leaves_onW (Q:=λ _ s'=>∃ h',s'={ s with heap:=h' }/\Heap.FlyingW base outer e cls a0 h'/\s.heap.UpToSlots h') hfr hf hfl λ h' a b=>⟨h',rfl,a,b⟩))
    (λ _ _ ⟨⟨h',e,a,b⟩,k⟩=>by subst e;exact hQ h' a b k) λ _ _ z=>z.1
theorem HU {base:Heap} {env:Env} {outer:List Env} {L e:Addr} {cls a0:Value} {Q:Unit->Shared->Prop} (hfr:A.frames=some (env::outer)) (hf:env.frame=some L) (hfl:Heap.FlyingW base (env::outer) e cls a0 s.heap)
    (hQ:∀ h',Heap.HeldW base (env::outer) e cls a0 L h'->s.heap.UpToSlots h'->KD s.heap h'->Q () { s with heap:=h' }):wpAny M A (noteFrame (.ref e) env) Q E s:=
  wpAny_mono (B8 (G3 (.ref e) env) (wpAny_looks_onW (Q:=λ _ s'=>∃ h',s'={ s with heap:=h' }/\Heap.HeldW base (env::outer) e cls a0 L h'/\s.heap.UpToSlots h') hfr hf hfl λ h' a b=>⟨h',rfl,a,b⟩))
    (λ _ _ ⟨⟨h',e,a,b⟩,k⟩=>by subst e;exact hQ h' a b k) λ _ _ z=>z.1
theorem Ni {base:Heap} {l:List Env} {e L:Addr} {cls a0:Value} {Q:Unit->Shared->Prop} (hh:Heap.HeldW base l e cls a0 L s.heap)
    (hQ:∀ h',Heap.FlyingW base l e cls a0 h'->s.heap.UpToSlots h'->KD s.heap h'->Q () { s with heap:=h' }):wpAny M A (setFlight (.ref e) none) Q E s:=
  wpAny_mono (B8 (BX (.ref e) none) (wpAny_landsW (Q:=λ _ s'=>∃ h',s'={ s with heap:=h' }/\Heap.FlyingW base l e cls a0 h'/\s.heap.UpToSlots h') hh λ h' a b=>⟨h',rfl,a,b⟩))
    (λ _ _ ⟨⟨h',e,a,b⟩,k⟩=>by subst e;exact hQ h' a b k) λ _ _ z=>z.1
theorem G7 {base:Heap} {l:List Env} {e:Addr} {cls a0 fl:Value} {Q:Unit->Shared->Prop} (hkb:base.StaysIn s.heap) (hl:s.heap.FunFrames base l) (ht:s.heap.TracedAtW base e cls a0 fl)
    (h:∀ h',base.StaysIn h'->h'.FunFrames base l->h'.TracedW base e cls a0->(∀ b o,s.heap.get? b=some o->(∀ vs,o.data≠ .fields vs)->h'.get? b=some o)->KD s.heap h'->Q () { s with heap:=h' }):
    wpAny M A (setFlight (.ref e) none) Q E s:=
  wpAny_mono (B8 (BX (.ref e) none) (wpAny_setFlight_noneW (Q:=λ _ s'=>∃ h',s'={ s with heap:=h' }/\base.StaysIn h'/\h'.FunFrames base l/\h'.TracedW base e cls a0/\∀ b o,s.heap.get? b=some o->(∀ vs,o.data≠ .fields vs)->h'.get? b=some o) hkb hl ht λ h' a b c d=>⟨h',rfl,a,b,c,d⟩))
    (λ _ _ ⟨⟨h',e,a,b,c,d⟩,k⟩=>by subst e;exact h h' a b c d k) λ _ _ z=>z.1
def DictIs (h:Heap) (a:Addr) (od:Option Addr):Prop:=∃ o,h.get? a=some o/\o.dict=od
theorem DictIs.on {h h':Heap} {a:Addr} {od:Option Addr} (x:DictIs h a od) (k:KD h h') (t:∃ o,h'.get? a=some o):DictIs h' a od:=by
  obtain ⟨o,e,d⟩:=x;obtain ⟨o',e'⟩:=t;exact ⟨o',e',(k.at' e e').trans d⟩
end
theorem HOk.on {P:Program} {w:World} {H:Hp} {h h':Heap} (x:HOk P w H h) (k:∀ b u,H b≠none->h.get? b=some u->h'.get? b=some u):HOk P w H h':=λ a o e=>
  (x a o e).stay (λ b u hb q=>k b u (by
    rcases hb with rfl | hb
    · rw [e];exact λ z=>by cases z
    · rw [hb];exact λ z=>by cases z) q) (λ _ q=>q) λ _ _ q=>q
theorem Jw {P:Program} {w:World} {H:Hp} {h:Heap} {a:Addr} {o:HO} (x:ObjOk P w H h a o):∃ u,h.get? a=some u:=by
  cases o with
  | lst xs=>obtain ⟨_,_,_,_,e⟩:=x;exact ⟨_,e⟩
  | tup xs=>obtain ⟨_,_,_,o,e,_⟩:=x;exact ⟨_,e⟩
  | dK kvs=>obtain ⟨_,_,_,_,o,_,_,e,_⟩:=x;exact ⟨_,e⟩
  | dT kvs=>obtain ⟨_,_,_,_,o,_,_,e,_⟩:=x;exact ⟨_,e⟩
  | set S n=>obtain ⟨o,_,_,_,e,_⟩:=x;exact ⟨_,e⟩
  | ins C dx fs=>obtain ⟨_,_,_,e,_⟩:=x;exact ⟨_,e⟩
  | own y=>exact x
  | xd fs=>obtain ⟨_,⟨_,_,_,e,_⟩,_⟩:=x;exact ⟨_,e⟩
  | rng lo hi=>obtain ⟨_,_,_,e⟩:=x;exact ⟨_,e⟩
  | frz ob u=>obtain ⟨e,_⟩:=x;exact ⟨_,e⟩
  | tbl ps=>exact ⟨_,(show h.get? a=some _ from x)⟩
  | met f y=>exact ⟨_,(show h.get? a=some _ from x)⟩
  | ext φ=>obtain ⟨_,e,_⟩:=x;exact e
def N0 (outer:List Env) (s:Shared) (H':Hp) (a C t:Addr) (s':Shared):Prop:=
  ∃ B:Heap,B.FlyingW outer a (.ref C) (.ref t) s'.heap/\∀ b,(H' b≠none\/∃ o,s.heap.get? b=some o)->b∉frs outer->∀ o,s'.heap.get? b=some o->B.get? b=some o
def CXE (P:Program) (w:World):CXT:=λ outer H s E e s'=>
  ∃ a C t od H',e= .ref a/\s'.os=s.os/\AllBare s'.gens/\Un (frs outer) [] H H' s.heap s'.heap/\HOk P w H' s'.heap/\N0 outer s H' a C t s'/\DictIs s'.heap a od/\E (.ref C) od H'
theorem BG {env:Env} {L:Addr} {outer:List Env} (h:env.frame=some L):frs (env::outer)=L::frs outer:=by
  unfold frs;rw [List.filterMap_cons,h]
theorem AF {h base:Heap}:∀ {l:List Env} {b:Addr},h.FunFrames base l->b∈frs l->base.get? b=none/\∃ o,h.get? b=some o/\∀ vs,o.data≠ .fields vs
  | [],b,_,hb=>by cases hb
  | env::l,b,⟨_,⟨L,o,e1,e2,e3,e4⟩,r⟩,hb=>by
    rw [BG e1] at hb;rcases List.mem_cons.mp hb with rfl | hb
    · exact ⟨e2,o,e3,e4⟩
    · exact AF r hb
end L2
namespace MSort
open PySem.W PyProof.Rows
def KP (lt:Nat->Nat->Bool) (n:Nat) {α:Type}:KasT α->(α->Prop)->Prop
  | .ret a,Q=>Q a
  | .ask i j k,Q=>i<n/\j<n/\KP lt n (k (lt i j)) Q
theorem Da {lt:Nat->Nat->Bool} {n:Nat} {α β:Type} {f:α->KasT β} {Q:β->Prop}:∀ (t:KasT α),KP lt n t (λ a=>KP lt n (f a) Q)->KP lt n (t.bind f) Q
  | .ret _,h=>h
  | .ask i j k,h=>⟨h.1,h.2.1,Da (k (lt i j)) h.2.2⟩
theorem BQ {lt:Nat->Nat->Bool} {n:Nat} {α:Type} {Q Q':α->Prop} (hq:∀ a,Q a->Q' a):∀ (t:KasT α),KP lt n t Q->KP lt n t Q'
  | .ret a,h=>hq a h
  | .ask i j k,h=>⟨h.1,h.2.1,BQ hq (k (lt i j)) h.2.2⟩
structure Ok (n:Nat) (p:Array Nat):Prop where
  size:p.size=n
  perm:p.toList.Perm (List.range n)
theorem Ok.lt {n:Nat} {p:Array Nat} (h:Ok n p) {i:Nat} (hi:i<n):p.getD i 0<n:=by
  have hi':i<p.size:=by rw [h.size];exact hi
  have e:p.getD i 0=p[i]:=by simp [Array.getD,hi']
  rw [e];have:=h.perm.mem_iff.mp (Array.mem_toList_iff.mpr (Array.getElem_mem hi'));exact List.mem_range.mp this
theorem Ok.inj {n:Nat} {p:Array Nat} (h:Ok n p) {i j:Nat} (hi:i<n) (hj:j<n) (e:p.getD i 0=p.getD j 0):i=j:=by
  have hi':i<p.size:=by rw [h.size];exact hi
  have hj':j<p.size:=by rw [h.size];exact hj
  have e1:p.getD i 0=p.toList[i]'(by simpa using hi'):=by simp [Array.getD,hi']
  have e2:p.getD j 0=p.toList[j]'(by simpa using hj'):=by simp [Array.getD,hj']
  rw [e1,e2] at e;have nd:p.toList.Nodup:=h.perm.symm.nodup List.nodup_range;exact (List.getElem_inj nd).mp e
theorem Ok.to {n:Nat} {p q:Array Nat} (h:Ok n p) (hq:q.Perm p):Ok n q:=
  ⟨hq.size_eq.trans h.size,(Array.perm_iff_toList_perm.mp hq).trans h.perm⟩
variable {r:Nat->Nat} {n:Nat} {p:Array Nat}
def K (r:Nat->Nat) (p:Array Nat) (i:Nat):Nat:=r (p.getD i 0)
def Inj (r:Nat->Nat) (n:Nat):Prop:=∀ i j,i<n->j<n->r i=r j->i=j
def L (r:Nat->Nat):Nat->Nat->Bool:=λ i j=>decide (r i<r j)
def Up (r:Nat->Nat) (p:Array Nat) (k:Nat):Prop:=∀ i j,i<j->j<k->K r p i<K r p j
def Dn (r:Nat->Nat) (p:Array Nat) (k:Nat):Prop:=∀ i j,i<j->j<k->K r p j<K r p i
theorem Mo (hr:Inj r n) (o:Ok n p) {i j:Nat} (hi:i<n) (hj:j<n) (hij:i≠j):K r p i≠K r p j:=
  λ e=>hij (o.inj hi hj (hr _ _ (o.lt hi) (o.lt hj) e))
theorem Dh {p q:Array Nat} {i j:Nat} (h:p[i]?=q[j]?):p.getD i 0=q.getD j 0:=by
  have e:∀ (a:Array Nat) k,a.getD k 0=(a[k]?).getD 0:=λ a k=>by simp
  rw [e,e,h]
theorem FU {src d:Nat} (hs:src<p.size) (hd:d<=src) (k:Nat):K r (bubble p src d) k=if k=src - d then K r p src else if src - d<k/\k<=src then K r p (k - 1) else K r p k:=by
  have e:=getElem?_bubble hs d hd k;unfold K;by_cases h1:k=src - d
  · rw [if_pos h1] at e ⊢;rw [Dh e]
  · rw [if_neg h1] at e ⊢;by_cases h2:src - d<k/\k<=src
    · rw [if_pos h2] at e ⊢;rw [Dh e]
    · rw [if_neg h2] at e ⊢;rw [Dh e]
theorem LA {j:Nat} (hj:j<=p.size) (k:Nat):K r (kas_rev p 0 j) k=if k<j then K r p (j - 1 - k) else K r p k:=by
  have e:=getElem?_mirror_all (i:=0) hj k;unfold K kas_rev;by_cases h1:k<j
  · rw [if_pos ⟨Nat.zero_le _,h1⟩] at e;rw [if_pos h1,Dh e,show 0+j - 1 - k=j - 1 - k by omega]
  · rw [if_neg (by omega)] at e;rw [if_neg h1,Dh e]
theorem asc (hr:Inj r n) (o:Ok n p):∀ (f m:Nat),m+f<=n->1<=m->Up r p m->KP (L r) n (kas_asc p f m) (λ m'=>m<=m'/\m'<=m+f/\Up r p m'/\(m'<m+f->K r p m'<K r p (m' - 1)))
  | 0,m,hm,h1,u=>⟨Nat.le_refl _,Nat.le_refl _,u,λ h=>absurd h (by omega)⟩
  | f+1,m,hm,h1,u=>by
    refine ⟨o.lt (by omega),o.lt (by omega),?_⟩;show KP (L r) n (if L r (p.getD m 0) (p.getD (m - 1) 0)=true then _ else _) _;by_cases c:K r p m<K r p (m - 1)
    · rw [if_pos (show L r (p.getD m 0) (p.getD (m - 1) 0)=true from decide_eq_true c)];exact ⟨Nat.le_refl _,by omega,u,λ _=>c⟩
    · rw [if_neg (show ¬ L r (p.getD m 0) (p.getD (m - 1) 0)=true from λ z=>c (of_decide_eq_true z))];have ne:=Mo hr o (i:=m) (j:=m - 1) (by omega) (by omega) (by omega);refine BQ (λ m' h=> ?_) _ (asc hr o f (m+1) (by omega) (by omega) ?_)
      · obtain ⟨h1,h2,h3,h4⟩:=h;exact ⟨by omega,by omega,h3,λ z=>h4 (by omega)⟩
      · intro i j hij hj;by_cases e:j=m
        · subst e;by_cases e':i=j - 1
          · subst e';omega
          · have:=u i (j - 1) (by omega) (by omega);omega
        · exact u i j hij (by omega)
theorem Pj (hr:Inj r n) (o:Ok n p):∀ (f m:Nat),m+f<=n->1<=m->Dn r p m->KP (L r) n (kas_desc f p m 0) (λ x=>x.1=p/\x.2.2=0/\m<=x.2.1/\x.2.1<=m+f/\Dn r p x.2.1)
  | 0,m,hm,h1,u=>⟨rfl,rfl,Nat.le_refl _,Nat.le_refl _,u⟩
  | f+1,m,hm,h1,u=>by
    refine ⟨o.lt (by omega),o.lt (by omega),?_⟩;show KP (L r) n (if L r (p.getD m 0) (p.getD (m - 1) 0)=true then _ else _) _;by_cases c:K r p m<K r p (m - 1)
    · rw [if_pos (show L r (p.getD m 0) (p.getD (m - 1) 0)=true from decide_eq_true c),if_neg (by omega)];refine BQ (λ m' h=> ?_) _ (Pj hr o f (m+1) (by omega) (by omega) ?_)
      · obtain ⟨h1,h2,h3,h4,h5⟩:=h;exact ⟨h1,h2,by omega,by omega,h5⟩
      · intro i j hij hj;by_cases e:j=m
        · subst e;by_cases e':i=j - 1
          · subst e';omega
          · have:=u i (j - 1) (by omega) (by omega);omega
        · exact u i j hij (by omega)
    · rw [if_neg (show ¬ L r (p.getD m 0) (p.getD (m - 1) 0)=true from λ z=>c (of_decide_eq_true z))];have ne:=Mo hr o (i:=m) (j:=m - 1) (by omega) (by omega) (by omega);refine ⟨o.lt (by omega),o.lt (by omega),?_⟩;show KP (L r) n (if L r (p.getD (m - 1) 0) (p.getD m 0)=true then _ else _) _;rw [if_pos (show L r (p.getD (m - 1) 0) (p.getD m 0)=true from decide_eq_true (show K r p (m - 1)<K r p m by omega))];exact ⟨rfl,rfl,Nat.le_refl _,Nat.le_add_right _ _,u⟩
theorem LY:Up r p 1:=λ i j a b=>by omega
theorem OR (hr:Inj r n) (o:Ok n p) {m:Nat} (h1:1<=m) (hm:m<=n) (d:Dn r p m):KP (L r) n (kas_tail3 m n p) (λ x=>Ok n x.2/\1<=x.1/\x.1<=n/\Up r x.2 x.1):=by
  unfold kas_tail3;have o':Ok n (kas_rev p 0 m):=o.to (mirror_perm _ _ _ _);have u:Up r (kas_rev p 0 m) m:=by
    intro i j hij hj;rw [LA (by rw [o.size];exact hm),LA (by rw [o.size];exact hm),if_pos (by omega),if_pos hj];exact d _ _ (by omega) (by omega)
  refine Da _ (BQ (λ m' h=> ?_) _ (asc hr o' (n - m) m (by omega) h1 u));exact ⟨o',by omega,by omega,h.2.2.1⟩
theorem count (hr:Inj r n) (o:Ok n p) (h0:1<=n):KP (L r) n (kas_count n p) (λ x=>Ok n x.2/\1<=x.1/\x.1<=n/\Up r x.2 x.1):=by
  unfold kas_count;refine Da _ (BQ (λ m h=> ?_) _ (asc hr o (n - 1) 1 (by omega) (by omega) LY));obtain ⟨a1,a2,a3,a4⟩:=h;by_cases e:m=n
  · rw [if_pos (by simp [e])];exact ⟨o,a1,by omega,a3⟩
  · rw [if_neg (by simpa using e)];have c:=a4 (by omega);by_cases g:m>1
    · rw [if_pos g];refine ⟨o.lt (by omega),o.lt (by omega),?_⟩;show KP (L r) n (if L r (p.getD 0 0) (p.getD (m - 1) 0)=true then _ else _) _;rw [if_pos (show L r (p.getD 0 0) (p.getD (m - 1) 0)=true from decide_eq_true (show K r p 0<K r p (m - 1) from a3 0 (m - 1) (by omega) (by omega)))];exact ⟨o,a1,by omega,a3⟩
    · rw [if_neg g];have e1:m=1:=by omega
      subst e1;unfold kas_descPart;refine Da _ (BQ (λ x h=> ?_) _ (Pj hr o (n - (1+1)) (1+1) (by omega) (by omega) ?_))
      · obtain ⟨b1,b2,b3,b4,b5⟩:=h;rw [if_neg (by omega),b1];exact OR hr o (by omega) (by omega) b5
      · intro i j hij hj;have:i=0/\j=1:=by omega
        obtain ⟨rfl,rfl⟩:=this;exact c
theorem place (hr:Inj r n) (o:Ok n p) {k:Nat} (hk:k<n):∀ (f l h:Nat),h - l<=f->l<=h->h<=k->(∀ i,i<l->K r p i<K r p k)->(∀ i,h<=i->i<k->K r p k<K r p i)->Up r p k->
    KP (L r) n (kas_place p k f l h) (λ x=>x<=k/\(∀ i,i<x->K r p i<K r p k)/\(∀ i,x<=i->i<k->K r p k<K r p i))
  | 0,l,h,e,a,b,c,d,u=>⟨by omega,c,λ i h1 h2=>d i (by omega) h2⟩
  | f+1,l,h,e,a,b,c,d,u=>by
    show KP (L r) n (if l>=h then _ else _) _;by_cases g:l>=h
    · rw [if_pos g];exact ⟨by omega,c,λ i h1 h2=>d i (by omega) h2⟩
    · rw [if_neg g];have hmk:(l+h) / 2<k:=by omega
      refine ⟨o.lt hk,o.lt (by omega),?_⟩;show KP (L r) n (if L r (p.getD k 0) (p.getD ((l+h) / 2) 0)=true then _ else _) _;by_cases z:K r p k<K r p ((l+h) / 2)
      · rw [if_pos (show L r (p.getD k 0) (p.getD ((l+h) / 2) 0)=true from decide_eq_true z)];refine place hr o hk f l _ (by omega) (by omega) (by omega) c (λ i h1 h2=> ?_) u;by_cases e':i=(l+h) / 2
        · rw [e'];exact z
        · have:=u _ i (show (l+h) / 2<i by omega) h2;omega
      · rw [if_neg (show ¬ L r (p.getD k 0) (p.getD ((l+h) / 2) 0)=true from λ y=>z (of_decide_eq_true y))];have ne:=Mo hr o hk (show (l+h) / 2<n by omega) (by omega);refine place hr o hk f _ h (by omega) (by omega) (by omega) (λ i h1=> ?_) d u;by_cases e':i=(l+h) / 2
        · rw [e'];omega
        · have:=u i _ (show i<(l+h) / 2 by omega) hmk;omega
theorem bin (hr:Inj r n):∀ (f k:Nat) (p:Array Nat),Ok n p->k+f=n->Up r p k->KP (L r) n (kas_bin f p k) (λ x=>Ok n x/\Up r x n)
  | 0,k,p,o,e,u=>⟨o,(show k=n by omega)▸u⟩
  | f+1,k,p,o,e,u=>by
    refine Da _ (BQ (λ l h=> ?_) _ (place hr o (k:=k) (by omega) k 0 k (by omega) (by omega) (Nat.le_refl _) (λ i h=>by omega) (λ i h1 h2=>by omega) u));obtain ⟨h1,h2,h3⟩:=h;have hs:k<p.size:=by rw [o.size];omega
    refine bin hr f (k+1) _ (o.to (bubble_perm _ _ _)) (by omega) ?_;intro i j hij hj;rw [FU hs (by omega),FU hs (by omega),show k - (k - l)=l by omega];by_cases a:i=l
    · rw [if_pos a,if_neg (by omega),if_pos (by omega)];exact h3 _ (by omega) (by omega)
    · rw [if_neg a];by_cases b:j=l
      · rw [if_pos b,if_neg (by omega)];exact h2 _ (by omega)
      · rw [if_neg b];by_cases c:l<i/\i<=k
        · rw [if_pos c,if_pos (by omega)];exact u _ _ (by omega) (by omega)
        · rw [if_neg c];by_cases d:l<j/\j<=k
          · rw [if_pos d];by_cases e:i<j - 1
            · exact u _ _ e (by omega)
            · omega
          · rw [if_neg d];exact u _ _ hij (by omega)
end MSort
namespace HT
open PySem PySem.Spec PyProof.Rows PySem.W
variable {prog:Program} {w:World} {A:Around} {E:Value->Shared->Prop} {s:Shared}
def RawD (d:Addr) (es:Array DictEntry) (ep:Nat) (h:Heap):Prop:=∃ o,h.get? d=some o/\o.ExactDict/\o.data= .dict es ep
theorem RawD.type {d:Addr} {es:Array DictEntry} {ep:Nat} (x:RawD d es ep s.heap):s.TypeIs (.ref d) "dict":=⟨_,x.choose_spec.1,x.choose_spec.2.1.1⟩
theorem RawD.to {d:Addr} {es:Array DictEntry} {ep:Nat} {h h':Heap} (x:RawD d es ep h) (k:∀ o,h.get? d=some o->h'.get? d=some o):RawD d es ep h':=⟨_,k _ x.choose_spec.1,x.choose_spec.2⟩
end HT
namespace HT
open PySem PySem.Spec PyProof.Rows PySem.W
variable {prog:Program} {w:World} {A:Around} {E:Value->Shared->Prop} {s:Shared}
def lexB (x:Str) (i:Int) (y:Str) (j:Int):Bool:=if x=y then decide (i<j) else decide (x.cps.toList<y.cps.toList)
end HT
namespace L2
open PySem PySem.Spec PyProof.Rows PySem.W
structure LexOk (rk:List Key->Nat) (ks:List (List Key)):Prop where
  shp:∀ k∈ks,∃ (x:Str) (i:Int),k=[.inr x, .inl i]
  inj:∀ k∈ks,∀ k'∈ks,rk k=rk k'->k=k'
  ord:∀ (x:Str) (i:Int) (y:Str) (j:Int),([.inr x, .inl i]:List Key)∈ks->([.inr y, .inl j]:List Key)∈ks->HT.lexB x i y j=decide (rk [.inr x, .inl i]<rk [.inr y, .inl j])
end L2
namespace L2
open PySem PySem.Spec PyProof.Rows
theorem EW {h base B:Heap}:∀ {l:List Env},h.FunFrames base l->(∀ b∈frs l,B.get? b=none)->h.FunFrames B l
  | [],_,_=>trivial
  | env::l,⟨k,⟨L,o,e1,e2,e3,e4⟩,r⟩,hb=>by
    rw [BG e1] at hb;exact ⟨k,⟨L,o,e1,hb L (List.mem_cons_self ..),e3,e4⟩,EW r λ b h'=>hb b (List.mem_cons_of_mem _ h')⟩
section
variable {P:Program} {w:World} {K:PySem.W.Frag} {mg:Str->Option Value} {base:Heap} {N:List Str} {qual:Str} {scope:Scope} {f:Addr} {cd:Value} {A:Around} {outer:List Env} {s₀:Shared} {H₀:Hp} {E:XK}
end
theorem CU {h h1 h2:Heap} (a:h.UpToSlots h1) (b:h1.UpToSlots h2):h.UpToSlots h2:=λ c o e nf=>by
  obtain ⟨sl,e1⟩:=a c o e nf;obtain ⟨sl2,e2⟩:=b c _ e1 nf;exact ⟨sl2,e2⟩
theorem Jb {P:Program} {w:World} {l:List Env} {s s₁:Shared} {H H':Hp} {a C t:Addr} {B h3:Heap} (un:Un (frs l) [] H H' s.heap s₁.heap) (hok:HOk P w H' s₁.heap) (fl:B.FlyingW l a (.ref C) (.ref t) s₁.heap)
    (cov:∀ b,(H' b≠none\/∃ o,s.heap.get? b=some o)->b∉frs l->∀ o,s₁.heap.get? b=some o->B.get? b=some o) (untr:∀ b∈frs l,H' b=none) (fl3:B.FlyingW l a (.ref C) (.ref t) h3) (ups:s₁.heap.UpToSlots h3):
    Un (frs l) [] H H' s.heap h3/\HOk P w H' h3:=by
  have inB:∀ b,(H' b≠none\/∃ o,s.heap.get? b=some o)->b∉frs l->∀ o,s₁.heap.get? b=some o->h3.get? b=some o:=λ b hb hn o e=>fl3.1 b o (cov b hb hn o e);refine ⟨⟨λ b o e hH hn hx=>inB b (.inr ⟨o,e⟩) hn o (un.keep b o e hH hn hx),λ b o e hH hb hx=> ?_,un.free,λ b o e hx=> ?_,un.tups,un.frzs,un.tbls⟩,hok.on λ b u hb e=>inB b (.inl hb) (λ z=>hb (untr b z)) u e⟩
  · obtain ⟨sl,e1⟩:=un.slot b o e hH hb hx;obtain ⟨_,o',e',nf⟩:=AF fl.2.2.1 hb;rw [e1] at e';cases e';obtain ⟨sl3,e3⟩:=ups b _ e1 nf;exact ⟨sl3,e3⟩
  · obtain ⟨o1,e1⟩:=un.there b o e hx;by_cases hb:b∈frs l
    · obtain ⟨_,o',e',nf⟩:=AF fl.2.2.1 hb;obtain ⟨sl,e2⟩:=ups b _ e' nf;exact ⟨_,e2⟩
    · exact ⟨o1,inB b (.inr ⟨o,e⟩) hb o1 e1⟩
def B4 (a C:Addr) (od:Option Addr):HO:= .ext λ h=>∃ o,h.get? a=some o/\o.cls= .ref C/\o.dict=od/\∃ vs,o.data= .fields vs
theorem M9 {P:Program} {w:World} {H:Hp} {h:Heap} {a C:Addr} {o:Obj} {vs:Array Value} (e:h.get? a=some o) (c:o.cls= .ref C) (d:o.data= .fields vs):ObjOk P w H h a (B4 a C o.dict):=
  ⟨⟨o,e,c,rfl,vs,d⟩,⟨o,e⟩,λ _ _ ⟨o,e,c⟩ k=>⟨o,k o e,c⟩⟩
theorem IQ {P:Program} {w:World} {H:Hp} {h:Heap} {a:Addr} {u:HO} (hok:HOk P w H h) (n:H a=none) (new:ObjOk P w (upd H a u) h a u):HOk P w (upd H a u) h:=λ b o e=>by
  by_cases z:b=a
  · subst z;rw [Ab] at e;cases e;exact new
  · rw [Ai z] at e;have ne:∀ c v,H c=some v->c≠a:=λ c v q z=>by rw [z,n] at q;cases q
    exact (hok b o e).stay (λ c v _ q=>q) (λ c q=>(Ai (ne c _ q)).trans q) λ c xs q=>(Ai (ne c _ q)).trans q
theorem JQ {fs ex:List Addr} {H H':Hp} {h h':Heap} {a:Addr} {u:HO} (un:Un fs ex H H' h h') (n:H' a=none) (na:h.get? a=none):Un fs ex H (upd H' a u) h h':=by
  have ne:∀ c v,H' c=some v->c≠a:=λ c v q z=>by rw [z,n] at q;cases q
  refine ⟨un.keep,un.slot,λ b o e hH hx=> ?_,un.there,λ b xs e=> ?_,λ b o v e=> ?_,λ b ps e=> ?_⟩
  · have z:b≠a:=λ z=>by rw [z,na] at e;cases e
    rw [Ai z];exact un.free b o e hH hx
  · have:=un.tups b xs e;exact (Ai (ne _ _ this)).trans this
  · have:=un.frzs b o v e;exact (Ai (ne _ _ this)).trans this
  · obtain ⟨m,this⟩:=un.tbls b ps e;exact ⟨m,(Ai (ne _ _ this)).trans this⟩
section
variable {X:Cx} {pins:List (Addr × Obj)} {σ:St} {H:Hp} {s s₁:Shared} {E:XK} {e:Value}
theorem O2 {E1 E2:Value->Shared->Prop} {R:Shared->Prop} (I:Inv X pins σ H s) (hst:X.stack=X.env::X.outer) (hf:X.env.frame=some X.env.locals) (h:CXE X.prog X.w X.stack H s E e s₁)
    (k:∀ (a C t:Addr) (od:Option Addr) (H':Hp) (B h3:Heap),e= .ref a->B.FlyingW X.stack a (.ref C) (.ref t) h3->s₁.heap.UpToSlots h3->DictIs h3 a od->(∀ h4:Heap,B.FlyingW X.stack a (.ref C) (.ref t) h4->s₁.heap.UpToSlots h4->DictIs h4 a od->Inv X pins σ H' { s₁ with heap:=h4 }/\Inv X pins σ (upd H' a (B4 a C od)) { s₁ with heap:=h4 })->H' a=none->E (.ref C) od H'->R { s₁ with heap:=h3 }):
    wpAny (model X.prog X.w) X.A (noteFrame e X.env) (λ _ s₂=>wpAny (model X.prog X.w) X.A (setFlight e none) (λ _ s₃=>R s₃) E2 s₂) E1 s₁:=by
  obtain ⟨a,C,t,od,H',rfl,os,bare,un,hok,⟨B,fl,cov⟩,di,q⟩:=h;have untr:∀ b∈frs X.stack,H' b=none:=λ b hb=>by
    obtain ⟨_,o,e,_⟩:=AF I.stack hb;exact un.free b o e (I.stkFree b hb) (by simp)
  obtain ⟨oa,hoa,hca⟩:=fl.there;have af:a∉frs X.stack:=λ z=>by
    obtain ⟨_,_,_,oe,vs,T,oT,ts,he,hcls,hd,_⟩:=id fl;obtain ⟨_,o',e',nf⟩:=AF fl.2.2.1 z;rw [he] at e';cases e';exact nf _ hd
  have an:H' a=none:=by
    cases hx:H' a with
    | none=>rfl
    | some u=>
      have:=cov a (.inl (by rw [hx];exact λ z=>by cases z)) af oa hoa;rw [fl.2.1] at this;cases this
  have as:s.heap.get? a=none:=by
    cases hx:s.heap.get? a with
    | none=>rfl
    | some o=>
      have:=cov a (.inr ⟨o,hx⟩) af oa hoa;rw [fl.2.1] at this;cases this
  have fl':=fl;rw [hst] at fl';refine HU (by rw [I.ok.frames,hst]) hf fl' λ h2 hh u2 kd2=>Ni (s:={ s₁ with heap:=h2 }) hh λ h3 fl3 u3 kd3=> ?_;rw [<-hst] at fl3;refine k a C t od H' B h3 rfl fl3 (CU u2 u3) (di.on (kd2.trans kd3) (let ⟨o,e,_⟩:=fl3.there;⟨o,e⟩)) (λ h4 fl4 u4 di4=> ?_) an q;obtain ⟨un4,hok4⟩:=Jb un hok fl cov untr fl4 u4;obtain ⟨_,_,_,o4,vs4,_,_,_,e4,⟨c4,_⟩,dd4,_⟩:=id fl4;have d4:o4.dict=od:=by
    obtain ⟨o5,e5,d5⟩:=di4;rw [e4] at e5;cases e5;exact d5
  subst d4;exact ⟨I.call' (s':={ s₁ with heap:=h4 }) (ch:=[]) os un4 hok4 bare (λ _ z=>by cases z),I.call' (s':={ s₁ with heap:=h4 }) (ch:=[]) os (JQ un4 an as) (IQ hok4 an (M9 e4 c4 dd4)) bare (λ _ z=>by cases z)⟩
end
def Cx.tryC (X:Cx) (pn:List (Addr × Obj)) (xe:Value->Shared->Prop):Cx:={ X with pn:=pn,xe:=xe }
def Cx.markC (X:Cx) (a:Addr) (xe:Value->Shared->Prop):Cx:={ X with A:=X.A.mark (some (.ref a)),calm:=false,xe:=xe }
section
variable {X:Cx} {pins pins0:List (Addr × Obj)} {σ:St} {H:Hp} {s:Shared} {xe:Value->Shared->Prop}
theorem Inv.tryC (I:Inv X pins σ H s):Inv (X.tryC (X.pn++pins) xe) [] σ H s:=
  ⟨⟨I.ok.mod,I.ok.kind,I.ok.glob,I.ok.blt,I.ok.above,I.ok.inj,I.ok.has,I.ok.cab,I.ok.hd,I.ok.frames,I.ok.stk,I.ok.exf,I.ok.bs,I.ok.bsz,I.ok.noex,I.ok.exfs,I.ok.funs,I.ok.frf⟩,
    I.os,I.bare,I.base,I.loc,I.cell,I.free,I.freeC,λ p hp=>I.pin p (by simpa [Cx.tryC] using hp),I.hok,I.len⟩
theorem Inv.untry (ok:X.Ok) (I:Inv (X.tryC (X.pn++pins0) xe) pins σ H s):Inv X pins0 σ H s:=
  ⟨ok,I.os,I.bare,I.base,I.loc,I.cell,I.free,I.freeC,λ p hp=>I.pin p (List.mem_append_left _ hp),I.hok,I.len⟩
theorem Inv.markC {a:Addr} (I:Inv X pins σ H s):Inv (X.markC a xe) pins σ H s:=
  ⟨⟨I.ok.mod,I.ok.kind,I.ok.glob,I.ok.blt,I.ok.above,I.ok.inj,I.ok.has,I.ok.cab,λ z=>(by cases z),I.ok.frames,I.ok.stk,I.ok.exf,I.ok.bs,I.ok.bsz,I.ok.noex,I.ok.exfs,I.ok.funs,I.ok.frf⟩,
    I.os,I.bare,I.base,I.loc,I.cell,I.free,I.freeC,I.pin,I.hok,I.len⟩
theorem Inv.unmark {a:Addr} (ok:X.Ok) (I:Inv (X.markC a xe) pins σ H s):Inv X pins σ H s:=
  ⟨ok,I.os,I.bare,I.base,I.loc,I.cell,I.free,I.freeC,I.pin,I.hok,I.len⟩
theorem Fe {M:Model} {A:Around} {E:Value->Shared->Prop} {i:Nat} {x:Str} {v:V} {Q:Unit->Shared->Prop} (I:Inv X pins σ H s) (hN:X.N.Nodup) (hi:X.N[i]?=some x) (hx:X.env.scope.names.lookup x=some .local) (hv:σ[i]?=some (some v))
    (h:∀ s',Inv X pins (σ.set i none) H s'->Q () s'):wpAny M A (unbindName X.env x) Q E s:=by
  obtain ⟨m,hn,hl⟩:=id I.loc;have hcls:(X.env.scope.kind == .class||(X.env.scope.kind == .module&&X.env.locals != X.env.globals))=false:=by rw [I.ok.kind];rfl
  obtain ⟨u0,_,q0⟩:=hl i x v hi hv (.inl hx);have hm:m x=some u0:=by
    rcases q0 with ⟨_,e⟩ | ⟨k,_⟩
    · exact e
    · rcases k with k | k
      · rw [show X.env.kindOf x=some .local from hx] at k;cases k
      · rw [show X.env.kindOf x=some .local from hx] at k;cases k
  have hiσ:i<σ.length:=by rw [I.len];exact (List.getElem?_eq_some_iff.mp hi).1
  have cne:=I.cne;refine wpAny_unbindName_local hx hn hm hcls λ h' u hn' hs=> ?_;obtain ⟨oL,_,_,hoL,_⟩:=id hn;have neL:∀ b o,X.s₀.heap.get? b=some o->b≠X.env.locals:=λ b o e=>Nat.ne_of_lt (Nat.lt_of_lt_of_le (Heap.lt_size e) I.ok.above);refine h _ ⟨I.ok,I.os,I.bare,⟨λ b o e n hb hx=> ?_,λ b o e n hb hx=> ?_,I.base.free,λ b o e hx=> ?_,I.base.tups,I.base.frzs,I.base.tbls⟩,⟨_,hn',λ j y v' e1 e2 e3=> ?_⟩,λ y c e=> ?_,I.free,I.freeC,λ p hp=> ?_,λ b ob e=> ?_,by simpa using I.len⟩
  · exact (hs.2 b (neL b o e)).trans (I.base.keep b o e n hb hx)
  · obtain ⟨sl,e1⟩:=I.base.slot b o e n hb hx;exact ⟨sl,(hs.2 b (neL b o e)).trans e1⟩
  · obtain ⟨o',e1⟩:=I.base.there b o e hx;exact ⟨o',(hs.2 b (neL b o e)).trans e1⟩
  · by_cases hj:j=i
    · subst hj;rw [List.getElem?_set_self hiσ] at e2;cases e2
    · rw [List.getElem?_set_ne (Ne.symm hj)] at e2;obtain ⟨u',r',q⟩:=hl j y v' e1 e2 e3;refine ⟨u',r',?_⟩;rcases q with ⟨k,e⟩ | ⟨k,c,e,z⟩
      · refine .inl ⟨k,?_⟩;have:y≠x:=λ e=>hj (Ey hN e1 (e▸hi));simp [this,e]
      · exact .inr ⟨k,c,e,z.sameBut hs (cne y c e)⟩
  · obtain ⟨w',z⟩:=I.cell y c e;exact ⟨w',z.sameBut hs (cne y c e)⟩
  · obtain ⟨e,n,ne,nf,d⟩:=I.pin p hp;exact ⟨(hs.2 p.1 ne).trans e,n,ne,nf,d⟩
  · refine (I.hok b ob e).stay (λ c w' hc q=>(hs.2 c ?_).trans q) (λ _ q=>q) λ _ _ q=>q;rintro rfl;rcases hc with rfl | hc
    · rw [I.free] at e;cases e
    · rw [I.free] at hc;cases hc
end
def IY (j:Nat) (D:Ends):Ends:={ nx:=λ σ H=>D.nx (σ.set j none) H,rt:=D.rt,bk:=λ σ H=>D.bk (σ.set j none) H,ct:=λ σ H=>D.ct (σ.set j none) H }
def Nj (K:PySem.W.Frag) (CL:Addr) (len j:Nat) (ts:TS) (D:Ends):XK:=λ cls od H'=>∃ C,cls= .ref C/\PySem.W.exmOne K cls (.ref CL)=some true/\
  ∀ (a:Addr) (σ:St),H' a=none->σ.length=len->ts (IY j D) (σ.set j (some (.ref a))) (upd H' a (B4 a C od))
def OM (K:PySem.W.Frag) (CL:Addr) (len j:Nat) (tb:XK->TS) (ts:TS):TS:=λ D σ H=>tb (Nj K CL len j ts D) D σ H
end L2
namespace L2
open PySem PySem.Spec PyProof.Rows PySem.W
theorem M5 {X:Cx} {x n:Str} {CL:Addr} {j:Nat} {body:List Stmt} {b₀:Stmt} {suite:List Stmt} {tb:XK->TS} {ts:TS} {xp hp pos:Pos} (hst:X.stack=X.env::X.outer) (hf:X.env.frame=some X.env.locals) (hm:X.mg x=some (.ref CL))
    (hN:X.N.Nodup) (hj:X.N[j]?=some n) (hx:X.env.scope.names.lookup n=some .local)
    (hb:∀ (pn:List (Addr × Obj)) (xe:Value->Shared->Prop) (E:XK),CK (CXE X.prog X.w) (X.tryC pn xe) E->PSs (X.tryC pn xe) body (tb E)) (hs:∀ (a:Addr) (xe:Value->Shared->Prop),PSs (X.markC a xe) (b₀::suite) ts)
    (hg:Gl X x:=by rfl) (hd:(x == ("__debug__":Str))=false:=by decide):
    PS X (.Try body [.ExceptHandler (some (.Name x xp)) (some n) (b₀::suite) hp] [] [] pos) (OM X.K CL X.N.length j tb ts):=by
  intro pins s σ H D I h;refine wpAny_Try_except ?_;have pass:CK (CXE X.prog X.w) (X.tryC (X.pn++pins) (λ e s₁=>wpAny (model X.prog X.w) X.A (noteFrame e X.env) (λ _ s₂=>wpAny (model X.prog X.w) X.A (setFlight e none) (λ _ s₃=>wpAny (model X.prog X.w) X.A (handleBy e X.env [.ExceptHandler (some (.Name x xp)) (some n) (b₀::suite) hp]) (SP X pins D) X.xe s₃) X.xe s₂) X.xe s₁)) (Nj X.K CL X.N.length j ts D):=by
    intro pins' σ' H1 s1 e s' I1 hc;have I1':Inv X pins σ' H1 s1:=I1.untry I.ok;refine O2 I1' hst hf hc λ a C t od H' B h3 e0 fl3 u3 di3 inv an q=> ?_;subst e0;obtain ⟨C',eC,hx',hr⟩:=q;cases eC;have I3:=(inv h3 fl3 u3 di3).1;obtain ⟨oa,hoa,hca⟩:=fl3.there;refine wpAny_handleBy_cons (codeAny_handlers_test ?_) (by intro q;cases q);refine Calls.Name_function_global I.ok.kind hg (Calls.loadGlobal_global (by rw [I.ok.glob];exact I.mod.glob.keeps I3.bk) hm ?_) hd;have lt:Looks (model X.prog X.w) h3 (typeOf (.ref a)) (.ref C):=hca▸(Looks.ld hoa).andThen .now;refine Looks.here (s:={ s' with heap:=h3 }) (PySem.W.exm_one (K:=X.K) I3.kIn lt hx') ?_;show codeAny _ _ (.handlers (.ref a) [.ExceptHandler none (some n) (b₀::suite) hp] X.env) _ _;refine codeAny_handlers_suite_as ?_;refine G7 (base:=B) (l:=X.stack) (s:={ s' with heap:=h3 }) fl3.1 fl3.2.2.1 fl3.2.2.2 λ h4 k1 k2 k3 k4 kd4=> ?_;have fl4:B.FlyingW X.stack a (.ref C) (.ref t) h4:=⟨k1,fl3.2.1,k2,k3⟩;have u4:s'.heap.UpToSlots h4:=CU u3 λ b o e nf=>⟨o.slots,k4 b o e nf⟩;have I4:=(inv h4 fl4 u4 (di3.on kd4 (let ⟨o,e,_⟩:=fl4.there;⟨o,e⟩))).2;refine AY (v:= .ref a) I4 hN hj (.inl hx) rfl (λ s5 I5=> ?_) (.inr hx);refine wpAny_mono (hs a _ pins s5 _ _ (IY j D) I5.markC (hr a σ' an I1'.len)) (λ f s6 hq=> ?_) λ _ _ y=>y;have fin:∀ σ6 H6,Inv X pins σ6 H6 s6->∀ Qf:Shared->Prop,(∀ s7,Inv X pins (σ6.set j none) H6 s7->Qf s7)->wpAny (model X.prog X.w) X.A (do bindName X.env n .none;unbindBehindTheSuite X.env n hp) (λ _ s₃=>Qf s₃) X.xe s6:=λ σ6 H6 I6 Qf hQ=>by
      refine wpAny_bind (bindName_ (AY (v:= .non) I6 hN hj (.inl hx) rfl (λ s7 I7=> ?_) (.inr hx)));unfold unbindBehindTheSuite;have hl6:j<σ6.length:=by rw [I6.len];exact (List.getElem?_eq_some_iff.mp hj).1
      refine wpAny_onRaise (Fe (v:= .non) I7 hN hj hx (by rw [List.getElem?_set_self hl6]) λ s8 I8=> ?_);rw [List.set_set] at I8;exact hQ s8 I8
    show wpAny (model X.prog X.w) X.A (do bindName X.env n .none;unbindBehindTheSuite X.env n hp) (λ _ s₃=>SP X pins D f s₃) X.xe s6;cases f with
    | next=>
      obtain ⟨σ6,H6,I6,q6⟩:=hq;exact fin σ6 H6 (I6.unmark I.ok) _ λ s7 I7=>⟨_,_,I7,q6⟩
    | brk=>
      obtain ⟨σ6,H6,I6,q6⟩:=hq;exact fin σ6 H6 (I6.unmark I.ok) _ λ s7 I7=>⟨_,_,I7,q6⟩
    | cont=>
      obtain ⟨σ6,H6,I6,q6⟩:=hq;exact fin σ6 H6 (I6.unmark I.ok) _ λ s7 I7=>⟨_,_,I7,q6⟩
    | ret u=>
      obtain ⟨v6,σ6,H6,I6,r6,q6⟩:=hq;exact fin σ6 H6 (I6.unmark I.ok) _ λ s7 I7=>⟨v6,_,_,I7,r6,q6⟩
  refine wpAny_mono (hb _ _ _ pass [] s σ H D I.tryC h) (λ f s₁ hq=> ?_) λ _ _ y=>y;cases f with
  | next=>
    obtain ⟨σ',H',I',q'⟩:=hq;exact wpAny_execs_nil ⟨σ',H',I'.untry I.ok,q'⟩
  | brk=>
    obtain ⟨σ',H',I',q'⟩:=hq;exact ⟨σ',H',I'.untry I.ok,q'⟩
  | cont=>
    obtain ⟨σ',H',I',q'⟩:=hq;exact ⟨σ',H',I'.untry I.ok,q'⟩
  | ret u=>
    obtain ⟨v',σ',H',I',r',q'⟩:=hq;exact ⟨v',σ',H',I'.untry I.ok,r',q'⟩
end L2
namespace HT
open PySem PySem.Spec PyProof.Rows PySem.W PySem.Calls PySem.Builtin PySem.Builtin.ObjectAttr PySem.Builtin.Getset_descriptor
def ExcAt (a C:Addr) (h:Heap):Prop:=∃ o,h.get? a=some o/\o.cls= .ref C
structure ExcKind (K:Frag) (C:Addr):Prop where
  cl:(clsIn K C).isSome=true
  ga:findIn K (.ref C) "__getattribute__"=some (some (.builtin "BaseException.__getattribute__"))
  ng:findIn K (.ref C) "__getattr__"=some none
  hb:mroIn K C (.type "BaseException")=some true
  ha:findIn K (.ref C) "__class__"=some (some (.builtin "object.__class__"))
  hn:specialIn K (.builtin "object.__class__") "__get__"=some (some (.builtin "getset_descriptor.__get__"))
  htk:takesIn K (.builtin "object.__class__")=some true
  hm:mroIn K C (.type "object")=some true
theorem ExcAt.type {M:Model} {h:Heap} {a C:Addr} (x:ExcAt a C h):Looks M h (typeOf (.ref a)) (.ref C):=by
  obtain ⟨o,e,c⟩:=x;exact c▸(Looks.ld e).andThen .now
theorem Jj {K:Frag} {M:Model} {h:Heap} {a C:Addr} (k:ExcKind K C) (X:K.In h):Looks M h (find (.ref a) (.ref C) "__class__") (.bind (.builtin "getset_descriptor.__get__") (.builtin "object.__class__")):=by
  have L1:=looks_findIn (M:=M) X k.ha;have L2:Looks M h (getOf (some (.builtin "object.__class__"))) (some (.builtin "getset_descriptor.__get__")):=looks_specialIn X k.hn;have L3:=looks_takesIn (M:=M) X k.htk;exact L1.andThen (L2.andThen ((show Looks M h (dataDescriptor? (some (.builtin "object.__class__")) (some (.builtin "getset_descriptor.__get__"))) (some (.builtin "getset_descriptor.__get__", .builtin "object.__class__")) from L3.andThen .now).andThen (Looks.tag .now)))
section
variable {prog:Program} {w:World} {A:Around} {E:Value->Shared->Prop} {s:Shared} {K:Frag} {a C:Addr}
theorem Ks {R:Result->Shared->Prop} {tp:Value} (X:K.In s.heap) (x:ExcAt a C s.heap) (hm:mroIn K C (.type "object")=some true) (h:R (.ok (.ret (.ref C))) s):
    codeAny (model prog w) A (.call (.builtin "getset_descriptor.__get__") ⟨[.builtin "object.__class__", .ref a,tp],[]⟩) R s:=by
  obtain ⟨hh,g,dr,t,os⟩:=s;have L0:=x.type (M:=model prog w);have L1:=looks_mroIn (M:=model prog w) X hm;refine codeAny_call_builtin KF.slot_gs.plain KF.entry_gs (KF.slot_gs.check _ _ _ _ _ _ _ _ KF.type_class (KF.args_gs _ _ _) ?_);unfold Builtin.«getset_descriptor.__get__» descrGet;rw [dga_obj];refine wpAny_bind (wpAny_pure ?_);unfold descrGetter descrCheckInstance descrNameAndClass isInstance;simp only [KF.owner_class]
  repeat lk
  refine ⟨Code.quiet_builtin _ (by decide +kernel),codeAny_builtin KF.entry_class ?_⟩;unfold Builtin.«object.__class__» shownTypeOf
  repeat lk
  exact h
theorem E6 {Q:Unit->Shared->Prop} {nameV:Value} (k:ExcKind K C) (X:K.In s.heap) (x:ExcAt a C s.heap) (h:Q () s):wpAny (model prog w) A (checkBuiltinCall "BaseException.__getattribute__" ⟨[.ref a,nameV],[]⟩) Q E s:=by
  have hk:builtinKind "BaseException.__getattribute__"=some .slot:=by decide +kernel
  have hsplit:splitId "BaseException.__getattribute__"=some ("BaseException","__getattribute__"):=by decide +kernel
  have ha:=PySem.F.args_bexc_ga (.ref a) nameV;have L0:=x.type (M:=model prog w);have L1:=looks_mroIn (M:=model prog w) X k.hb;simp only [checkBuiltinCall,hk,hsplit];refine wpAny_bind ?_;unfold isInstance
  repeat lk
  exact h
theorem HA {Q:Option Value->Shared->Prop} (k:ExcKind K C) (X:K.In s.heap) (x:ExcAt a C s.heap) (h:Q (some (.ref C)) { s with toks:=s.toks+1 }):wpAny (model prog w) A (getAttr? (.ref a) "__class__") Q E s:=by
  obtain ⟨hh,g,d,t,os⟩:=s;have L0:=x.type (M:=model prog w);have L1:=looks_findIn (M:=model prog w) X k.ga;have L2:=looks_findIn (M:=model prog w) X k.ng;have L3:=Jj (M:=model prog w) (a:=a) k X;unfold getAttr? getAttrBy? getAttrBy;refine wpAny_bind (wpAny_mkText (wpAny_bind (wpAny_attempt (wpAny_holding (wpAny_bind (L0.at (wpAny_bind (L1.at ?_))))))));show wpAny _ _ (getAttrByItsOwn (.ref a) _ (.ref C) (.builtin "BaseException.__getattribute__") false false) _ _ _;unfold getAttrByItsOwn;refine wpAny_bind (L2.at ?_);refine wpAny_bind (wpAny_attempt (wpAny_holding ?_));show wpAny _ _ (boundAndCalled (.builtin "BaseException.__getattribute__") (.ref a) _) _ _ _;unfold boundAndCalled;rw [PySem.F.excAttr_ValueError.ga.bind (.ref a)];refine wpAny_bind (wpAny_pure ?_);refine wpAny_call (codeAny_call_builtin PySem.F.excAttr_ValueError.ga.plain PySem.F.entry_bexc_ga (E6 (s:=⟨hh,g,d,t+1,os⟩) k X x ?_));unfold Builtin.«object.__getattribute__»
  iterate 22 lk
  refine wpAny_call (Ks (s:=⟨hh,g,d,t+1,os⟩) X x k.hm ?_)
  repeat lk
  exact h
theorem kitx_exc (k:ExcKind K C):KitX K (.ref a) (.ref C) (ExcAt a C) where
  ty:=λ _ _ _ x=>x.type
  it:=λ _ _ X _=>by
    obtain ⟨cd,hc⟩:=Option.isSome_iff_exists.mp k.cl;unfold clsIn at hc;split at hc
    · rename_i c' d' cd' sl' ho
      intro A' Q' E' s' kk q;unfold isType loadHead;exact wpAny_bind (wpAny_loadPart (kk _ _ (X _ _ ho)) (wpAny_pure q))
    · cases hc
  ne:=λ h tp dd its n sl X htp=>by
    obtain ⟨cd,hc⟩:=Option.isSome_iff_exists.mp k.cl;refine Bool.eq_false_iff.mpr λ q=> ?_;have e:C=tp:=Value.ref.inj (beq_iff_eq.mp q);subst e;unfold clsIn at hc;split at hc
    · rename_i c' d' cd' sl' ho
      have z:=(X _ _ ho).symm.trans htp;cases z
    · cases hc
  ca:=λ X x h=>HA k X x h
end
end HT
namespace L2
open PySem PySem.Spec PyProof.Rows
theorem Jz {X:Cx} {pins:List (Addr × Obj)} {σ:St} {H:Hp} {s:Shared} {A:Around} {E:Value->Shared->Prop} {Q:Value->Shared->Prop} {a C:Addr} {od:Option Addr} {c:Value} {b:Bool} (I:Inv X pins σ H s) (e:H a=some (B4 a C od)) (k:HT.ExcKind X.K C)
    (h:PySem.W.kitOne X.K (.ref C) c=some b) (hq:∀ tk,Q (.bool b) { s with toks:=tk }):wpAny (model X.prog X.w) A (call (.builtin "isinstance") [.ref a,c]) Q E s:=
  PySem.W.kia_one (HT.kitx_exc k) I.kIn (show HT.ExcAt a C s.heap from let ⟨o,h1,h2,_⟩:=(show ObjOk X.prog X.w H s.heap a (B4 a C od) from I.hok a _ e).1;⟨o,h1,h2⟩) h (λ z=>nomatch z) hq
def GC (K:PySem.W.Frag):List V->Hp->VK->Prop:=λ xs H Q=>∃ (y c:V) (cv t:Value) (b:Bool),xs=[y,c]/\((∃ D,c= .ref D/\cv= .ref D)\/∃ T,c= .ty T/\cv= .type T)/\PySem.W.kitOne K t cv=some b/\
  (TyOf K H y t\/∃ a C od,y= .ref a/\H a=some (B4 a C od)/\t= .ref C/\HT.ExcKind K C)/\Q (.bl b) H
theorem Be {X:Cx} {K:PySem.W.Frag} (hK:X.K=K:=by rfl):Ba X (.builtin "isinstance") (GC K):=by
  subst hK;intro pins s σ H xs us Q I r h;obtain ⟨y,c,cv,t,b,rfl,hc,e,hy,q⟩:=h;obtain ⟨u,c',rfl,rx,rc⟩:=JI r;have ec:c'=cv:=by
    rcases hc with ⟨D,rfl,rfl⟩ | ⟨T,rfl,rfl⟩
    · exact rc
    · exact rc
  subst ec;rcases hy with ty | ⟨a,C,od,rfl,ha,rfl,k⟩
  · exact ES I rx ty e λ tk=>⟨.bl b,H,I.tok tk,rfl,q⟩
  · cases rx;exact Jz I ha k e λ tk=>⟨.bl b,H,I.tok tk,rfl,q⟩
theorem A6 {K:PySem.W.Frag} {H:Hp} {Q:VK} {a C D:Addr} {od:Option Addr} {b:Bool} (ha:H a=some (B4 a C od)) (k:HT.ExcKind K C) (e:PySem.W.kitOne K (.ref C) (.ref D)=some b) (h:Q (.bl b) H):GC K [.ref a, .ref D] H Q:=
  ⟨_,_,_,_,b,rfl, .inl ⟨D,rfl,rfl⟩,e, .inr ⟨a,C,od,rfl,ha,rfl,k⟩,h⟩
theorem Ig {K:PySem.W.Frag} {H:Hp} {Q:VK} {a C:Addr} {od:Option Addr} {T:String} {b:Bool} (ha:H a=some (B4 a C od)) (k:HT.ExcKind K C) (e:PySem.W.kitOne K (.ref C) (.type T)=some b) (h:Q (.bl b) H):GC K [.ref a, .ty T] H Q:=
  ⟨_,_,_,_,b,rfl, .inr ⟨T,rfl,rfl⟩,e, .inr ⟨a,C,od,rfl,ha,rfl,k⟩,h⟩
end L2
namespace HT
open PySem PySem.Spec PyProof.Rows PySem.W
end HT
namespace L2
open PySem PySem.Spec PyProof.Rows
def CallE (P:Program) (w:World) (K:PySem.W.Frag) (mg:Str->Option Value) (base:Heap) (x:Str) (k:Nat) (ps:List Str) (sp:Sp):Prop:=
  ∃ f fd,mg x=some (.ref f)/\PySem.W.keepIn K (.ref f)=true/\FnOk P w K mg base (CXE P w) k f fd ps sp/\Binds K fd ps []
theorem DefAt.callE {P:Program} {w:World} {K:PySem.W.Frag} {mg:Str->Option Value} {base:Heap} {x:Str} {st:Stmt} {ps:List Str} {f:Addr} {fd:FuncData} {k:Nat} {sp:Sp} (d:DefAt K mg x st ps f fd)
    (F:FnOk P w K mg base (CXE P w) k f fd ps sp):CallE P w K mg base x k ps sp:=⟨f,fd,d.at',d.fn.kp,F,d.bi⟩
section
variable {X:Cx} {x:Str} {C:Addr} {k:Nat} {ps:List Str} {sp:Sp} {E:XK} {e:Expr} {es:List Expr} {t:TA} {p pos:Pos}
end
section
variable {P:Program} {w:World} {K:PySem.W.Frag} {mg:Str->Option Value} {base:Heap}
theorem Fun.okE {x qual:Str} {st:Stmt} {f:Addr} {fd:FuncData} {N ps:List Str} {k:Nat} {sp:Sp} (F:Fun K x qual st f fd) (S:FnScope N ps (Aj st)) (len:∀ vs H Q E,sp vs H Q E->vs.length=ps.length)
    (hbody:∀ (cdv:Value) (A:Around) (outer:List Env) (s:Shared) (H:Hp) (vs:List V) (Q:VK) (E:XK),Room k (A.deeper (envOfC qual (Aj st) s.heap.objs.size f cdv))->sp vs H Q E->
      ∃ t,PSs (B6 (CXE P w) P w K mg base N qual (Aj st) f cdv A outer s H E) (Bf st) t/\t { nx:=λ _ H'=>Q .non H',rt:=Q } (start N vs) H):FnOk P w K mg base (CXE P w) (k+1) f fd ps sp:=by
  obtain ⟨oc,od,kV,doc,pm,an,cdv,ct,osl,rfl,lk,hcd⟩:=F.ex;refine JZ lk hcd S len λ A outer s H vs Q E hr hsp=> ?_;exact hbody cdv A outer s H vs Q E hr hsp
end
theorem DN:bootBuiltins "ValueError"=some (.type "ValueError"):=by decide +kernel
theorem Ip {j:Nat} {D:Ends} {σ:St} {H:Hp} (h:D.nx (σ.set j none) H):(IY j D).nx σ H:=h
theorem LX {K:PySem.W.Frag} {CL:Addr} {len j:Nat} {tb:XK->TS} {ts:TS} {D:Ends} {σ:St} {H:Hp} (h:tb (Nj K CL len j ts D) D σ H):OM K CL len j tb ts D σ H:=h
end L2
namespace HT
open PySem PySem.Spec PyProof.Rows PySem.SeqAt
open PySem.AutoSeq1 (wpAny_loadPart')
open PySem.MeetsSeq PySem.MeetsSeq2 PySem.MeetsSeq3
section
variable {A:Around} {s:Shared}
end
end HT
namespace L2
open PySem PySem.Spec PyProof.Rows
inductive DX where
  | d (d:Dt) | dic | tdic (rest:List Dt)
inductive Rx (H:Hp) (n:Nat):V->DX->Prop
  | d {v:V} {d:Dt} (r:Rp H FT n v d):Rx H n v (.d d)
  | dic {a:Addr} (h:H a=some (.dK [])):Rx H n (.ref a) .dic
  | tdic {t a:Addr} {ws:List V} {ds:List Dt} (ht:H t=some (.tup (.ref a::ws))) (h:H a=some (.dK [])) (l:ws.length=ds.length) (e:∀ (i:Nat) (v:V) (d:Dt),ws[i]?=some v->ds[i]?=some d->Rp H FT n v d):Rx H n (.ref t) (.tdic ds)
section
variable {X:Cx} {pins:List (Addr × Obj)} {σ:St} {H:Hp} {s:Shared}
end
theorem ifE {c:Bool} {ta tb:TE} {σ:St} {H:Hp} {R:VK} (P:V->Hp->Prop) (h1:∀ v H',P v H'->R v H') (h2:∀ R':VK,(∀ v H',P v H'->R' v H')->if c=true then ta σ H R' else tb σ H R'):if c=true then ta σ H R else tb σ H R:=h2 R h1
end L2
namespace L2
open PySem PySem.Spec PyProof.Rows PySem.W
def exO (a:Addr) (o:Obj):HO:= .ext λ h=>h.get? a=some o
theorem JH {P:Program} {w:World} {H:Hp} {h:Heap} {a:Addr} {o:Obj} (e:h.get? a=some o):ObjOk P w H h a (exO a o):=⟨e,⟨o,e⟩,λ _ _ x k=>k o x⟩
theorem Hg {P:Program} {w:World} {H:Hp} {h:Heap} {a:Addr} {o:Obj} (x:ObjOk P w H h a (exO a o)):h.get? a=some o:=x.1
def cxL (P:Program) (w:World) (K:PySem.W.Frag) (mg:Str->Option Value) (base:Heap) (N:List Str) (qual:Str) (scope:Scope) (f:Addr) (cd:Value) (cl:List (Str × Addr)) (A:Around) (outer:List Env) (s:Shared) (H:Hp) (E:XK):Cx where
  prog:=P
  w:=w
  K:=K
  mg:=mg
  base:=base
  A:=A.deeper (envX qual scope s.heap.objs.size f cd cl)
  N:=N
  s₀:=s
  H₀:=H
  env:=envX qual scope s.heap.objs.size f cd cl
  outer:=outer
  stack:=envX qual scope s.heap.objs.size f cd cl::outer
  ex:=[]
  calm:=true
  fn:=λ _=>false
  pn:=[]
  xe:=λ e s'=>wpAny (model P w) (A.deeper (envX qual scope s.heap.objs.size f cd cl)) (leaving (envX qual scope s.heap.objs.size f cd cl) e) (λ _ s''=>CXE P w outer H s E e s'') (λ e' s''=>CXE P w outer H s E e' s'') s'
section
variable {P:Program} {w:World} {K:PySem.W.Frag} {mg:Str->Option Value} {base:Heap} {N:List Str} {qual:Str} {scope:Scope} {f:Addr} {cd:Value} {cl:List (Str × Addr)} {A:Around} {outer:List Env} {s:Shared} {H:Hp} {E:XK}
structure ClOkL (N:List Str) (scope:Scope) (cl:List (Str × Addr)) (h:Heap) (H:Hp) (vs:List V):Prop where
  len:vs.length=N.length
  inj:∀ x y c,cl.lookup x=some c->cl.lookup y=some c->x=y
  has:∀ x,(scope.names.lookup x=some .cell\/scope.names.lookup x=some .free)->∃ c,cl.lookup x=some c
  val:∀ (i:Nat) (x:Str) (v:V),N[i]?=some x->vs[i]?=some v->∃ c u,scope.names.lookup x=some .free/\cl.lookup x=some c/\RelV v u/\h.IsCell c (some u)
  cell:∀ x c,cl.lookup x=some c->(∃ v,h.IsCell c v)/\H c=none
end
theorem ClOkL.on {N:List Str} {scope:Scope} {cl:List (Str × Addr)} {h h':Heap} {H H':Hp} {vs:List V} (C:ClOkL N scope cl h H vs) (k:∀ x c o,cl.lookup x=some c->h.get? c=some o->h'.get? c=some o/\H' c=none):ClOkL N scope cl h' H' vs:=by
  refine ⟨C.len,C.inj,C.has,λ i x v h1 h2=> ?_,λ x c e=> ?_⟩
  · obtain ⟨c,u,k1,l,r,o,e,d⟩:=C.val i x v h1 h2;exact ⟨c,u,k1,l,r,o,(k x c o l e).1,d⟩
  · obtain ⟨⟨v,o,e1,d⟩,_⟩:=C.cell x c e;exact ⟨⟨v,o,(k x c o e e1).1,d⟩,(k x c o e e1).2⟩
def Dc (qual:Str) (oc:Obj):Prop:=∃ vs t,oc.data= .fields vs/\vs[1]?=some (.str qual t)
theorem Dp {p:Pos} {c cv:Value} {a b:Int} {t u:Tok}:∀ (l:List Value),TriplesOk l->codeAmong p (l++[.int a t, .int b u,c])=some cv->codeAmong p l=some cv\/cv=c
  | [],_,h=>by
    right;simp only [List.nil_append,codeAmong] at h;split at h
    · exact (Option.some.inj h).symm
    · cases h
  | .int x tx:: .int y ty::z::rest,ok,h=>by
    have h:codeAmong p (.int x tx:: .int y ty::z::(rest++[.int a t, .int b u,c]))=some cv:=h;simp only [codeAmong] at h ⊢;split at h
    · rename_i hc
      rw [if_pos hc];exact .inl h
    · rename_i hc
      rw [if_neg hc];exact Dp rest ok h
def LamT (H:Hp) (P:Addr) (qual:Str):Prop:=∃ ps:Array Value,H P=some (.tbl ps)/\TriplesOk ps.toList/\∀ pos cv,codeAmong pos ps.toList=some cv->∃ c' oc,cv= .ref c'/\H c'=some (exO c' oc)/\Dc qual oc
structure LamX (X:Cx) (c P:Addr):Prop where
  code:X.env.code= .ref c
  hd:CodeHd X.base c P
  blt:X.base.BuiltinsAt X.mg P
section
variable {X:Cx} {pins:List (Addr × Obj)} {σ:St} {H:Hp} {s:Shared}
theorem mkL {c P:Addr} {params:Arguments} {body:Expr} {scope:Scope} {pos:Pos} {Q:Value->Shared->Prop} {E:Value->Shared->Prop} (L:LamX X c P) (hfree:∀ y∈scope.names,y.2= .free->X.env.kindOf y.1=some .cell) (hdef:defaultsOf params X.env=([],[]))
    (I:Inv X pins σ H s) (hT:LamT H P (X.env.qual++"<lambda>"))
    (h:∀ f c' oc pm ctv H' s',Inv X pins σ H' s'->s'.heap.get? f=some (kla_obj "<lambda>" (X.env.qual++"<lambda>") params body scope (Ar X.env.cells scope.names []) pm c' ctv)->H' f=none->s.heap.objs.size<=f->H' c'=some (exO c' oc)->Dc (X.env.qual++"<lambda>") oc->
      LamT H' P (X.env.qual++"<lambda>")->(∀ b o,b≠P->H b=some o->H' b=some o)->Q (.ref f) s'):
    wpAny (model X.prog X.w) X.A (eval (.Lambda params body scope pos) X.env) Q E s:=by
  obtain ⟨ps,hP,ok,hit⟩:=hT;have hPh:s.heap.get? P=some (tabObj ps):=I.hok P _ hP;have hcl:closureFor scope X.env=pure (Ar X.env.cells scope.names []):=A1 λ y hy e=>I.ok.has y.1 (.inl (hfree y hy e));have hg:s.heap.Ns mainGlobals X.mg:=I.mod.glob.keeps I.bk;have C:=L.hd.keeps I.bk;have nP:∀ b,H b=none->b≠P:=λ b n z=>by rw [z,hP] at n;cases n
  have hgP:mainGlobals≠P:=λ q=>by
    obtain ⟨o,es,ep,e,d,_⟩:=hg;rw [q,hPh] at e;cases e;cases d
  have hb:s.heap.BuiltinsAt X.mg P:=by
    obtain ⟨bm,o,a1,a2,a3,a4,a5,r⟩:=L.blt;exact ⟨bm,o,a1,a2,a3,a4,I.bk _ _ a5,r⟩
  refine kla_eval hdef ?_;cases hc:codeAmong pos ps.toList with
  | some cv=>
    obtain ⟨c',oc,rfl,hc',hoc⟩:=hit pos cv hc;refine kla_makeFunctionHit hcl I.ok.glob hg L.code C hPh ok hc hb λ ctv h' tk kp sz=> ?_;have kp2:∀ b o,s.heap.get? b=some o->(h'.push (kla_obj "<lambda>" (X.env.qual++"<lambda>") params body scope (Ar X.env.cells scope.names []) ((X.mg "__name__").getD .none) c' ctv)).get? b=some o:=λ b o e=>Heap.get?_push_of_some _ (kp b o e);refine h h'.objs.size c' oc _ ctv H _ (I.un (Un.kept kp2) (I.hok.kept kp2)) (Heap.get?_push_size _ rfl) (I.hok.fresh sz) sz hc' hoc ⟨ps,hP,ok,hit⟩ λ b o _ e=>e
  | none=>
    refine kla_makeFunction hcl I.ok.glob hg L.code C hPh ok hc hgP hb λ c' ctv h' tk hx hge hlt hrec htb=> ?_;obtain ⟨c2,oc,vs,t,e2,hoc,hd,hv⟩:=hrec;cases e2;generalize hps:ps++ #[rawInt pos.line,rawInt pos.col, .ref c']=ps' at htb;have hcn:H c'=none:=I.hok.fresh hge;have ncP:c'≠P:=λ z=>by rw [z,hP] at hcn;cases hcn
    generalize hfo:kla_obj "<lambda>" (X.env.qual++"<lambda>") params body scope (Ar X.env.cells scope.names []) ((X.mg "__name__").getD .none) c' ctv=fo;have kp:∀ b o,b≠P->s.heap.get? b=some o->(h'.push fo).get? b=some o:=λ b o hb e=>Heap.get?_push_of_some _ (hx b o hb e);have fz:s.heap.objs.size<=h'.objs.size:=Nat.le_of_lt (Nat.lt_of_le_of_lt hge hlt);have nc:∀ b u,H b=some u->b≠c':=λ b u q z=>by rw [z,hcn] at q;cases q
    have nT:∀ b u,H b=some u->(∀ qs,u≠ .tbl qs)->b≠P:=λ b u q n z=>by rw [z,hP] at q;cases q;exact n _ rfl
    have old:∀ b u,b≠P->H b=some u->upd (upd H c' (exO c' oc)) P (.tbl ps') b=some u:=λ b u hb q=>by rw [Ai hb,Ai (nc b u q)];exact q
    have hok':HOk X.prog X.w (upd (upd H c' (exO c' oc)) P (.tbl ps')) (h'.push fo):=λ a o e=>by
      by_cases ha:a=P
      · subst ha;rw [Ab] at e;cases e;exact Heap.get?_push_of_some _ htb
      · rw [Ai ha] at e;by_cases ha2:a=c'
        · subst ha2;rw [Ab] at e;cases e;exact JH (Heap.get?_push_of_some _ hoc)
        · rw [Ai ha2] at e;refine (I.hok a o e).stay (λ b u hb q=>kp b u ?_ q) (λ b q=>old b _ (nT b _ q λ _ z=>by cases z) q) λ b xs q=>old b _ (nT b _ q λ _ z=>by cases z) q;rcases hb with rfl | hb
          · exact ha
          · exact nT b _ hb λ _ z=>by cases z
    have I':Inv X pins σ (upd (upd H c' (exO c' oc)) P (.tbl ps')) { s with heap:=h'.push fo,toks:=tk }:=by
      refine I.step (g':=s.gens) (d':=s.drawn) (ch:=[]) (λ _ z=>nomatch z) (λ b o _ _ _ e n=>kp b o (nP b n) e) (λ b o _ _ _ e n=>⟨o.slots,kp b o (nP b n) e⟩) (λ b o _ e n=> ?_) (λ b o _ e=> ?_) (λ b xs q=>old b _ (nT b _ q λ _ z=>by cases z) q) (λ b o u q=>old b _ (nT b _ q λ _ z=>by cases z) q) (λ b qs q=> ?_) (λ m hm=> ?_) hok' I.bare
      · rw [Ai (nP b n),Ai (Nat.ne_of_lt (Nat.lt_of_lt_of_le (Heap.lt_size e) hge))];exact n
      · by_cases hb:b=P
        · subst hb;exact ⟨_,Heap.get?_push_of_some _ htb⟩
        · exact ⟨o,kp b o hb e⟩
      · by_cases hb:b=P
        · subst hb;rw [hP] at q;cases q;exact ⟨_,by rw [Ab, <-hps]⟩
        · exact ⟨#[],by rw [old b _ hb q];simp⟩
      · exact (hm.extBut hx (nP _ I.free)).push _
    subst hfo;refine h h'.objs.size c' oc _ ctv _ _ I' (Heap.get?_push_size _ rfl) ?_ fz ?_ ⟨vs,t,hd,hv⟩ ⟨ps',Ab,?_,λ p cv q=> ?_⟩ λ b o hb q=>old b o hb q
    · have hn:H h'.objs.size=none:=I.hok.fresh fz;rw [Ai (nP _ hn),Ai (Nat.ne_of_gt hlt)];exact hn
    · rw [Ai ncP,Ab]
    · rw [<-hps,Array.toList_append];exact TriplesOk_snoc _ _ _ _ ok
    · rw [<-hps,Array.toList_append] at q;rcases Dp ps.toList ok q with z | rfl
      · obtain ⟨c1,oc1,e1,e2,e3⟩:=hit p cv z;exact ⟨c1,oc1,e1,old c1 _ (nT c1 _ e2 λ _ z=>by cases z) e2,e3⟩
      · exact ⟨c',oc,rfl,by rw [Ai ncP,Ab],vs,t,hd,hv⟩
end
structure LamOk (params:Arguments) (scope:Scope):Prop where
  kind:scope.kind= .function
  co:scope.isCoroutine=false
  gen:scope.isGenerator=false
  cell:∀ x∈scope.names,x.2≠ .cell
  bind:∀ (qual:Str) (body:Expr) (cl:List (Str × Addr)) (pm cdv ctv:Value),bindArgs (kla_fn "<lambda>" qual params body scope cl pm cdv ctv) ⟨[],[]⟩=pure []
theorem Ms {p:Program} {loose:List Str} {mean:ExcName->Option Value} {mg mb:Str->Option Value} {h:Heap} {T:Addr} (t:Top p loose mean mg mb h) (hT:h.get? T=some (tabObj #[])):h.BuiltinsAt mg T:=by
  obtain ⟨bm,ob,b1,b2,b3,b4,b5,b6⟩:=t.bmain;refine ⟨bm,ob,b1,b2,λ q=> ?_,λ q=> ?_,b3,b4,b5,b6⟩
  · obtain ⟨o,es,ep,e,hd,_⟩:=t.g;rw [q,e] at b3;cases b3;rw [hd] at b6;cases b6
  · rw [q,hT] at b3;cases b3;cases b4
theorem Fd {H:Hp} {T:Addr} {qual:Str} (h:H T=some (.tbl #[])):LamT H T qual:=⟨#[],h,trivial,λ _ _ z=>by cases z⟩
section
variable {P:Program} {w:World} {K:PySem.W.Frag} {mg:Str->Option Value} {base:Heap}
theorem Fun.okL {x qual:Str} {st:Stmt} {f c:Addr} {fd:FuncData} {N ps:List Str} {k:Nat} {sp:Sp} (F:Fun K x qual st f fd) (hc:fd.code= .ref c) (S:FnScope N ps (Aj st)) (len:∀ vs H Q E,sp vs H Q E->vs.length=ps.length)
    (hbody:∀ (A:Around) (outer:List Env) (s:Shared) (H:Hp) (vs:List V) (Q:VK) (E:XK),Room k (A.deeper (envOfC qual (Aj st) s.heap.objs.size f (.ref c)))->sp vs H Q E->
      ∃ t,PSs (B6 CX0 P w K mg base N qual (Aj st) f (.ref c) A outer s H E).nox (Bf st) t/\t { nx:=λ _ H'=>Q .non H',rt:=Q } (start N vs) H):FnOk P w K mg base CX0 (k+1) f fd ps sp:=by
  obtain ⟨oc,od,kV,doc,pm,an,cdv,ct,osl,rfl,lk,hcd⟩:=F.ex;obtain rfl:cdv= .ref c:=hc;refine JZ lk hcd S len λ A outer s H vs Q E hr hsp=> ?_;obtain ⟨t,h,q⟩:=hbody A outer s H vs Q E hr hsp;exact ⟨t,h.nox,q⟩
structure ThAt (s:Shared) (H:Hp) (outer:List Env) (f c':Addr) (oc:Obj) (N:List Str) (qual:Str) (scope:Scope) (cl:List (Str × Addr)) (params:Arguments) (body:Expr) (pm ctv:Value) (vs:List V):Prop where
  hf:s.heap.get? f=some (kla_obj "<lambda>" qual params body scope cl pm c' ctv)
  hf0:H f=none
  nf:f∉frs outer
  hc:H c'=some (exO c' oc)
  hoc:Dc qual oc
  C:ClOkL N scope cl s.heap H vs
  nc:∀ x c,cl.lookup x=some c->c∉frs outer
  lo:LamOk params scope
end
theorem Hu {K:PySem.W.Frag} {H:Hp} {a:Addr} {xs:List V} {σ0:St} {ps:List (V × V)} (h:SqL K H a xs) (hp:∀ i,i<xs.length->∃ b,xs.getD i .non= .ref b/\H b=some (.tup [(ps.getD i (.non, .non)).1,(ps.getD i (.non, .non)).2])) (h0:σ0[0]?=some none) (h1:σ0[1]?=some none):
    SrcOk (Itl K a) (HI K 2 (C0 (AC 0) (C0 (AC 1) J2))) σ0 H xs.length (λ i=>(σ0.set 0 (some (ps.getD i (.non, .non)).1)).set 1 (some (ps.getD i (.non, .non)).2)) where
  go:=λ i H' hi s=>⟨xs,xs[i],s.seq h,by simp [hi]⟩
  stop:=λ H' s=>⟨xs,s.seq h,Nat.le_refl _⟩
  yld:=λ i H' x H'' R hi s y k=>by
    obtain ⟨e,hv⟩:=y;subst e;have e:x=xs.getD i .non:=by
      have:=hv xs (s.seq h);rw [List.getD_eq_getElem?_getD,this];rfl
    subst e;obtain ⟨b,eb,hb⟩:=hp i hi;rw [eb];exact ⟨b,_,rfl,SqT.of (s _ _ hb),rfl,_,_,rfl,_,_,rfl,rfl,k _ (Same.refl _)⟩
  kp:=λ i hi=>((Kp.refl _).set h0).set h1
def IH:NameKind->Bool | .free=>true | _=>false
def MC:NameKind->Bool | .cell=>true | _=>false
def DS:Option NameKind->Bool | some .cell=>true | _=>false
def Fo:Option NameKind->Bool | some .free=>true | _=>false
def AR (N:List Str) (idx:List Nat) (sc:List (Str × NameKind)) (XN:List Str) (Xsc:List (Str × NameKind)):Bool:=
  sc.all (λ y=> !(MC y.2)&&(!(IH y.2)||DS (Xsc.lookup y.1)))&&(N.length == idx.length)&&(N.zip idx).all λ p=>(XN[p.2]? == some p.1)&&Fo (sc.lookup p.1)&&DS (Xsc.lookup p.1)
theorem Bq {α:Type} {x:Str} {v:α}:∀ {l:List (Str × α)},l.lookup x=some v->(x,v)∈l
  | (y,u)::l,h=>by
    rw [List.lookup_cons] at h;cases e:x == y with
    | true=>
      rw [e] at h;cases h;rw [eq_of_beq e];exact List.mem_cons_self
    | false=>
      rw [e] at h;exact List.mem_cons_of_mem _ (Bq h)
theorem GE {k:Option NameKind} (h:Fo k=true):k=some .free:=by
  unfold Fo at h;split at h
  · rfl
  · cases h
theorem Ef {k:Option NameKind} (h:DS k=true):k=some .cell:=by
  unfold DS at h;split at h
  · rfl
  · cases h
theorem Di {N:List Str} {idx:List Nat} {sc:List (Str × NameKind)} {XN:List Str} {Xsc:List (Str × NameKind)} (h:AR N idx sc XN Xsc=true):∀ y∈sc,y.2≠ .cell:=λ y hy e=>by
  simp only [AR,Bool.and_eq_true,List.all_eq_true] at h;have:=(h.1.1 y hy).1;rw [e] at this;cases this
theorem DV {N:List Str} {idx:List Nat} {sc:List (Str × NameKind)} {XN:List Str} {Xsc:List (Str × NameKind)} (h:AR N idx sc XN Xsc=true):∀ y∈sc,y.2= .free->Xsc.lookup y.1=some .cell:=λ y hy e=>by
  simp only [AR,Bool.and_eq_true,List.all_eq_true] at h;have:=(h.1.1 y hy).2;rw [e] at this;exact Ef (by simpa [IH] using this)
theorem FK {N:List Str} {idx:List Nat} {sc:List (Str × NameKind)} {XN:List Str} {Xsc:List (Str × NameKind)} (h:AR N idx sc XN Xsc=true):N.length=idx.length:=by
  simp only [AR,Bool.and_eq_true] at h;exact eq_of_beq h.1.2
theorem Ly {N:List Str} {idx:List Nat} {sc:List (Str × NameKind)} {XN:List Str} {Xsc:List (Str × NameKind)} (h:AR N idx sc XN Xsc=true) (i:Nat) (y:Str) (hy:N[i]?=some y):∃ j,idx[i]?=some j/\XN[j]?=some y/\sc.lookup y=some .free/\Xsc.lookup y=some .cell:=by
  have hl:=FK h;simp only [AR,Bool.and_eq_true,List.all_eq_true] at h;obtain ⟨hi,e⟩:=List.getElem?_eq_some_iff.mp hy;have hi2:i<idx.length:=by omega
  have hm:(y,idx[i])∈N.zip idx:=by
    refine List.mem_iff_getElem.mpr ⟨i,by rw [List.length_zip];omega,?_⟩;rw [List.getElem_zip,e]
  obtain ⟨⟨h1,h2⟩,h3⟩:=h.2 _ hm;exact ⟨idx[i],by simp [hi2],eq_of_beq h1,GE h2,Ef h3⟩
def bar (T:Addr) (H:Hp):Hp:=λ b=>if b=T then none else H b
theorem LamT.same {H H':Hp} {T:Addr} {q:Str} (h:LamT H T q) (s:Same H H'):LamT H' T q:=by
  obtain ⟨ps,h1,h2,h3⟩:=h;refine ⟨ps,s _ _ h1,h2,λ p cv e=> ?_⟩;obtain ⟨c',oc,e1,e2,e3⟩:=h3 p cv e;exact ⟨c',oc,e1,s _ _ e2,e3⟩
end L2
namespace L2
open PySem PySem.Spec PyProof.Rows
section
variable {X:Cx} {K:PySem.W.Frag} {e lo st:Expr} {te tl ts:TE} {pos p2:Pos}
end
section
variable {J:It} {g:TG} {σ0:St} {H:Hp} {n:Nat} {st:Nat->St} {te:TE} {Q:VK} {D:Addr}
end
end L2
namespace HT
open PySem PySem.Spec PyProof.Rows PySem.W
def QC (xs:Array Nat):Prop:=xs.toList.Pairwise (· < ·)
structure TOk (L:Bool) (t:SetTable):Prop where
  rise:QC t.place
  dum:t.dummies= #[]
  led:t.led=L
def kOf (e:Int × Value):Int:=match e.2 with
  | .int k _=>k
  | _=>0
section
variable {prog:Program} {w:World} {A:Around} {E:Value->Shared->Prop} {s:Shared}
def WSet (prog:Program) (w:World) (a:Addr) (ks:List Int) (h:Heap):Prop:=∃ o es ep t,h.get? a=some o/\o.ExactSet/\o.data= .set es ep t/\ElemsOf (intKind prog w) es.toList/\(es.toList.map kOf).Perm ks/\ks.Nodup/\es.size<scanBound/\t.fits es.size=true/\TOk (!w.params.followText "set-order") t
theorem WSet.to {a:Addr} {ks:List Int} {h h':Heap} (x:WSet prog w a ks h) (k:∀ o,h.get? a=some o->h'.get? a=some o):WSet prog w a ks h':=by
  obtain ⟨o,es,ep,t,ho,r⟩:=x;exact ⟨o,es,ep,t,k _ ho,r⟩
theorem WSet.len {a:Addr} {ks:List Int} {h:Heap} (x:WSet prog w a ks h):ks.length<scanBound:=by
  obtain ⟨o,es,ep,t,_,_,_,_,p,_,b,_⟩:=x;rw [<-p.length_eq,List.length_map,Array.length_toList];exact b
structure RawS (a:Addr) (es:Array (Int × Value)) (ep:Nat) (t:SetTable) (h:Heap):Prop where
  at_:∃ o,h.get? a=some o/\o.ExactSet/\o.data= .set es ep t
  fits:t.fits es.size=true
theorem RawS.to {a:Addr} {es:Array (Int × Value)} {ep:Nat} {t:SetTable} {h h':Heap} (x:RawS a es ep t h) (k:∀ o,h.get? a=some o->h'.get? a=some o):RawS a es ep t h':=by
  obtain ⟨⟨o,ho,r⟩,f⟩:=x;exact ⟨⟨o,k _ ho,r⟩,f⟩
theorem RawS.type {a:Addr} {es:Array (Int × Value)} {ep:Nat} {t:SetTable} (x:RawS a es ep t s.heap):s.TypeIs (.ref a) "set":=by
  obtain ⟨⟨o,ho,hx,_⟩,_⟩:=x;exact ⟨_,ho,hx.1⟩
def SIt (I:Addr) (first:Value) (i:Nat) (a:Addr) (n ep:Nat) (h:Heap):Prop:=∃ o,h.get? I=some o/\o.cls= .type "set_iterator"/\o.data= .fields #[first, .int i 0, .ref a, .int n 0, .int ep 0]
theorem SIt.to {I:Addr} {first:Value} {i:Nat} {a:Addr} {n ep:Nat} {h h':Heap} (x:SIt I first i a n ep h) (k:∀ o,h.get? I=some o->h'.get? I=some o):SIt I first i a n ep h':=by
  obtain ⟨o,ho,r⟩:=x;exact ⟨o,k _ ho,r⟩
theorem SIt.type {I:Addr} {first:Value} {i:Nat} {a:Addr} {n ep:Nat} (x:SIt I first i a n ep s.heap):s.TypeIs (.ref I) "set_iterator":=by
  obtain ⟨o,ho,hc,_⟩:=x;exact ⟨_,ho,hc⟩
end
end HT
namespace L2
open PySem PySem.Spec PyProof.Rows PySem.W
structure LamV (P:Program) (w:World) (K:PySem.W.Frag) (mg:Str->Option Value) (base:Heap) (k:Nat) (f:Addr) (sp:Sp):Prop where
  obj:FnAt f base
  run:∀ (A:Around) (outer:List Env) (s:Shared) (H:Hp) (u:Value) (v:V) (Q:VK),Room k A->Env0 P w K mg base A outer s H->RelV v u->sp [v] H Q E0->codeAny (model P w) A (.call (.ref f) ⟨[u],[]⟩) (CR CX0 outer P w H s Q E0) s
def JY (f:Addr) (sp:Sp) (to:TE) (t:TA):TE:=λ σ H Q=>to σ H λ v H1=>v= .ref f/\t σ H1 λ vs H2=>∃ x,vs=[x]/\sp [x] H2 Q E0
theorem JX {X:Cx} {k:Nat} {f:Addr} {sp:Sp} {o e:Expr} {to:TE} {t:TA} {pos:Pos} (L:LamV X.prog X.w X.K X.mg X.base k f sp) (hr:Room k X.A) (ho:PE X o to) (ha:PA X [e] t)
    (ht:eval (.Call o [e] [] pos) X.env=(do callWith pos (<-eval o X.env) [] (backTo pos (starEach [e] X.env)) (backToKw pos (keywordEach [] X.env))):=by rfl)
    (he:starEach [e] X.env=(false,eval e X.env)::starEach [] X.env:=by rfl):PE X (.Call o [e] [] pos) (JY f sp to t):=by
  intro pins s σ H Q I h;rw [ht];refine wpAny_bind (thn (ho pins s σ H _ I h) λ u s1 ⟨x,H1,I1,rx,ex,q⟩=> ?_);subst ex;obtain rfl:u=Value.ref f:=rx;have at':∀ {s':Shared} {H':Hp},Inv X pins σ H' s'->FnAt f s'.heap:=λ I'=>by
    obtain ⟨oc,od,fd,sl,e⟩:=L.obj;exact ⟨oc,od,fd,sl,I'.bk _ _ e⟩
  refine callWith_F (at' I1) (thn (ha pos pins s1 σ H1 _ I1 q) λ us s2 ⟨vs,H2,I2,r,x,ev,q2⟩=>⟨at' I2,?_⟩) he rfl;subst ev;obtain ⟨u2,rfl,rv⟩:=DD r;refine wpAny_call (codeAny_mono (L.run X.A X.stack s2 H2 u2 x Q hr I2.env0 rv q2) λ r s' hq=> ?_);cases r with
  | error e=>exact False.elim hq
  | ok fl=>
    cases fl with
    | ret u=>exact I2.after hq
    | next=>exact False.elim hq
    | brk=>exact False.elim hq
    | cont=>exact False.elim hq
section
variable {P:Program} {w:World} {K:PySem.W.Frag} {mg:Str->Option Value} {base:Heap} {N:List Str} {qual x:Str} {scope:Scope} {f:Addr} {cd:Value} {cl:List (Str × Addr)} {A:Around} {outer:List Env} {s:Shared} {H:Hp} {E:XK}
theorem DF {vs:List V} {h':Heap} {tk:Nat} {u:Value} {v:V} (hk:scope.kind= .function) (hloc:scope.names.lookup x=some .local) (hd:A.handled=none) (e0:Env0 P w K mg base A outer s H) (C:ClOkL N scope cl s.heap H vs) (rv:RelV v u) (hns:h'.Ns s.heap.objs.size λ y=>([(x,u)]:List (Str × Value)).reverse.lookup y) (kp:∀ b o,s.heap.get? b=some o->h'.get? b=some o):
    Inv (cxL P w K mg base (x::N) qual scope f cd cl A outer s H E) [] (some v::vs.map some) H { s with heap:=h',toks:=tk }:=by
  have noA:∀ b:Addr,b∉(cxL P w K mg base (x::N) qual scope f cd cl A outer s H E).ex:=λ b z=>absurd (show b∈([]:List Addr) from z) (by simp);have ic:∀ c v,s.heap.IsCell c v->h'.IsCell c v:=λ c v ⟨o,e,d⟩=>⟨o,kp _ _ e,d⟩;refine ⟨⟨e0.mod,hk,rfl,rfl,Nat.le_refl _,C.inj,C.has,λ y c z _=>(by cases z),λ _=>hd,Around.frames_deeper e0.frames, .inr ⟨rfl,rfl⟩,λ b z=>absurd z (noA b),e0.bs,e0.bsz,λ b _ _=>noA b,λ b z=>absurd z (noA b),e0.funs,e0.frf⟩,
    rfl,e0.bare,Un.kept kp,⟨_,hns,λ i y v' h1 h2 h3=> ?_⟩,λ y c h=> ?_,e0.hok.fresh (Nat.le_refl _),λ y c h=>(C.cell y c h).2,λ p hp=>absurd (show p∈([]:List (Addr × Obj)) from hp) (by simp),e0.hok.kept kp,by show (some v::vs.map some).length=(x::N).length;rw [List.length_cons,List.length_cons,List.length_map,C.len]⟩
  · cases i with
    | zero=>
      have e1:x=y:=by
        have h1:(x::N)[0]?=some y:=h1;simpa using h1
      have e2:v=v':=by simpa using h2
      subst e1 e2;refine ⟨u,rv, .inl ⟨hloc,?_⟩⟩;show ([(x,u)]:List (Str × Value)).reverse.lookup x=some u;simp
    | succ i=>
      have h1:N[i]?=some y:=by
        have h1:(x::N)[i+1]?=some y:=h1;simpa using h1
      have h2:(vs.map some)[i]?=some (some v'):=by simpa using h2
      have h2':vs[i]?=some v':=by
        rw [List.getElem?_map] at h2;cases e:vs[i]? with
        | none=>rw [e] at h2;cases h2
        | some a=>rw [e] at h2;cases h2;rfl
      obtain ⟨c,u,k,l,r,ce⟩:=C.val i y v' h1 h2';exact ⟨u,r, .inr ⟨.inr k,c,l,ic _ _ ce⟩⟩
  · obtain ⟨v,z⟩:=(C.cell y c h).1;exact ⟨v,ic _ _ z⟩
theorem NG {k:Nat} {params:Arguments} {body:Expr} {pm ctv:Value} {c':Addr} {vs:List V} {Q:VK} {tb:TE} {u:Value} {v:V} (ho:s.heap.get? f=some (kla_obj "<lambda>" qual params body scope cl pm c' ctv)) (hcd:s.heap.CodeRec (.ref c') qual) (hr:Room (k+1) A) (e0:Env0 P w K mg base A outer s H)
    (hk:scope.kind= .function) (hco:scope.isCoroutine=false) (hgen:scope.isGenerator=false) (hcell:∀ y∈scope.names,y.2≠ .cell) (hloc:scope.names.lookup x=some .local) (hbind:bindArgs (kla_fn "<lambda>" qual params body scope cl pm (.ref c') ctv) ⟨[u],[]⟩=pure [(x,u)]) (C:ClOkL N scope cl s.heap H vs) (rv:RelV v u)
    (hb:PE (cxL P w K mg base (x::N) qual scope f (.ref c') cl A outer s H E0) body tb) (h:tb (some v::vs.map some) H Q):codeAny (model P w) A (.call (.ref f) ⟨[u],[]⟩) (CR CX0 outer P w H s Q E0) s:=by
  have lim:s.heap.NoLimit:=e0.mod.nolimit.keeps λ b o e=>(e0.bs b o e).1;refine kla_callFunE hr.depth ho rfl hco hgen rfl hcd ?_;rw [hbind];refine wpAny_pure (wpAny_newFunctionEnv hcell (λ y hy=> ?_) (λ h₁ hns hsb=>⟨lim.fresh _ hsb,?_⟩) hk)
  · rw [List.mem_singleton.mp hy];exact hloc
  have kp:∀ b o,s.heap.get? b=some o->h₁.get? b=some o:=λ b o e=>hsb.extBut b o (Nat.ne_of_lt (Heap.lt_size e)) (Heap.get?_push_of_some _ e);show codeAny _ _ (.expr body (envX qual scope s.heap.objs.size f (.ref c') cl)) _ _;refine kla_codeExpr ?_;have I:Inv (cxL P w K mg base (x::N) qual scope f (.ref c') cl A outer s H E0) [] (some v::vs.map some) H { s with heap:=h₁,toks:=s.toks+1 }:=DF hk hloc hr.hd e0 C rv hns kp;refine wpAny_mono (hb [] _ _ H Q I h) (λ u s' hs=> ?_) λ e s' hs=> ?_
  · obtain ⟨v,H',J,rv,q⟩:=hs;exact ⟨v,H',J.os,J.bare,J.base,J.hok,rv,q⟩
  · refine wpAny_mono hs (λ _ s2 z=> ?_) λ _ s2 z=> ?_
    · obtain ⟨a,C,t,od,H',rfl,os,bare,un,hok,b,di,q⟩:=z;exact q.elim
    · obtain ⟨a,C,t,od,H',rfl,os,bare,un,hok,b,di,q⟩:=z;exact q.elim
end
def spL (c':Addr) (oc:Obj) (tb:TE) (vs:List V):Sp:=λ us H Q _=>∃ v,us=[v]/\H c'=some (exO c' oc)/\tb (some v::vs.map some) H Q
def BE (h:Heap) (H:Hp) (fs:List Addr):Heap:=hideAll h (trk h H++fs)
theorem Br {h:Heap} {H:Hp} {fs:List Addr} {b:Addr} {o:Obj} (e:h.get? b=some o) (n:H b=none) (nf:b∉fs):(BE h H fs).get? b=some o:=
  hideAll_get _ e λ hm=>by
    rcases List.mem_append.mp hm with z | z
    · have q:(H b).isSome=true:=(List.mem_filter.mp z).2;rw [n] at q;simp at q
    · exact nf z
theorem HQ {h:Heap} {H:Hp} {fs:List Addr} {b:Addr} {o:Obj} (e:(BE h H fs).get? b=some o):h.get? b=some o/\H b=none:=by
  have e':h.get? b=some o:=of_hideAll _ e;refine ⟨e',?_⟩;cases q:H b with
  | none=>rfl
  | some x=>
    have hm:b∈trk h H:=List.mem_filter.mpr ⟨List.mem_range.mpr (Heap.lt_size e'),by simp [q]⟩;rw [show (BE h H fs).get? b=none from hideAll_none _ (List.mem_append_left _ hm)] at e;cases e
theorem EA {h base base':Heap}:∀ {l:List Env},h.FunFrames base l->(∀ b∈frs l,base'.get? b=none)->h.FunFrames base' l
  | [],_,_=>trivial
  | env::rest,⟨k,⟨L,o,e1,e2,e3,e4⟩,r⟩,n=>by
    have hf:frs (env::rest)=L::frs rest:=BG e1;exact ⟨k,⟨L,o,e1,n L (by rw [hf];exact List.mem_cons_self),e3,e4⟩,EA r λ b hb=>n b (by rw [hf];exact List.mem_cons_of_mem _ hb)⟩
theorem Gg {X:Cx} {pins:List (Addr × Obj)} {σ:St} {H:Hp} {s:Shared} (I:Inv X pins σ H s):Env0 X.prog X.w X.K X.mg (BE s.heap H (frs X.stack)) X.A X.stack s H:=by
  have sub:∀ b o,X.base.get? b=some o->(BE s.heap H (frs X.stack)).get? b=some o:=λ b o e=>Br (I.bs b o e).1 (I.bs b o e).2 λ z=>by
    have:=(AF I.stack z).1;rw [e] at this;cases this
  have nsK:∀ {b:Addr} {m:Str->Option Value},X.base.Ns b m->(BE s.heap H (frs X.stack)).Ns b m:=λ {b m} ⟨o,es,ep,e,r⟩=>⟨o,es,ep,sub _ _ e,r⟩;refine ⟨I.ok.frames,⟨I.ok.mod.kin.keeps sub,nsK I.ok.mod.glob,?_,?_⟩,λ b o e=>HQ e,Nat.le_of_eq (hideAll_size _ _),EA I.stack λ b hb=>hideAll_none _ (List.mem_append_right _ hb),I.stkFree,I.hok,I.bare⟩
  · obtain ⟨mb,h1,h2⟩:=I.ok.mod.blt;exact ⟨mb,nsK h1,h2⟩
  · exact I.ok.mod.nolimit.keeps sub
theorem Jr {f:Addr} {sp:Sp} {to:TE} {t:TA} {σ:St} {H:Hp} {Q:VK} (h:to σ H λ v H1=>v= .ref f/\t σ H1 λ vs H2=>∃ x,vs=[x]/\sp [x] H2 Q E0):JY f sp to t σ H Q:=h
end L2
namespace HT
open PySem PySem.Spec PyProof.Rows PySem.W PySem.Calls PySem.Builtin PySem.Builtin.ObjectAttr PySem.Builtin.Getset_descriptor
section
variable {prog:Program} {w:World} {A:Around} {E:Value->Shared->Prop} {s:Shared} {K:Frag} {a C dx:Addr} {o:Obj} {f:Str} {mA:Str->Option Value} {u:Value} {vs:Array Value}
theorem La {M:Model} (X:K.In s.heap) (hd:(clsIn K C).any (·.hasDict)=true) (he:s.heap.get? a=some o) (hc:o.cls= .ref C) (hf:o.data= .fields vs) (ho:o.dict=some dx) (hn:s.heap.Ns1 dx mA) (hu:mA f=some u):
    Looks M s.heap (inOwnDict f (.ref a)) (some u):=by
  obtain ⟨cd,hcd,hhd⟩:=any_some hd;obtain ⟨oc,od,dat,sl⟩:=o;dsimp only at hc hf ho;subst hc hf ho;have L1:Looks M s.heap (ObjectAttr.ownDict a) (some dx):=by
    unfold ObjectAttr.ownDict loadHead;refine (Looks.ld he).andThen ?_;unfold instanceDict;refine (Looks.ld he).andThen ?_;refine ((looks_clsIn X hcd).andThen ?_);rw [hhd];exact .now
  unfold inOwnDict inDict;refine L1.andThen ?_;exact λ A' Q' E' s' k q=>wpAny_nsGet ((hn.ns).keeps k) (by rw [hu];exact q)
theorem exc_attr {expr:Bool} {Q:Value->Shared->Prop} (k:ExcKind K C) (nf:findIn K (.ref C) f=some none) (X:K.In s.heap) (hd:(clsIn K C).any (·.hasDict)=true) (he:s.heap.get? a=some o) (hc:o.cls= .ref C) (hf:o.data= .fields vs) (ho:o.dict=some dx) (hn:s.heap.Ns1 dx mA) (hu:mA f=some u) (hho:handedIn u=true)
    (h:Q u { s with toks:=s.toks+1 }):wpAny (model prog w) A (getAttr (.ref a) f expr) Q E s:=by
  obtain ⟨hh,g,d,t,os⟩:=s;have x:ExcAt a C hh:=⟨o,he,hc⟩;have L0:=x.type (M:=model prog w);have L1:=looks_findIn (M:=model prog w) X k.ga;have L2:=looks_findIn (M:=model prog w) X k.ng;have L3:Looks (model prog w) hh (find (.ref a) (.ref C) f) (.value u):=by
    unfold find;refine (looks_findIn X nf).andThen ?_;refine Looks.andThen (a:=none) .now (Looks.andThen (a:=none) .now ?_);unfold ownThenClass;exact (La (s:=⟨hh,g,d,t,os⟩) X hd he hc hf ho hn hu).andThen (Looks.tag .now)
  unfold getAttr getAttrBy;refine wpAny_bind (wpAny_mkText (wpAny_holding (wpAny_bind (L0.at (wpAny_bind (L1.at ?_))))));show wpAny _ _ (getAttrByItsOwn (.ref a) _ (.ref C) (.builtin "BaseException.__getattribute__") true expr) _ _ _;unfold getAttrByItsOwn;refine wpAny_bind (L2.at ?_);refine wpAny_bind (wpAny_attempt (wpAny_holding ?_));have hx0:(expr&&onTheHeap (Value.builtin "BaseException.__getattribute__"))=false:=by cases expr <;> rfl
  unfold callGetattribute;rw [hx0];show wpAny _ _ (boundAndCalled (.builtin "BaseException.__getattribute__") (.ref a) _) _ _ _;unfold boundAndCalled;rw [PySem.F.excAttr_ValueError.ga.bind (.ref a)];refine wpAny_bind (wpAny_pure ?_);refine wpAny_call (codeAny_call_builtin PySem.F.excAttr_ValueError.ga.plain PySem.F.entry_bexc_ga (E6 (s:=⟨hh,g,d,t+1,os⟩) k X x ?_));unfold Builtin.«object.__getattribute__»
  repeat lk
  show wpAny _ _ (handedOut u) _ _ _;exact handed_on (s:=⟨hh,g,d,t+1,os⟩) hho h
end
end HT
namespace L2
open PySem PySem.Spec PyProof.Rows PySem.W
structure XKind (K:PySem.W.Frag) (C:Addr):Prop extends HT.ExcKind K C where
  hd:(clsIn K C).any (·.hasDict)=true
def xdO (d:Addr) (fs:List (Str × V)):HO:= .ext λ h=>∃ mA,h.Ns1 d mA/\(∀ f,RelO (fs.lookup f) (mA f))/\PySem.Within mA (fs.map (·.1))
theorem LR {P:Program} {w:World} {H:Hp} {h:Heap} {d:Addr} {fs:List (Str × V)} {mA:Str->Option Value} (hn:h.Ns1 d mA) (hm:∀ f,RelO (fs.lookup f) (mA f)) (hw:PySem.Within mA (fs.map (·.1))):ObjOk P w H h d (xdO d fs):=
  ⟨⟨mA,hn,hm,hw⟩,let ⟨o,_,_,e,_⟩:=hn;⟨o,e⟩,λ _ _ ⟨mA,hn,hm,hw⟩ k=>⟨mA,hn.at k,hm,hw⟩⟩
def LD (K:PySem.W.Frag) (f:Str) (to:TE):TE:=λ σ H Q=>to σ H λ v H1=>∃ a C dx fs y,v= .ref a/\H1 a=some (B4 a C (some dx))/\H1 dx=some (xdO dx fs)/\fs.lookup f=some y/\XKind K C/\findIn K (.ref C) f=some none/\Q y H1
theorem GV {X:Cx} {K:PySem.W.Frag} {o:Expr} {f:Str} {to:TE} {pos:Pos} (ho:PE X o to) (hb:attributeBase o f X.env (eval o X.env)=eval o X.env) (hK:X.K=K:=by rfl):PE X (.Attribute o f pos) (LD K f to):=by
  subst hK;intro pins s σ H Q I h;refine Ln hb (thn (ho pins s σ H _ I h) λ u s1 ⟨v,H1,I1,rv,a,C,dx,fs,y,ev,ha,hdx,hl,k,nf,q⟩=> ?_);subst ev;obtain rfl:u=Value.ref a:=rv;obtain ⟨⟨ob,he,hc,hod,vs,hdat⟩,_⟩:=(show ObjOk X.prog X.w H1 s1.heap a (B4 a C (some dx)) from I1.hok a _ ha);obtain ⟨⟨mA,hn,hm,_⟩,_⟩:=(show ObjOk X.prog X.w H1 s1.heap dx (xdO dx fs) from I1.hok dx _ hdx);obtain ⟨w',hw,rw'⟩:=RelO.some_of (v:=y) (o:=mA f) (by rw [<-hl];exact hm f);exact HT.exc_attr k.toExcKind nf I1.kIn k.hd he hc hdat hod hn hw (HM rw') ⟨y,H1,I1.tok _,rw',q⟩
end L2
namespace HT
open PySem PySem.Spec PyProof.Rows PySem.W PySem.Calls PySem.Builtin PySem.Builtin.ObjectAttr PySem.Builtin.Getset_descriptor
def C7:List Value:=[.type "ValueError", .type "Exception", .type "BaseException", .type "object"]
def CA:List Value->Bool
  | .ref _::r=>CA r
  | l=>l == C7
theorem Gx (self:Value):refuseLoop self "__setattr__" C7=pure ():=by kernel_rfl
theorem DE:∀ {l:List Value},CA l=true->l=C7\/∃ c r,l= .ref c::r/\CA r=true
  | [],e=> .inl (beq_iff_eq.mp e)
  | v::r,e=>by
    cases v with
    | ref c=>exact .inr ⟨c,r,rfl,e⟩
    | _=>exact .inl (beq_iff_eq.mp e)
theorem CW (self:Value):∀ (n:Nat) (l:List Value),l.length<=n->CA l=true->refuseLoop self "__setattr__" l=pure ()
  | 0,l,h,e=>by
    have z:=List.length_eq_zero_iff.mp (Nat.le_zero.mp h);subst z;cases e
  | n+1,l,h,e=>by
    rcases DE e with rfl | ⟨c,r,rfl,e'⟩
    · exact Gx self
    · rw [refuseLoop_ref];exact CW self n r (by simp at h;omega) e'
theorem Ic {l:List Value} (n:Nat) (h:l.length<=n) (e:CA l=true):l.contains (.type "object")=true:=by
  induction n generalizing l with
  | zero=>
    have z:=List.length_eq_zero_iff.mp (Nat.le_zero.mp h);subst z;cases e
  | succ n ih=>
    rcases DE e with rfl | ⟨c,r,rfl,e'⟩
    · decide
    · rw [List.contains_cons,ih (by simp at h;omega) e',Bool.or_true]
def exOver (K:Frag) (C:Addr):Bool:=(clsIn K C).any λ cd=>CA cd.mro
section
variable {prog:Program} {w:World} {A:Around} {E:Value->Shared->Prop} {s:Shared} {K:Frag} {a C dx:Addr} {o:Obj} {f:Str} {mA:Str->Option Value} {v:Value} {vs:Array Value}
theorem GW {Q:Unit->Shared->Prop} (X:K.In s.heap) (hs:findIn K (.ref C) "__setattr__"=some (some (.builtin "object.__setattr__"))) (hp:exOver K C=true) (ht:takerIn K C f=some none) (x:ExcAt a C s.heap)
    (h:∀ b,wpAny (model prog w) A.in1 (storeInOwnDict (.ref a) (.ref C) (.str f s.toks) f v b) (λ fin s'=>match fin with | .done (.ret _)=>Q () s' | _=>False) E { s with toks:=s.toks+1 }):
    wpAny (model prog w) A (setAttr (.ref a) f v) Q E s:=by
  have SF:=PySem.F.store_object;obtain ⟨cd,hc,ho⟩:=any_some hp;have ne:cd.mro.isEmpty=false:=by cases q:cd.mro with | nil=>rw [q] at ho;cases ho | cons _ _=>rfl
  have L0:=x.type (M:=model prog w);have sub:Looks (model prog w) s.heap (isInstance (.ref a) (.type "object")) true:=L0.andThen (looks_mroIn X (by unfold mroIn;rw [hc,Option.bind_some,if_neg (by rw [ne];decide),Ic _ (Nat.le_refl _) ho]));obtain ⟨attr,ha,hr⟩:=Option.bind_eq_some_iff.mp ht;have hm:Looks (model prog w) s.heap (mroOf (.ref C)) cd.mro:=(looks_clsIn X hc).andThen .now;have L3:Looks (model prog w) s.heap (storeTaker? attr) none:=by
    cases attr with
    | none=>cases hr;exact .now
    | some a=>
      obtain ⟨b,hb,hbb⟩:=Option.map_eq_some_iff.mp hr;refine (looks_takesIn X hb).andThen ?_;cases b with
      | true=>cases hbb
      | false=>exact .now
  refine wpAny_bind (wpAny_mkText (wpAny_bind (wpAny_bind (wpAny_bind (L0 _ _ _ _ (λ _ _ e=>e) (looks_findIn X hs _ _ _ _ (λ _ _ e=>e) (wpAny_holding ?_)))))));rw [SF.slot.bind];refine wpAny_bind (wpAny_pure (wpAny_bind (wpAny_call (codeAny_call_builtin SF.slot.plain SF.entry (@check_slot (model prog w) _ _ { s with toks:=s.toks+1 } "object.__setattr__" "object" "__setattr__" (.ref a) [.str f s.toks,v] [] _ SF.kind SF.split sub (SF.args (.ref a) (.str f s.toks) v) ?_)))));show wpAny _ _ (Builtin.«object.__setattr__» ⟨[.ref a, .str f s.toks,v],[]⟩) _ _ _;rw [osa_eq,refuse_eq];refine wpAny_bind (wpAny_bind (Looks.here (s:={ s with toks:=s.toks+1 }) L0 (wpAny_bind (Looks.here (s:={ s with toks:=s.toks+1 }) hm ?_))));rw [CW _ _ _ (Nat.le_refl _) ho];refine wpAny_pure (wpAny_bind (Looks.here (s:={ s with toks:=s.toks+1 }) L0 (wpAny_bind (Looks.here (s:={ s with toks:=s.toks+1 }) (looks_findIn X ha) (wpAny_bind (Looks.here (s:={ s with toks:=s.toks+1 }) L3 ?_))))));refine wpAny_mono (h _) (λ fin s' z=> ?_) λ e s' z=>z;cases fin with
  | again c'=>exact False.elim z
  | done f=>
    cases f with
    | ret u=>exact wpAny_pure (wpAny_pure z)
    | next=>exact False.elim z
    | brk=>exact False.elim z
    | cont=>exact False.elim z
theorem exc_set {ns:List Str} {Q:Unit->Shared->Prop} (X:K.In s.heap) (hs:findIn K (.ref C) "__setattr__"=some (some (.builtin "object.__setattr__"))) (hp:exOver K C=true) (ht:takerIn K C f=some none) (hd:(clsIn K C).any (·.hasDict)=true)
    (he:s.heap.get? a=some o) (hc:o.cls= .ref C) (ho:o.dict=some dx) (hn:s.heap.Ns1 dx mA) (hw:PySem.Within mA ns) (hsz:ns.length<=1000)
    (h:∀ h',h'.Ns1 dx (λ y=>if y=f then some v else mA y)->Heap.SameBut dx s.heap h'->Q () { s with heap:=h',toks:=s.toks+2 }):wpAny (model prog w) A (setAttr (.ref a) f v) Q E s:=by
  refine GW X hs hp ht ⟨o,he,hc⟩ λ b=> ?_;obtain ⟨cd,hcd,hhd⟩:=any_some hd;obtain ⟨oc,od,dat,sl⟩:=o;dsimp only at hc ho;subst hc ho;refine wpAny_bind (wpAny_pure (wpAny_bind (wpAny_bind (wpAny_loadPart he (wpAny_bind (Looks.here (s:={ s with toks:=s.toks+1 }) (looks_clsIn X hcd) ?_))))));rw [hhd];refine wpAny_pure (a:=some dx) (wpAny_bind (wpAny_pure (wpAny_bind ?_)));refine wpAny_nsSet1 (s:={ s with toks:=s.toks+1 }) hn λ h' hn2 hs2=> ?_;obtain ⟨oD,esD,epD,hoD,hdD,hcD⟩:=hn2.count (PySem.Within.cons f v hw);refine wpAny_bind (wpAny_lookBehind hoD (by rw [hdD];exact pastItsLine_dict (Nat.le_trans hcD (by rw [List.length_cons,sizeLine_eq];omega))) ?_);exact wpAny_pure (h _ hn2 hs2)
theorem Io {M:Model} {sl:Array (Option Value)} {cd:ClassData} {Q:Option Addr->Shared->Prop} (X:K.In s.heap) (hcd:clsIn K C=some cd) (hhd:cd.hasDict=true) (he:s.heap.get? a=some ⟨.ref C,none, .fields vs,sl⟩)
    (h:Q (some s.heap.objs.size) { s with heap:=(s.heap.push { cls:= .type "dict",data:= .dict #[] }).update a (λ o=>{ o with dict:=some s.heap.objs.size }) }):wpAny M A (instanceDict a true) Q E s:=by
  unfold instanceDict;refine wpAny_bind (wpAny_loadPart he ?_);refine wpAny_bind (Looks.here (looks_clsIn X hcd) ?_);rw [hhd];dsimp only [Bool.not_true];rw [if_neg (show ¬ ((!true)=true) from Bool.false_ne_true)];have ht:(!true|| !typeHasDict (.ref C))=false:=rfl;rw [ht,if_neg Bool.false_ne_true];have he1:=Heap.get?_push_of_some { cls:= .type "dict",data:= .dict #[] } he;refine wpAny_bind (wpAny_alloc ?_);refine wpAny_bind (wpAny_update (s:={ s with heap:=s.heap.push { cls:= .type "dict",data:= .dict #[] } }) he1 ?_);unfold dictMade;exact wpAny_pure h
theorem Gi:StrKeys (#[]:Array DictEntry):=λ e he=>absurd he (by simp)
theorem Fs:UniqKeys (#[]:Array DictEntry):=List.Pairwise.nil
theorem exc_set0 {Q:Unit->Shared->Prop} (X:K.In s.heap) (hs:findIn K (.ref C) "__setattr__"=some (some (.builtin "object.__setattr__"))) (hp:exOver K C=true) (ht:takerIn K C f=some none) (hd:(clsIn K C).any (·.hasDict)=true)
    (he:s.heap.get? a=some o) (hc:o.cls= .ref C) (hf:o.data= .fields vs) (ho:o.dict=none)
    (h:∀ h',h'.get? a=some { o with dict:=some s.heap.objs.size }->h'.Ns1 s.heap.objs.size (λ y=>if y=f then some v else none)->(∀ b ob,b≠a->s.heap.get? b=some ob->h'.get? b=some ob)->Q () { s with heap:=h',toks:=s.toks+2 }):
    wpAny (model prog w) A (setAttr (.ref a) f v) Q E s:=by
  refine GW X hs hp ht ⟨o,he,hc⟩ λ b=> ?_;obtain ⟨cd,hcd,hhd⟩:=any_some hd;obtain ⟨oc,od,dat,sl⟩:=o;dsimp only at hc ho hf;subst hc ho hf;have na:a≠s.heap.objs.size:=Nat.ne_of_lt (Heap.lt_size he);have he1:=Heap.get?_push_of_some { cls:= .type "dict",data:= .dict #[] } he;refine wpAny_bind (wpAny_pure (wpAny_bind (Io (s:={ s with toks:=s.toks+1 }) X hcd hhd he ?_)));have hn1:((s.heap.push { cls:= .type "dict",data:= .dict #[] }).update a (λ o=>{ o with dict:=some s.heap.objs.size })).Ns1 s.heap.objs.size (λ _=>none):=by
    refine ⟨{ cls:= .type "dict",data:= .dict #[] }, #[],0,?_,rfl,Gi,Fs,λ name=>rfl⟩;rw [Heap.get?_update_other _ _ na];exact Heap.get?_push_size _ rfl
  have ha1:((s.heap.push { cls:= .type "dict",data:= .dict #[] }).update a (λ o=>{ o with dict:=some s.heap.objs.size })).get? a=some ⟨.ref C,some s.heap.objs.size, .fields vs,sl⟩:=Heap.get?_update_self _ he1 rfl;have hk:∀ b ob,b≠a->s.heap.get? b=some ob->((s.heap.push { cls:= .type "dict",data:= .dict #[] }).update a (λ o=>{ o with dict:=some s.heap.objs.size })).get? b=some ob:=λ b ob hb e=>by
    rw [Heap.get?_update_other _ _ (Ne.symm hb)];exact Heap.get?_push_of_some _ e
  generalize (s.heap.push { cls:= .type "dict",data:= .dict #[] }).update a (λ o=>{ o with dict:=some s.heap.objs.size })=h1 at hn1 ha1 hk ⊢;show wpAny _ _ (storeInDict s.heap.objs.size (.str f s.toks) f v) _ _ _;unfold storeInDict;refine wpAny_bind (wpAny_pure (wpAny_bind ?_));refine wpAny_nsSet1 (s:={ s with heap:=h1,toks:=s.toks+1 }) hn1 λ h' hn2 hs2=> ?_;obtain ⟨oD,esD,epD,hoD,hdD,hcD⟩:=hn2.count (PySem.Within.cons f v PySem.Within.nil);refine wpAny_bind (wpAny_lookBehind hoD (by rw [hdD];exact pastItsLine_dict (Nat.le_trans hcD (by rw [List.length_cons,sizeLine_eq];simp))) ?_);exact wpAny_pure (h _ ((hs2.2 _ na).trans ha1) hn2 λ b ob hb e=>(hs2.2 b (Nat.ne_of_lt (Heap.lt_size e))).trans (hk b ob hb e))
end
end HT
namespace L2
open PySem PySem.Spec PyProof.Rows PySem.W
structure XSet (K:PySem.W.Frag) (C:Addr):Prop where
  sa:findIn K (.ref C) "__setattr__"=some (some (.builtin "object.__setattr__"))
  ov:HT.exOver K C=true
  hd:(clsIn K C).any (·.hasDict)=true
def xnO (a C:Addr) (od:Option Addr):HO:= .ext λ h=>∃ t,h.get? a=some ⟨.ref C,od, .fields #[.ref t, .none, .none, .none, .bool false, .none], #[]⟩
theorem Jo {P:Program} {w:World} {H:Hp} {h:Heap} {a C t:Addr} {od:Option Addr} (e:h.get? a=some ⟨.ref C,od, .fields #[.ref t, .none, .none, .none, .bool false, .none], #[]⟩):ObjOk P w H h a (xnO a C od):=
  ⟨⟨t,e⟩,⟨_,e⟩,λ _ _ ⟨t,e⟩ k=>⟨t,k _ e⟩⟩
def LT (K:PySem.W.Frag) (f:Str) (to tv:TE):TS:=λ D σ H=>tv σ H λ y H1=>to σ H1 λ x H2=>∃ a C od,x= .ref a/\H2 a=some (xnO a C od)/\XSet K C/\takerIn K C f=some none/\
  ((od=none/\∀ dx,H2 dx=none->D.nx σ (upd (upd H2 dx (xdO dx [(f,y)])) a (xnO a C (some dx))))\/∃ dx fs,od=some dx/\H2 dx=some (xdO dx fs)/\fs.length<1000/\D.nx σ (upd H2 dx (xdO dx (DJ f y fs))))
theorem Kv {X:Cx} {K:PySem.W.Frag} {o value:Expr} {f:Str} {to tv:TE} {pos pos':Pos} (ha:PE X o to) (hv:PE X value tv) (hs:swapsWith value (some (.Attribute o f pos')) pos.line X.env=pure false) (hK:X.K=K:=by rfl):
    PS X (.Assign [.Attribute o f pos'] value pos) (LT K f to tv):=by
  subst hK;intro pins s σ H D I h;refine plainObj_wpAny_Assign_Attribute (thn (hv pins s σ H _ I h) λ u s1 ⟨y,H1,I1,ry,q⟩=>thn (ha pins s1 σ H1 _ I1 q) λ ov s2 ⟨x,H2,I2,rx,a,C,od,ex,ea,k,ht,q2⟩=> ?_) hs;subst ex;obtain rfl:ov=Value.ref a:=rx;obtain ⟨⟨t,he⟩,_⟩:=(show ObjOk X.prog X.w H2 s2.heap a (xnO a C od) from I2.hok a _ ea);rcases q2 with ⟨rfl,q2⟩ | ⟨dx,fs,rfl,hdx,hl,q2⟩
  · refine HT.exc_set0 I2.kIn k.sa k.ov ht k.hd he rfl rfl rfl λ h' ha' hn' keep=>⟨σ,_,?_,q2 s2.heap.objs.size I2.fresh⟩;have fr:=I2.fresh;generalize hdx:s2.heap.objs.size=dx at ha' hn' fr ⊢;have na:a≠dx:=λ z=>by rw [z,fr] at ea;cases ea
    have neA:∀ b u,H2 b=some u->(∀ φ,u≠ .ext φ)->b≠a:=λ b u e n z=>by rw [z,ea] at e;cases e;exact n _ rfl
    have neD:∀ b u,H2 b=some u->b≠dx:=λ b u e z=>by rw [z,fr] at e;cases e
    have oD:∀ b ob,s2.heap.get? b=some ob->b≠dx:=λ b ob e z=>by rw [<-hdx] at z;exact absurd (Heap.lt_size e) (by rw [z];exact Nat.lt_irrefl _)
    have eH:∀ b,b≠a->b≠dx->upd (upd H2 dx (xdO dx [(f,y)])) a (xnO a C (some dx)) b=H2 b:=λ b h1 h2=>by rw [Ai h1,Ai h2]
    refine I2.un (t':=s2.toks+2) ⟨λ b ob e hH hn hx=> ?_,λ b ob e hH hb hx=> ?_,λ b ob e hH hx=> ?_,λ b ob e hx=> ?_,λ b xs e=> ?_,λ b ob u e=> ?_,λ b ps e=> ?_⟩ λ b u e=> ?_
    · exact keep b ob (λ z=>by rw [z,ea] at hH;cases hH) e
    · exact ⟨ob.slots,keep b ob (λ z=>by rw [z,ea] at hH;cases hH) e⟩
    · rw [eH b (λ z=>by rw [z,ea] at hH;cases hH) (oD b ob e)];exact hH
    · by_cases z:b=a
      · rw [z];exact ⟨_,ha'⟩
      · exact ⟨ob,keep b ob z e⟩
    · rw [eH b (neA b _ e λ φ z=>by cases z) (neD b _ e)];exact e
    · rw [eH b (neA b _ e λ φ z=>by cases z) (neD b _ e)];exact e
    · exact ⟨#[],by rw [eH b (neA b _ e λ φ z=>by cases z) (neD b _ e)];simpa using e⟩
    · by_cases z:b=a
      · subst z;rw [Ab] at e;cases e;exact Jo (t:=t) ha'
      · rw [Ai z] at e;by_cases z2:b=dx
        · subst z2;rw [Ab] at e;cases e;refine LR hn' (λ g=> ?_) (PySem.Within.cons f _ PySem.Within.nil);show RelO (List.lookup g [(f,y)]) (if g=f then some _ else none);rw [List.lookup_cons];by_cases q:g=f
          · rw [if_pos q,q,beq_self_eq_true];exact ry
          · rw [if_neg q,show (g == f)=false from beq_eq_false_iff_ne.mpr q];exact True.intro
        · rw [Ai z2] at e;refine (I2.hok b u e).stay (λ c v hc q=>keep c v ?_ q) (λ c q=> ?_) λ c xs q=> ?_
          · rcases hc with rfl | hc
            · exact z
            · exact neA c _ hc λ φ z=>by cases z
          · rw [eH c (neA c _ q λ φ z=>by cases z) (neD c _ q)];exact q
          · rw [eH c (neA c _ q λ φ z=>by cases z) (neD c _ q)];exact q
  · obtain ⟨⟨mA,hn,hm,hw⟩,_⟩:=(show ObjOk X.prog X.w H2 s2.heap dx (xdO dx fs) from I2.hok dx _ hdx);refine HT.exc_set I2.kIn k.sa k.ov ht k.hd he rfl rfl hn hw (by rw [List.length_map];omega) λ h' hn' sb=>⟨σ,_,?_,q2⟩;refine I2.write (x:=dx) (e:=dx) (t':=s2.toks+2) (by rw [hdx];exact True.intro) (.inl rfl) (λ b q hb z=>(sb.2 b hb).trans z) (let ⟨o,_,_,e,_⟩:=hn';⟨o,e⟩) (LR hn' (λ g=> ?_) λ g hg=> ?_)
    · show RelO ((DJ f y fs).lookup g) (if g=f then some u else mA g);rw [DG];by_cases q:g=f
      · rw [if_pos q,if_pos q];exact ry
      · rw [if_neg q,if_neg q];exact hm g
    · by_cases q:g=f
      · rw [q];exact (Ds f y fs).1
      · refine (Ds f y fs).2 g (hw g λ z=>hg ?_);show (if g=f then some u else mA g)=none;rw [if_neg q];exact z
end L2
namespace HT
open PySem PySem.Spec PyProof.Rows PySem.W PySem.Calls PySem.Builtin
def iniIn (K:Frag) (C fi:Addr):Bool:=match K.lookup C with
  | some ⟨.type "type",_, .cls cd,sl⟩=>(match cd.mro,sl.toList with
    | .ref C'::bm,[_,_,_,_,some (.builtin n),_]=>C' == C&&n == "ValueError.__new__"&& !cd.hasDel&&tailIn K C7 bm&&nsOkIn K cd.ns&&nsIn K cd.ns "__init__" == some (some (.ref fi))
    | _,_=>false)
  | _=>false
def IniAt (h:Heap) (C fi:Addr):Prop:=∃ bm N nm q bs hdct sn sub ab col dd k0 k1 k2 k3 k5 mN,h.get? C=some (excClassObj nm q C N bs bm hdct sn sub ab col dd k0 k1 k2 k3 k5 "ValueError.__new__")/\h.Ns N mN/\mN "__init__"=some (.ref fi)/\OwnTail h C7 bm
theorem GO {K:Frag} {h:Heap} {N:Addr} {mg:Str->Option Value} {n:Str} {v:Value} (X:K.In h) (G:h.Ns N mg) (e:nsIn K N n=some (some v)):mg n=some v:=by
  obtain ⟨o,es,ep,ho,hd,_,hf⟩:=G;unfold nsIn at e;split at e
  · rename_i c d es' n' sl q
    have:=X _ _ q;rw [ho] at this;cases this;cases hd;split at e
    · rename_i en he
      cases e;rw [<-hf];unfold nsFind findBy;rw [<-Array.find?_toList,he];rfl
    · split at e
      · cases e
      · cases e
  · cases e
theorem ini_of {K:Frag} {h:Heap} {C fi:Addr} (X:K.In h) (q:iniIn K C fi=true):IniAt h C fi:=by
  unfold iniIn at q;split at q
  · rename_i dd cd sl ho
    split at q
    · rename_i C' bm k0 k1 k2 k3 n k5 hm' hs
      simp only [Bool.and_eq_true,beq_iff_eq,Bool.not_eq_true'] at q;obtain ⟨⟨⟨⟨⟨rfl,rfl⟩,hdel⟩,ht⟩,hok⟩,hni⟩:=q;obtain ⟨nm,bs,mro,ns,qn,hd,sn,sub,ab,col,del⟩:=cd;dsimp only at hm' hdel hok hni;subst hm' hdel;obtain ⟨l⟩:=sl;have hsl:l=[k0,k1,k2,k3,some (.builtin "ValueError.__new__"),k5]:=hs;subst hsl;exact ⟨bm,ns,nm,qn,bs,hd,sn,sub,ab,col,dd,k0,k1,k2,k3,k5,_,X _ _ ho, .of_isNs (isNs_of_in X hok),GO X (.of_isNs (isNs_of_in X hok)) hni,tail_of_in X ht⟩
    · cases q
  · cases q
section
variable {prog:Program} {w:World} {A:Around} {E:Value->Shared->Prop} {s:Shared} {K:Frag} {a C fi t0:Addr} {od:Option Addr} {u:Value}
theorem exc_initB {Q:Value->Shared->Prop} (i:IniAt s.heap C fi) (he:s.heap.get? a=some ⟨.ref C,od, .fields #[.ref t0, .none, .none, .none, .bool false, .none], #[]⟩)
    (h:∀ h',h'.get? a=some ⟨.ref C,od, .fields #[.ref s.heap.objs.size, .none, .none, .none, .bool false, .none], #[]⟩->(∀ b ob,b≠a->s.heap.get? b=some ob->h'.get? b=some ob)->Q .none { s with heap:=h' }):
    wpAny (model prog w) A (call (.builtin "ValueError.__init__") [.ref a,u]) Q E s:=by
  obtain ⟨bm,N,nm,q,bs,hdct,sn,sub,ab,col,dd,k0,k1,k2,k3,k5,mN,hC,hN,hi,T⟩:=i;obtain ⟨hh,g,d,t,os⟩:=s;have F:=PySem.F.excBase_ValueError;refine wpAny_call (codeAny_call_builtin F.init.plain F.initEntry (wpAny_check_init_subT F T hC he rfl ?_))
  wp_walk
  have he1:=Heap.get?_push_of_some { cls:= .type "tuple",data:= .seq #[u] } he;refine h _ (Heap.get?_update_self _ he1 rfl) λ b ob hb e=> ?_;rw [Heap.get?_update_other _ _ (Ne.symm hb)];exact Heap.get?_push_of_some _ e
theorem exc_make {R:Result->Shared->Prop} {rest:List Value} (X:K.In s.heap) (i:IniAt s.heap C fi) (hf:typeIn K (.ref fi)=some (.type "function")) (hrest:rest.length<=1000)
    (h:codeAny (model prog w) (A.under (.builtin "type.__call__" ⟨.ref C::rest,[]⟩)) (.call (.ref fi) ⟨.ref (s.heap.objs.size+1)::rest,[]⟩) (InitBack (s.heap.objs.size+1) R)
      { s with heap:=(s.heap.push { cls:= .type "tuple",data:= .seq rest.toArray }).push { cls:= .ref C,data:= .fields #[.ref s.heap.objs.size, .none, .none, .none, .bool false, .none] } }):
    codeAny (model prog w) A (.call (.ref C) ⟨rest,[]⟩) R s:=by
  obtain ⟨bm,N,nm,q,bs,hdct,sn,sub,ab,col,dd,k0,k1,k2,k3,k5,mN,hC,hN,hi,T⟩:=i;obtain ⟨hh,g,d,t,os⟩:=s;have F:=PySem.F.excBase_ValueError;have f1:=tc_lookup;have f2:=tc_bind (.ref C);have hT:(⟨hh,g,d,t,os⟩:Shared).TypeIs (.ref C) "type":=⟨_,hC,rfl⟩;refine codeAny_of_tree ?_;show wpAny _ _ (callAny (.ref C) _) _ _ _
  repeat (any_goals (first | assumption | with_reducible refine wpAny_loadPart_at hC ?_ | wp_step))
  refine ⟨rfl,?_⟩;refine codeAny_call_builtin_at (Code.quiet_builtin _ (by decide +kernel)) entry_typeCall (wpAny_check_type_call_sub hC ?_);show wpAny _ _ (Builtin.«type.__call__» ⟨.ref C::rest,[]⟩) _ _ _
  repeat (first | with_reducible refine wpAny_loadPart_at hC ?_ | with_reducible refine wpAny_madeBy_exc hC ?_ | wp_step)
  refine codeAny_call_builtin_code (Code.quiet_builtin _ F.quiet) (wpAny_check_new_subT F T hC ?_);refine codeAny_exc_new_subT F T hC ?_ (Nat.le_trans hrest (by decide));show wpAny _ _ _ _ _ _;have kp:∀ b o,hh.get? b=some o->((hh.push { cls:= .type "tuple",data:= .seq rest.toArray }).push { cls:= .ref C,data:= .fields #[.ref hh.objs.size, .none, .none, .none, .bool false, .none] }).get? b=some o:=λ b o e=>Heap.get?_push_of_some _ (Heap.get?_push_of_some _ e);have hC₁:=kp _ _ hC;have hn₁:=hN.keeps kp;have hget:((hh.push { cls:= .type "tuple",data:= .seq rest.toArray }).push { cls:= .ref C,data:= .fields #[.ref hh.objs.size, .none, .none, .none, .bool false, .none] }).get? (hh.objs.size+1)=some { cls:= .ref C,data:= .fields #[.ref hh.objs.size, .none, .none, .none, .bool false, .none] }:=by heap_get
  have hcC:(Value.ref C::bm).contains (.ref C)=true:=by simp
  have T₁:=T.keeps kp;unfold isInstance
  repeat (first | with_reducible refine wpAny_loadPart_at hget ?_ | (with_reducible refine wpAny_isSubtype_exc hC₁ ?_;rw [hcC]) | wp_step)
  show wpAny _ _ (typeLookup (.ref C) _) _ _ _;refine wpAny_typeLookup_tail hC₁ hn₁ T₁ F.mroIs F.init.lookup ?_;rw [hi];have b1:=bind_fn (M:=model prog w) (Frag.In.keeps X kp) (.ref (hh.objs.size+1)) hf
  repeat (first | with_reducible refine wpAny_call ?_ | lk)
  refine codeAny_mono h λ r s' z=> ?_;rcases r with e | (v | _ | _ | _) <;> first | exact z | exact z.elim | skip;obtain ⟨rfl,z⟩:=z;exact wpAny_pure (wpAny_pure z)
end
end HT
namespace L2
open PySem PySem.Spec PyProof.Rows PySem.W
def N5 (te:TE):TE:=λ σ H Q=>te σ H λ v H1=>(∃ i:Int,v= .int i/\i.natAbs.log2<1920/\Q (.str (Str.ofString (toString i))) H1)\/∃ x:Str,v= .str x/\x.length<=100000/\Q (.str x) H1
theorem L8 {X:Cx} {e:Expr} {te:TE} {pos:Pos} (he:PE X e te):PE X (.FormattedValue e (-1) none pos) (N5 te):=by
  intro pins s σ H Q I h;refine FormattedValue_plain (thn (he pins s σ H _ I h) λ u s1 ⟨v,H1,I1,rv,q⟩=> ?_);rcases q with ⟨i,rfl,hi,q⟩ | ⟨x,rfl,hx,q⟩
  · obtain ⟨t,rfl⟩:=rv;exact formatField_int_small hi ⟨.str _,H1,I1.tok _,⟨_,rfl⟩,q⟩
  · obtain ⟨t,rfl⟩:=rv;exact formatField_str (λ t' tk=>⟨.str _,H1,I1.tok _,⟨_,rfl⟩,q⟩) (Nat.le_trans hx (by decide))
def PEs (X:Cx):List Expr->List TE->Prop
  | [],[]=>True
  | e::es,t::ts=>PE X e t/\PEs X es ts
  | _,_=>False
theorem KL {X:Cx}:PEs X [] []:=trivial
theorem Eo {X:Cx} {e:Expr} {es:List Expr} {t:TE} {ts:List TE} (h:PE X e t) (hs:PEs X es ts):PEs X (e::es) (t::ts):=⟨h,hs⟩
def ER:List TE->Str->St->Hp->VK->Prop
  | [],out,_,H,Q=>Q (.str out) H
  | t::ts,out,σ,H,Q=>t σ H λ v H1=>∃ y,v= .str y/\(out++y).length<=100000/\ER ts (out++y) σ H1 Q
theorem Gd {X:Cx}:∀ (es:List Expr) (ts:List TE) (out:Str) (pins:List (Addr × Obj)) (s:Shared) (σ:St) (H:Hp) (Q:VK),PEs X es ts->out.length<=100000->Inv X pins σ H s->ER ts out σ H Q->
    wpAny (model X.prog X.w) X.A (joinParts out (evalEach es X.env)) (EP X pins σ Q) X.xe s
  | [],[],out,pins,s,σ,H,Q,_,hl,I,h=>joinParts_nil ⟨.str _,H,I.tok _,⟨_,rfl⟩,h⟩ (Nat.le_trans hl (by decide))
  | e::es,t::ts,out,pins,s,σ,H,Q,⟨he,hes⟩,hl,I,h=>by
    refine joinParts_cons (thn (he pins s σ H _ I h) λ u s1 ⟨v,H1,I1,rv,y,ev,hz,q⟩=> ?_);subst ev;obtain ⟨tk,rfl⟩:=rv;exact ⟨Nat.le_trans hz (by decide),Gd es ts (out++y) pins s1 σ H1 Q hes hz I1 q⟩
theorem Ij {X:Cx} {v₁ v₂:Expr} {rest:List Expr} {ts:List TE} {pos:Pos} (h:PEs X (v₁::v₂::rest) ts):PE X (.JoinedStr (v₁::v₂::rest) pos) (ER ts Str.empty):=by
  intro pins s σ H Q I hq;exact JoinedStr_many (Gd _ ts Str.empty pins s σ H Q h (by decide) I hq)
theorem J5 {H:Hp} {a:Addr} {o:HO} (h:H a=some o):upd H a o=H:=by
  funext b;by_cases z:b=a
  · rw [z,Ab,h]
  · rw [Ai z]
structure XBase (K:PySem.W.Frag) (CL:Addr):Prop where
  sp:specialIn K (.ref CL) "__getattribute__"=some (some (.builtin "type.__getattribute__"))
  rd:readsIn K CL (.type "type")=true
  fc:findCls K (.ref CL) (.type "type") "__init__"=some (.val (.builtin "ValueError.__init__"))
def IN (K:PySem.W.Frag) (t:TA):TE:=λ σ H Q=>t σ H λ vs H1=>∃ a C od fi z,vs=[.ref a, .str z]/\H1 a=some (xnO a C od)/\HT.iniIn K C fi=true/\Q .non H1
theorem JC {pl:Sem Bool} {X:Cx} {K:PySem.W.Frag} {x:Str} {CL:Addr} {p apos pos:Pos} {e₁ e₂:Expr} {t:TA} (hm:X.mg x=some (.ref CL)) (b:XBase K CL) (ha:PA X [e₁,e₂] t) (hK:X.K=K:=by rfl) (hg:Gl X x:=by rfl) (hd:(x == ("__debug__":Str))=false:=by decide)
    (he:starEach [e₁,e₂] X.env=(false,eval e₁ X.env)::starEach [e₂] X.env:=by rfl) (hpl:(backTo pos (starEach [e₂] X.env)).any (·.1)=false:=by rfl)
    (ht:eval (.Call (.Attribute (.Name x p) "__init__" apos) [e₁,e₂] [] pos) X.env=(do
      let ov <-eval (.Name x p) X.env
      standAt apos.atName
      let (f,first) <-holding [ov] (getMethod ov "__init__" pl)
      callWith pos f first (backTo pos (starEach [e₁,e₂] X.env)) (backToKw pos (keywordEach [] X.env))):=by rfl):
    PE X (.Call (.Attribute (.Name x p) "__init__" apos) [e₁,e₂] [] pos) (IN K t):=by
  subst hK;intro pins s σ H Q I h;refine PySem.W.methodCall_KW (pl:=pl) (Cv I hg hm ?_ hd) ht;refine method_cls I.kIn b.sp (cls_value I.kIn b.rd b.fc (by decide +kernel) ?_);have I0:Inv X pins σ H { s with toks:=s.toks+1 }:=I.tok _;refine PyProof.Rows.callWith_builtin1 (thn (ha pos pins _ σ H _ I0 h) λ us s1 ⟨vs,H1,I1,r1,a,C,od,fi,z,ev,ea,hi,q⟩=> ?_) he hpl;subst ev;obtain ⟨u1,u2,rfl,r1',r2'⟩:=JI r1;obtain rfl:u1=Value.ref a:=r1';obtain ⟨⟨t0,hea⟩,_⟩:=(show ObjOk X.prog X.w H1 s1.heap a (xnO a C od) from I1.hok a _ ea);refine HT.exc_initB (HT.ini_of I1.kIn hi) hea λ h' ha' keep=>⟨.non,H1,?_,rfl,q⟩;have J:=I1.write (x:=a) (e:=a) (o:=xnO a C od) (t':=s1.toks) (by rw [ea];exact True.intro) (.inl rfl) (λ b ob hb e=>keep b ob hb e) ⟨_,ha'⟩ (Jo ha');rw [J5 ea] at J;exact J
section
variable {P:Program} {w:World} {K:PySem.W.Frag} {mg:Str->Option Value} {base:Heap} {N:List Str} {qual:Str} {scope:Scope} {f:Addr} {cd:Value} {A:Around} {outer:List Env} {s₀:Shared} {H₀:Hp} {E:XK}
theorem Mb {H:Hp} {h:Heap} {e C:Addr} {od:Option Addr} (hok:HOk P w H h) (ea:H e=some (xnO e C od)):HOk P w (bar e H) h:=λ b u eb=>by
  have hb:b≠e:=λ z=>by
    have:=(if_pos z).symm.trans eb;cases this
  have eb:H b=some u:=(if_neg hb).symm.trans eb;have ne:∀ c v,H c=some v->(∀ φ,v≠ .ext φ)->c≠e:=λ c v q n z=>by rw [z,ea] at q;cases q;exact n _ rfl
  exact (hok b u eb).stay (λ c v _ q=>q) (λ c q=>(if_neg (ne c _ q λ φ z=>by cases z)).trans q) λ c xs q=>(if_neg (ne c _ q λ φ z=>by cases z)).trans q
theorem HP {pins:List (Addr × Obj)} {σ:St} {H:Hp} {s:Shared} {e C t:Addr} {od:Option Addr} (I:Inv (B6 (CXE P w) P w K mg base N qual scope f cd A outer s₀ H₀ E) pins σ H s)
    (he:s.heap.get? e=some ⟨.ref C,od, .fields #[.ref t, .none, .none, .none, .bool false, .none], #[]⟩) (ea:H e=some (xnO e C od)) (new:s₀.heap.get? e=none) (q:E (.ref C) od (bar e H)):
    (B6 (CXE P w) P w K mg base N qual scope f cd A outer s₀ H₀ E).xe (.ref e) s:=by
  have hfr:(envOfC qual scope s₀.heap.objs.size f cd).frame=some s₀.heap.objs.size:=rfl;have hfs:frs (envOfC qual scope s₀.heap.objs.size f cd::outer)=s₀.heap.objs.size::frs outer:=BG hfr;have hen:(PySem.W.hideAll s.heap (e::frs (envOfC qual scope s₀.heap.objs.size f cd::outer))).get? e=none:=PySem.W.hideAll_none _ List.mem_cons_self;have key:=wpAny_leaving_firstW (M:=model P w) (A:=A.deeper (envOfC qual scope s₀.heap.objs.size f cd)) (E:=λ _ _=>False) (s:=s) (base:=PySem.W.hideAll s.heap (e::frs (envOfC qual scope s₀.heap.objs.size f cd::outer))) (a0:= .ref t)
    (Q:=λ _ s'=>∃ h2,s'={ s with heap:=h2 }/\Heap.LeftW (PySem.W.hideAll s.heap (e::frs (envOfC qual scope s₀.heap.objs.size f cd::outer))) (envOfC qual scope s₀.heap.objs.size f cd::outer) e (.ref C) (.ref t) s.heap h2)
    I.ok.frames (EW I.stack λ b hb=>PySem.W.hideAll_none _ (List.mem_cons_of_mem _ hb)) hfr he (λ b o e=>PySem.W.of_hideAll _ e) hen rfl rfl rfl λ h2 hl=>⟨h2,rfl,hl⟩
  refine wpAny_mono (B8 (Ei _ _) key) (λ _ s' ⟨⟨h2,es,hl⟩,kd⟩=> ?_) λ _ _ z=>z.1.elim;subst es;obtain ⟨k1,⟨_,_,k2⟩,k3,ups⟩:=hl;have ib:Un (frs outer) [] H₀ H s₀.heap s.heap:=I.base;have nl:∀ b o,s₀.heap.get? b=some o->b≠s₀.heap.objs.size:=λ b o e=>Nat.ne_of_lt (Heap.lt_size e);have nE:∀ b o,s₀.heap.get? b=some o->b≠e:=λ b o q z=>by rw [z,new] at q;cases q
  have inB:∀ b o,s.heap.get? b=some o->b≠e->b∉frs (envOfC qual scope s₀.heap.objs.size f cd::outer)->h2.get? b=some o:=λ b o q h1 h3=>k1 b o (PySem.W.hideAll_get _ q λ z=>by
    rcases List.mem_cons.mp z with z | z
    · exact h1 z
    · exact h3 z)
  have notin:∀ b o,s₀.heap.get? b=some o->b∉frs outer->b∉frs (envOfC qual scope s₀.heap.objs.size f cd::outer):=λ b o e hn z=>by
    rw [hfs] at z;rcases List.mem_cons.mp z with z | z
    · exact nl b o e z
    · exact hn z
  have isin:∀ b,b∈frs outer->b∈frs (envOfC qual scope s₀.heap.objs.size f cd::outer):=λ b hb=>by rw [hfs];exact List.mem_cons_of_mem _ hb
  have neX:∀ b v,H b=some v->(∀ φ,v≠ .ext φ)->b≠e:=λ b v q n z=>by rw [z,ea] at q;cases q;exact n _ rfl
  have barN:∀ b,bar e H b≠none->b≠e/\H b≠none:=λ b hb=>by
    by_cases z:b=e
    · exact absurd (if_pos z) hb
    · exact ⟨z,λ q=>hb ((if_neg z).trans q)⟩
  have fl:Heap.FlyingW (PySem.W.hideAll s.heap (e::frs (envOfC qual scope s₀.heap.objs.size f cd::outer))) outer e (.ref C) (.ref t) h2:=⟨k1,hen,k2,k3⟩;refine ⟨e,C,t,od,bar e H,rfl,I.os,I.bare,?_,(Mb I.hok ea).on λ b u hb q=>inB b u q (barN b hb).1 (λ z=>(barN b hb).2 (I.stkFree b z)),⟨_,fl,λ b hb hn o q=> ?_⟩,DictIs.on ⟨_,he,rfl⟩ kd (let ⟨o,e,_⟩:=fl.there;⟨o,e⟩),q⟩
  · refine ⟨λ b o q hH hn _=> ?_,λ b o q hH hb _=> ?_,λ b o q hH _=> ?_,λ b o q _=> ?_,λ b xs q=> ?_,λ b o u q=> ?_,λ b ps q=> ?_⟩
    · exact inB b o (ib.keep b o q hH hn (by simp)) (nE b o q) (notin b o q hn)
    · obtain ⟨sl,e1⟩:=ib.slot b o q hH hb (by simp);obtain ⟨_,o',e',nf⟩:=AF I.stack (isin b hb);rw [e1] at e';cases e';obtain ⟨sl3,e3⟩:=ups b _ e1 nf;exact ⟨sl3,e3⟩
    · exact (if_neg (nE b o q)).trans (ib.free b o q hH (by simp))
    · obtain ⟨o1,e1⟩:=ib.there b o q (by simp);by_cases hb:b∈frs outer
      · obtain ⟨_,o',e',nf⟩:=AF I.stack (isin b hb);obtain ⟨sl3,e3⟩:=ups b _ e' nf;exact ⟨_,e3⟩
      · exact ⟨o1,inB b o1 e1 (nE b o q) (notin b o q hb)⟩
    · have:=ib.tups b xs q;exact (if_neg (neX b _ this λ φ z=>by cases z)).trans this
    · have:=ib.frzs b o u q;exact (if_neg (neX b _ this λ φ z=>by cases z)).trans this
    · obtain ⟨m,this⟩:=ib.tbls b ps q;exact ⟨m,(if_neg (neX b _ this λ φ z=>by cases z)).trans this⟩
  · have hbe:b≠e:=by
      rcases hb with hb | ⟨o1,e1⟩
      · exact (barN b hb).1
      · exact nE b o1 e1
    have hn2:b∉frs (envOfC qual scope s₀.heap.objs.size f cd::outer):=λ z=>by
      rcases hb with hb | ⟨o1,e1⟩
      · exact (barN b hb).2 (I.stkFree b z)
      · exact notin b o1 e1 hn z
    obtain ⟨o2,e2⟩:∃ o2,s.heap.get? b=some o2:=by
      rcases hb with hb | ⟨o1,e1⟩
      · cases hx:H b with
        | none=>exact absurd hx (barN b hb).2
        | some u=>exact Jw (I.hok b u hx)
      · exact ib.there b o1 e1 (by simp)
    have e3:=inB b o2 e2 hbe hn2;have q:h2.get? b=some o:=q;rw [q] at e3;cases e3;exact PySem.W.hideAll_get _ e2 λ z=>by
      rcases List.mem_cons.mp z with z | z
      · exact hbe z
      · exact hn2 z
end
end L2
namespace HT
open PySem PySem.Spec PyProof.Rows PySem.W PySem.Calls PySem.Builtin
theorem raise_made {M:Model} {A:Around} {E:Value->Shared->Prop} {s:Shared} {env:Env} {C fi:Addr} {x:Sem Value} {Q:Flow->Shared->Prop} (hh:A.handled=none)
    (h:wpAny M A x (λ v s₁=>∃ e t od,v= .ref e/\IniAt s₁.heap C fi/\s₁.heap.get? e=some ⟨.ref C,od, .fields #[.ref t, .none, .none, .none, .bool false, .none], #[]⟩/\E (.ref e) s₁) E s):
    wpAny M A (raiseStmt env (some x) none) Q E s:=by
  unfold raiseStmt;refine wpAny_bind (wpAny_mono h (λ v s₁ h₁=> ?_) λ _ _ x=>x);obtain ⟨e,t,od,rfl,⟨bm,N,nm,q,bs,hdct,sn,sub,ab,col,dd,k0,k1,k2,k3,k5,mN,hC,hN,hi,T⟩,he,hE⟩:=h₁;have hcB:(Value.ref C::bm).contains (.type "BaseException")=true:=by rw [List.contains_cons,T.hasType PySem.F.excBase_ValueError.hasBase,Bool.or_true]
  obtain ⟨hp,g,d,tk,os⟩:=s₁
  repeat (first | with_reducible refine wpAny_loadPart_at he ?_ | with_reducible refine wpAny_loadPart_at hC ?_ | (with_reducible refine wpAny_isSubtype_exc hC ?_;rw [hcB]) | wp_step)
  exact wpAny_raiseNew_none hh hE
end HT
namespace L2
open PySem PySem.Spec PyProof.Rows PySem.W
structure MkI (K:PySem.W.Frag) (C fi:Addr):Prop where
  ini:HT.iniIn K C fi=true
  fn:isFn K (.ref fi)=true
  kp:keepIn K (.ref C)=true
def DP (E:XK) (C:Addr) (sp:Sp) (t:TA):TS:=λ _ σ H=>t σ H λ vs H1=>vs.length<=900/\∀ a,H1 a=none->sp (.ref a::vs) (upd H1 a (xnO a C none)) (λ v H2=>v= .non/\∃ od,H2 a=some (xnO a C od)/\E (.ref C) od (bar a H2)) E0
theorem HV {P:Program} {w:World} {K:PySem.W.Frag} {mg:Str->Option Value} {base:Heap} {N:List Str} {qual:Str} {scope:Scope} {f:Addr} {cd:Value} {A:Around} {outer:List Env} {s₀:Shared} {H₀:Hp} {E:XK} {k:Nat} {x:Str} {C fi:Addr} {fd:FuncData} {ps:List Str} {sp:Sp} {e₀:Expr} {rest:List Expr} {np cpos pos:Pos} {t:TA}
    (hm:mg x=some (.ref C)) (M:MkI K C fi) (F:FnOk P w K mg base CX0 k fi fd ps sp) (hb:Binds K fd ps []) (hr:Room (k+1) (A.deeper (envOfC qual scope s₀.heap.objs.size f cd)))
    (ha:PA (B6 (CXE P w) P w K mg base N qual scope f cd A outer s₀ H₀ E) (e₀::rest) t)
    (he:starEach (e₀::rest) (envOfC qual scope s₀.heap.objs.size f cd)=(false,eval e₀ (envOfC qual scope s₀.heap.objs.size f cd))::starEach rest (envOfC qual scope s₀.heap.objs.size f cd):=by rfl)
    (hpl:(backTo cpos (starEach rest (envOfC qual scope s₀.heap.objs.size f cd))).any (·.1)=false:=by rfl)
    (hg:Gl (B6 (CXE P w) P w K mg base N qual scope f cd A outer s₀ H₀ E) x:=by rfl) (hd:(x == ("__debug__":Str))=false:=by decide):
    PS (B6 (CXE P w) P w K mg base N qual scope f cd A outer s₀ H₀ E) (.Raise (some (.Call (.Name x np) (e₀::rest) [] cpos)) none pos) (DP E C sp t):=by
  intro pins s σ H D I h;rw [arm_exec_Raise];refine wpAny_bind (wpAny_standAt ?_);show wpAny _ _ (raiseStmt _ (some (do let v <-eval (.Call (.Name x np) (e₀::rest) [] cpos) (envOfC qual scope s₀.heap.objs.size f cd);standAt pos;pure v)) none) _ _ _;refine HT.raise_made (C:=C) (fi:=fi) (I.ok.hd rfl) (wpAny_bind (wpAny_mono (Q:=λ v s₁=>∃ e t od,v= .ref e/\HT.IniAt s₁.heap C fi/\s₁.heap.get? e=some ⟨.ref C,od, .fields #[.ref t, .none, .none, .none, .bool false, .none], #[]⟩/\(B6 (CXE P w) P w K mg base N qual scope f cd A outer s₀ H₀ E).xe (.ref e) s₁) ?_ (λ v s₃ h₃=>wpAny_bind (wpAny_standAt (wpAny_pure h₃))) λ _ _ x=>x));refine wpAny_Call_Name_kw (Cv I hg hm ?_ hd);refine PySem.W.callWith_K (h₀:=base) I.ok.mod.kin M.kp (thn (ha cpos pins s σ H _ I h) λ us s1 ⟨vs,H1,I1,r,hl,q⟩=>⟨I1.kIn,?_⟩) he hpl;have hq:=q (s1.heap.objs.size+1) (I1.hok.fresh (Nat.le_succ _));have hl':us.length<=1000:=by rw [<-r.length];omega
  have kp:∀ b o,s1.heap.get? b=some o->((s1.heap.push { cls:= .type "tuple",data:= .seq us.toArray }).push { cls:= .ref C,data:= .fields #[.ref s1.heap.objs.size, .none, .none, .none, .bool false, .none] }).get? b=some o:=λ b o e=>Heap.get?_push_of_some _ (Heap.get?_push_of_some _ e);have hget:((s1.heap.push { cls:= .type "tuple",data:= .seq us.toArray }).push { cls:= .ref C,data:= .fields #[.ref s1.heap.objs.size, .none, .none, .none, .bool false, .none] }).get? (s1.heap.objs.size+1)=some { cls:= .ref C,data:= .fields #[.ref s1.heap.objs.size, .none, .none, .none, .bool false, .none] }:=by heap_get
  have I2:=I1.laid (a:=s1.heap.objs.size+1) (o:=xnO (s1.heap.objs.size+1) C none) (t':=s1.toks) kp (Nat.le_succ _) (Jo hget);have r2:Vals (V.ref (s1.heap.objs.size+1)::vs) (Value.ref (s1.heap.objs.size+1)::us):= .cons rfl r;have hlen:(Value.ref (s1.heap.objs.size+1)::us).length=ps.length:=by
    have e:=r2.length;rw [F.len _ _ _ _ hq] at e;exact e.symm
  refine wpAny_call (HT.exc_make I1.kIn (HT.ini_of I1.kIn M.ini) (beq_iff_eq.mp M.fn) hl' (codeAny_mono (F.run _ _ _ _ ⟨Value.ref (s1.heap.objs.size+1)::us,[]⟩ (Value.ref (s1.heap.objs.size+1)::us) _ _ E0 (hr.make C us [])
    (I2.env0.make C us []) (by have:=hb _ (Value.ref (s1.heap.objs.size+1)::us) I2.kIn (by simpa using hlen);simpa using this) r2 hq) λ r s' hq'=> ?_))
  cases r with
  | error e=>exact False.elim hq'
  | ok fl=>
    cases fl with
    | ret u=>
      obtain ⟨v,H',I3,rv,ev,od,e3,q3⟩:=I2.after hq';subst ev;obtain ⟨⟨t0,he3⟩,_⟩:=(show ObjOk P w H' s'.heap (s1.heap.objs.size+1) (xnO (s1.heap.objs.size+1) C od) from I3.hok _ _ e3);refine ⟨rv,⟨s1.heap.objs.size+1,t0,od,rfl,HT.ini_of I3.kIn M.ini,he3,HP I3 he3 e3 ?_ q3⟩⟩;exact Heap.get?_none_of_le (Nat.le_trans I1.sz (Nat.le_succ _))
    | next=>exact False.elim hq'
    | brk=>exact False.elim hq'
    | cont=>exact False.elim hq'
def FC (P:Program) (w:World) (K:PySem.W.Frag) (mg:Str->Option Value) (base:Heap) (x:Str) (C:Addr) (k:Nat) (ps:List Str) (sp:Sp):Prop:=
  ∃ fi fd,mg x=some (.ref C)/\MkI K C fi/\FnOk P w K mg base CX0 k fi fd ps sp/\Binds K fd ps []
theorem Dq {P:Program} {w:World} {K:PySem.W.Frag} {mg:Str->Option Value} {base:Heap} {N:List Str} {qual:Str} {scope:Scope} {f:Addr} {cd:Value} {A:Around} {outer:List Env} {s₀:Shared} {H₀:Hp} {E:XK} {k:Nat} {x:Str} {C:Addr} {ps:List Str} {sp:Sp} {e₀:Expr} {rest:List Expr} {np cpos pos:Pos} {t:TA}
    (h:FC P w K mg base x C k ps sp) (hr:Room (k+1) (A.deeper (envOfC qual scope s₀.heap.objs.size f cd))) (ha:PA (B6 (CXE P w) P w K mg base N qual scope f cd A outer s₀ H₀ E) (e₀::rest) t)
    (he:starEach (e₀::rest) (envOfC qual scope s₀.heap.objs.size f cd)=(false,eval e₀ (envOfC qual scope s₀.heap.objs.size f cd))::starEach rest (envOfC qual scope s₀.heap.objs.size f cd):=by rfl)
    (hpl:(backTo cpos (starEach rest (envOfC qual scope s₀.heap.objs.size f cd))).any (·.1)=false:=by rfl)
    (hg:Gl (B6 (CXE P w) P w K mg base N qual scope f cd A outer s₀ H₀ E) x:=by rfl) (hd:(x == ("__debug__":Str))=false:=by decide):
    PS (B6 (CXE P w) P w K mg base N qual scope f cd A outer s₀ H₀ E) (.Raise (some (.Call (.Name x np) (e₀::rest) [] cpos)) none pos) (DP E C sp t):=by
  obtain ⟨fi,fd,hm,M,F,hb⟩:=h;exact HV hm M F hb hr ha he hpl hg hd
section
variable {K:PySem.W.Frag} {σ:St} {H:Hp} {Q:VK} {D:Ends} {f:Str} {to tv te:TE} {t:TA} {E:XK} {C:Addr} {sp:Sp} {ts:List TE} {out:Str}
theorem GG (h:findIn K (.ref C) f=some none):takerIn K C f=some none:=by unfold takerIn;rw [h];rfl
theorem Iz (h:t σ H λ vs H1=>∃ a C od fi z,vs=[.ref a, .str z]/\H1 a=some (xnO a C od)/\HT.iniIn K C fi=true/\Q .non H1):IN K t σ H Q:=h
theorem Kw (h:tv σ H λ y H1=>to σ H1 λ x H2=>∃ a C od,x= .ref a/\H2 a=some (xnO a C od)/\XSet K C/\takerIn K C f=some none/\
  ((od=none/\∀ dx,H2 dx=none->D.nx σ (upd (upd H2 dx (xdO dx [(f,y)])) a (xnO a C (some dx))))\/∃ dx fs,od=some dx/\H2 dx=some (xdO dx fs)/\fs.length<1000/\D.nx σ (upd H2 dx (xdO dx (DJ f y fs))))):LT K f to tv D σ H:=h
theorem Hi (h:to σ H λ v H1=>∃ a C dx fs y,v= .ref a/\H1 a=some (B4 a C (some dx))/\H1 dx=some (xdO dx fs)/\fs.lookup f=some y/\XKind K C/\findIn K (.ref C) f=some none/\Q y H1):LD K f to σ H Q:=h
theorem Nf (h:te σ H λ v H1=>(∃ i:Int,v= .int i/\i.natAbs.log2<1920/\Q (.str (Str.ofString (toString i))) H1)\/∃ x:Str,v= .str x/\x.length<=100000/\Q (.str x) H1):N5 te σ H Q:=h
theorem FM (h:te σ H λ v H1=>∃ y,v= .str y/\(out++y).length<=100000/\ER ts (out++y) σ H1 Q):ER (te::ts) out σ H Q:=h
theorem Ho (h:Q (.str out) H):ER [] out σ H Q:=h
theorem Dr (h:t σ H λ vs H1=>vs.length<=900/\∀ a,H1 a=none->sp (.ref a::vs) (upd H1 a (xnO a C none)) (λ v H2=>v= .non/\∃ od,H2 a=some (xnO a C od)/\E (.ref C) od (bar a H2)) E0):DP E C sp t D σ H:=h
end
end L2
namespace L2
open PySem PySem.Spec PyProof.Rows
section
variable {X:Cx} {elts:List Expr} {k:Nat} {tpos:Pos}
end
section
variable {K:PySem.W.Frag} {H:Hp} {i1 i2 off:Nat} {z:Str}
end
section
variable {X:Cx} {K:PySem.W.Frag}
end
section
variable {M:Model} {A:Around} {E:Value->Shared->Prop} {s:Shared} {base:Heap} {e:Addr} {cls a0:Value} {Q:Unit->Shared->Prop}
end
section
variable {X:Cx} {E:XK} {scope:Scope} {own:List Str} {fr:List (Str × Nat)}
end
section
variable {X:Cx} {E:XK}
variable {scope:Scope} {own:List Str} {fr:List (Str × Nat)}
end
end L2
namespace L2
open PySem PySem.Spec PyProof.Rows PySem.W
def IE (H:Hp) (ts:List Addr):Prop:=∀ b,H b=none\/(∃ o xs,H b=some (.frz o (.lst xs)))\/b∈ts
theorem HL {P:Program} {w:World} {K:PySem.W.Frag} {mg mb:Str->Option Value} {CX:CXT} {k:Nat} {fa a:Addr} {ts:List Addr} {fd:FuncData} {x:Str} {sp:Sp} {s₁:Shared} {vs:List Value} {ns:List Int}
    (KX:K.In s₁.heap) (hns:s₁.heap.Ns mainGlobals mg) (hb:s₁.heap.Ns builtinsNs mb) (hbb:∀ x:Str,x≠"__name__"->mb x=bootBuiltins x) (hlim:s₁.heap.NoLimit) (hg:s₁.gens= #[])
    (ha:s₁.heap.get? a=some { cls:= .type "list",data:= .seq vs.toArray }) (hi:IntsAre vs ns) (hl:ns.length<=sizeLine) (hr:Room k callerA)
    (hT:∀ T∈ts,s₁.heap.get? T=some (tabObj #[])) (hC:∀ T∈ts,∃ c,CodeHd s₁.heap c T) (hKT:∀ T∈ts,K.lookup T=none) (hB:∀ T∈ts,s₁.heap.BuiltinsAt mg T)
    (F:∀ base:Heap,K.In base->base.Ns mainGlobals mg->(∀ T∈ts,base.BuiltinsAt mg T)->FnOk P w K mg base CX k fa fd [x] sp) (hbind:∀ (s:Shared) (u:Value),BindsTo s fd ⟨[u],[]⟩ [(x,u)])
    (hsp:∀ H:Hp,IE H ts->(∀ T∈ts,H T=some (.tbl #[]))->SqL K H a (ns.map V.int)->sp [.ref a] H (λ v _=>v= .bl true) λ _ _ _=>False)
    (hCX:∀ H e s',CX [] H s₁ (λ _ _ _=>False) e s'->False):
    codeAny (model P w) callerA (.call (.ref fa) ⟨[.ref a],[]⟩) (λ r s'=>r= .ok (.ret (.bool true))/\OldK s₁.heap s'.heap/\s'.os=s₁.os/\AllBare s'.gens) s₁:=by
  have rv:=E8 hi;have naT:a∉ts:=λ z=>by have:=hT a z;rw [this] at ha;cases ha
  have core:∀ H:Hp,IE H ts->(∀ T∈ts,H T=some (.tbl #[]))->SqL K H a (ns.map V.int)->HOk P w H s₁.heap->(∀ b,H b≠none->b=a\/b∈ts)->(H a≠none->K.lookup a=none)->
      codeAny (model P w) callerA (.call (.ref fa) ⟨[.ref a],[]⟩) (λ r s'=>r= .ok (.ret (.bool true))/\OldK s₁.heap s'.heap/\s'.os=s₁.os/\AllBare s'.gens) s₁:=by
    intro H hO hHT hS hok hA hK;have free:∀ {b:Addr} {o:Obj},s₁.heap.get? b=some o->(∀ ws n,o.data≠ .seq ws n)->(∀ ws,o.data≠ .fields ws\/o.cls≠ .none)->H b=none:=λ {b o} e n1 n2=>by
      cases q:H b with
      | none=>rfl
      | some u=>
        rcases hA b (by rw [q];simp) with z | z
        · rw [z,ha] at e;cases e;exact absurd rfl (n1 _ _)
        · rw [hT b z] at e;cases e;rcases n2 #[] with z | z
          · exact absurd rfl z
          · exact absurd rfl z
    have nsK:∀ {b:Addr} {m:Str->Option Value},s₁.heap.Ns b m->(FG s₁.heap H).Ns b m:=λ {b m} ⟨o,es,ep,e,d,r⟩=>⟨o,es,ep,Ej e (free e (λ ws n=>by rw [d];simp) λ ws=> .inl (by rw [d];simp)),d,r⟩;have hKb:K.In (FG s₁.heap H):=λ b o e=>Ej (KX b o e) (by
      cases q:H b with
      | none=>rfl
      | some u=>
        rcases hA b (by rw [q];simp) with z | z
        · subst z;rw [hK (by rw [q];simp)] at e;cases e
        · rw [hKT b z] at e;cases e)
    have hM:Mod K mg (FG s₁.heap H):=⟨hKb,nsK hns,⟨mb,nsK hb,hbb⟩,let ⟨mc,h1,h2⟩:=hlim;⟨mc,nsK h1,h2⟩⟩;have e0:Env0 P w K mg (FG s₁.heap H) callerA [] s₁ H:=⟨rfl,hM,λ b o e=>KM e,Nat.le_of_eq (HZ _ _),trivial,λ b hb=>absurd (show b∈([]:List Addr) from hb) (by simp),hok, .of_eq hg⟩;have hB':∀ T∈ts,(FG s₁.heap H).BuiltinsAt mg T:=λ T z=>by
      obtain ⟨bm,o,a1,a2,a3,a4,a5,a6,a7,a8⟩:=hB T z;exact ⟨bm,o,a1,a2,a3,a4,Ej a5 (free a5 (λ ws n=>by rw [a8];simp) λ ws=> .inl (by rw [a8];simp)),a6,a7,a8⟩
    refine codeAny_mono ((F _ hKb (nsK hns) hB').run callerA [] s₁ H ⟨[.ref a],[]⟩ [.ref a] [.ref a] _ _ hr e0 (hbind s₁ (.ref a)) (.cons rfl .nil) (hsp H hO hHT hS)) λ r s' h=> ?_
    match r,h with
    | .error e,h=>exact (hCX H e s' h).elim
    | .ok .next,h=>exact False.elim h
    | .ok .brk,h=>exact False.elim h
    | .ok .cont,h=>exact False.elim h
    | .ok (.ret u),⟨v,H',os,bare,un,hok',r',q⟩=>
      have q':v= .bl true:=q;subst q';obtain rfl:u=Value.bool true:=r';have kept:∀ b o,b∉ts->s₁.heap.get? b=some o->s'.heap.get? b=some o:=λ b o hb e=>by
        cases q:H b with
        | none=>exact un.keep b o e q (by intro z;exact absurd (show b∈([]:List Addr) from z) (by simp)) (by simp)
        | some u=>
          rcases hO b with z | ⟨ob,xs,z⟩ | z
          · rw [q] at z;cases z
          · obtain ⟨e1,_⟩:=hok b _ z;obtain ⟨e2,_⟩:=hok' b _ (un.frzs b ob _ z);rw [e] at e1;cases e1;exact e2
          · exact absurd z hb
      have hT2:∀ T∈ts,∃ more,s'.heap.get? T=some (tabObj (#[]++more)):=λ T z=>by
        obtain ⟨more,hT'⟩:=un.tbls T _ (hHT T z);exact ⟨more,hok' T _ hT'⟩
      refine ⟨rfl,⟨λ b o e=> ?_,λ b o e=> ?_⟩,os,bare⟩
      · by_cases hb:b∈ts
        · have hTb:=hT b hb;rw [hTb] at e;cases e;obtain ⟨cc,hc⟩:=hC b hb;obtain ⟨more,h2⟩:=hT2 b hb;exact .inr (.inl ⟨(hc.tab hTb).isCodeTable,rfl, #[],more,rfl,h2⟩)
        · exact .inl (kept b o hb e)
      · by_cases hb:b∈ts
        · obtain ⟨more,h2⟩:=hT2 b hb;exact ⟨_,h2⟩
        · exact ⟨o,kept b o hb e⟩
  cases hk:K.lookup a with
  | some o=>
    have e:=KX a o hk;rw [ha] at e;cases e;refine core (λ b=>if b∈ts then some (.tbl #[]) else none) (λ b=> ?_) (λ T z=>if_pos z) (.inr ⟨_,vs.toArray,_,hk,rfl,rfl,rfl,by rw [List.size_toArray,hi.length];exact hl,by simpa using rv⟩) (λ b u z=> ?_) (λ b z=> ?_) λ z=>absurd (if_neg naT) z
    · by_cases hb:b∈ts
      · exact .inr (.inr hb)
      · exact .inl (if_neg hb)
    · by_cases hb:b∈ts
      · have z':=(if_pos hb).symm.trans z;cases z';exact hT b hb
      · have z':=(if_neg hb).symm.trans z;cases z'
    · by_cases hb:b∈ts
      · exact .inr hb
      · exact absurd (if_neg hb) z
  | none=>
    refine core (λ b=>if b∈ts then some (.tbl #[]) else if b=a then some (.frz { cls:= .type "list",data:= .seq vs.toArray } (.lst (ns.map V.int))) else none) (λ b=> ?_) (λ T z=>if_pos z) (.inl (.inr ⟨{ cls:= .type "list",data:= .seq vs.toArray },(if_neg naT).trans (if_pos rfl)⟩)) (λ b u z=> ?_) (λ b z=> ?_) λ _=>hk
    · by_cases hb:b∈ts
      · exact .inr (.inr hb)
      · by_cases hb2:b=a
        · exact .inr (.inl ⟨_,_,(if_neg hb).trans (if_pos hb2)⟩)
        · exact .inl ((if_neg hb).trans (if_neg hb2))
    · by_cases hb:b∈ts
      · have z':=(if_pos hb).symm.trans z;cases z';exact hT b hb
      · by_cases hb2:b=a
        · have z':=((if_neg hb).trans (if_pos hb2)).symm.trans z;cases z';subst hb2;exact ⟨ha,by rw [List.length_map];exact hl,vs,_,rv,ha⟩
        · have z':=((if_neg hb).trans (if_neg hb2)).symm.trans z;cases z'
    · by_cases hb:b∈ts
      · exact .inr hb
      · by_cases hb2:b=a
        · exact .inl hb2
        · exact absurd ((if_neg hb).trans (if_neg hb2)) z
theorem walk_ofM {l:PySem.W.OpenLaw} {n k:Nat} {q:Program} {loose:List Str} {XP:(Str->Option Value)->Heap->Prop} {YP:World->Heap->Prop} {d:DefRec} {K:Params->PySem.W.Frag} {CX:World->CXT} {sp:World->Sp} {x:Str} {ts:List Addr}
    (hn:l.most=some n) (hn2:n<=sizeLine) (hdf:d.params.defaults=[]) (hr:Room k callerA)
    (hY:∀ (w:World) (h:Heap),YP w h->(K w.params).In h) (hYt:∀ (w:World) (h:Heap),YP w h->∀ P∈ts,h.get? P=some (tabObj #[])) (hnt:∀ w:World,noTabs (K w.params)=true)
    (F:∀ (w:World) (mg:Str->Option Value) (fa:Addr) (h:Heap),(K w.params).In h->h.Ns mainGlobals mg->mg d.name=some (.ref fa)->
      ∃ fd:FuncData,(∀ (s:Shared) (u:Value),BindsTo s fd ⟨[u],[]⟩ [(x,u)])/\(∀ h':Heap,(K w.params).In h'->∀ T∈ts,∃ c,CodeHd h' c T)/\
        ∀ base:Heap,(K w.params).In base->base.Ns mainGlobals mg->(∀ T∈ts,base.BuiltinsAt mg T)->FnOk l.prog w (K w.params) mg base (CX w) k fa fd [x] (sp w))
    (hsp:∀ (w:World) (H:Hp) (a:Addr) (ns:List Int),ns.length<=n->IE H ts->(∀ T∈ts,H T=some (.tbl #[]))->SqL (K w.params) H a (ns.map V.int)->sp w [.ref a] H (λ v _=>v= .bl true) λ _ _ _=>False)
    (hCX:∀ (w:World) (H:Hp) (s:Shared) (e:Value) (s':Shared),CX w [] H s (λ _ _ _=>False) e s'->False):
    PySem.W.WalkO q loose XP YP l.row.toRowW d [] (λ f vs=>PySem.call f vs):=by
  refine Att.attach_call hn hdf λ w s₀ s₁ mg mb fa o pm cd doc a vs ns G Y ho hd hcd hmg hobj hints hlen hg=> ?_;have KX:=hY w _ Y;obtain ⟨fd,hb,hC,hF⟩:=F w mg fa _ KX G.T.g hmg;have hT:=hYt w _ Y;have hK:∀ T∈ts,(K w.params).lookup T=none:=λ T hm=>by
    cases e:(K w.params).lookup T with
    | none=>rfl
    | some o=>
      have e2:=KX T o e;rw [hT T hm] at e2;cases e2;have h2:=List.all_eq_true.mp (hnt w) _ (mem_of_lookupK e);exact absurd (show false=true from h2) Bool.false_ne_true
  exact HL KX G.T.g G.T.b G.T.builtins G.T.nolimit hg hobj hints (Nat.le_trans hlen hn2) hr hT (hC _ KX) hK (λ T z=>Ms G.T (hT T z)) hF hb (λ H hO h1 hS=>hsp w H a ns hlen hO h1 hS) λ H e s'=>hCX w H s₁ e s'
section
variable {prog:Program} {w:World} {A:Around} {E:Value->Shared->Prop} {s:Shared}
def MP (t:Addr) (b:Bool) (TI:Addr) (v:Value):Obj:={ cls:= .type "zip",data:= .fields #[rawInt t, .bool b, .bool false, .ref TI,v] }
structure ZipAg (t1 t2:Bool) (h:Heap) (z TI i1 i2 l1 l2 t:Addr) (k:Nat):Prop where
  hz:∃ b v,h.get? z=some (MP t b TI v)
  ht:∃ o,h.get? t=some o
  hTI:IsPair h TI (.ref i1) (.ref i2)
  h1:Bw t1 h i1 l1 k
  h2:Bw t2 h i2 l2 k
def Zst (t1 t2:Bool) (h:Heap) (z TI TO i1 i2 l1 l2:Addr) (k:Nat):Prop:=ZipSt t1 t2 h z TI TO i1 i2 l1 l2 k\/∃ t,ZipAg t1 t2 h z TI i1 i2 l1 l2 t k/\t≠i1/\t≠i2/\t≠z
theorem Zst.at' {t1 t2:Bool} {h h':Heap} {z TI TO i1 i2 l1 l2 D:Addr} {k:Nat} (Z:Zst t1 t2 h z TI TO i1 i2 l1 l2 k) (n:∀ c∈[z,TI,TO,i1,i2],c≠D) (kp:∀ c o,c≠D->h.get? c=some o->h'.get? c=some o) (hD:∃ o,h'.get? D=some o):Zst t1 t2 h' z TI TO i1 i2 l1 l2 k:=by
  have kz:=λ o=>kp z o (n z (by simp));have kTI:=λ o=>kp TI o (n TI (by simp));have kTO:=λ o=>kp TO o (n TO (by simp));have k1:=λ o=>kp i1 o (n i1 (by simp));have k2:=λ o=>kp i2 o (n i2 (by simp));rcases Z with ⟨hz,hTI,⟨c,d,hTO⟩,h1,h2⟩ | ⟨t,⟨⟨b,v,hz⟩,⟨o,ht⟩,hTI,h1,h2⟩,n1⟩
  · exact .inl ⟨kz _ hz,kTI _ hTI,⟨c,d,kTO _ hTO⟩,A7 h1 λ o e=>k1 o e,A7 h2 λ o e=>k2 o e⟩
  · refine .inr ⟨t,⟨⟨b,v,kz _ hz⟩,?_,kTI _ hTI,A7 h1 λ o e=>k1 o e,A7 h2 λ o e=>k2 o e⟩,n1⟩;by_cases e:t=D
    · rw [e];exact hD
    · exact ⟨o,kp t o e ht⟩
end
section
variable {X:Cx} {pins:List (Addr × Obj)} {σ:St} {H:Hp} {s:Shared} {A:Around} {E:Value->Shared->Prop}
end
section
variable {X:Cx} {K:PySem.W.Frag}
end
end L2
namespace L2
open PySem PySem.Spec PyProof.Rows
def Nl (P:Program) (w:World) (K:PySem.W.Frag) (mg:Str->Option Value) (base:Heap) (k:Nat) (f:Addr) (sp:Sp):Prop:=
  ∃ fd ps,PySem.W.keepIn K (.ref f)=true/\FnOk P w K mg base (CXE P w) k f fd ps sp/\Binds K fd ps []
theorem CallE.val {P:Program} {w:World} {K:PySem.W.Frag} {mg:Str->Option Value} {base:Heap} {x:Str} {k:Nat} {ps:List Str} {sp:Sp} (h:CallE P w K mg base x k ps sp):∃ f,mg x=some (.ref f)/\Nl P w K mg base k f sp:=
  let ⟨f,fd,hm,hk,F,hb⟩:=h;⟨f,hm,fd,ps,hk,F,hb⟩
section
variable {X:Cx} {e o:Expr} {es:List Expr} {t:TA} {to:TE} {pos:Pos} {S:Addr->Sp->Prop} {E:XK}
end
section
variable {X:Cx} {K:PySem.W.Frag} {tg l:Expr} {ta:TA} {p pos:Pos}
end
section
variable {K:PySem.W.Frag} {σ0:St} {H:Hp} {a:Addr} {xs:List V}
end
section
variable {X:Cx} {scope:Scope} {cx:Str}
end
structure FnA (K:PySem.W.Frag) (m q:Str) (st:Stmt) (ps:List Str) (f:Addr) (fd:FuncData):Prop where
  fn:Fun K m q st f fd
  bi:Binds K fd ps []
section
variable {K:PySem.W.Frag} {mg:Str->Option Value} {m q x:Str} {st:Stmt} {ps:List Str} {f:Addr} {fd:FuncData}
theorem def_mk (a:mg x=some (.ref f)) (F:Fun K x x st f fd) (b:∀ us:List Value,us.length=ps.length->bindArgs fd ⟨us,[]⟩=pure (ps.zip us)):DefAt K mg x st ps f fd:=⟨F,a, .all b⟩
theorem fnA_mk (F:Fun K m q st f fd) (b:∀ us:List Value,us.length=ps.length->bindArgs fd ⟨us,[]⟩=pure (ps.zip us)):FnA K m q st ps f fd:=⟨F, .all b⟩
theorem exc_mk {C:Addr} (a:PySem.W.isClsIn K C=true) (b:PySem.W.findIn K (.ref C) "__getattribute__"=some (some (.builtin "BaseException.__getattribute__"))) (c:PySem.W.findIn K (.ref C) "__getattr__"=some none) (d:PySem.W.mroIn K C (.type "BaseException")=some true) (e:PySem.W.findIn K (.ref C) "__class__"=some (some (.builtin "object.__class__")))
    (f:PySem.W.specialIn K (.builtin "object.__class__") "__get__"=some (some (.builtin "getset_descriptor.__get__"))) (g:PySem.W.takesIn K (.builtin "object.__class__")=some true) (h:PySem.W.mroIn K C (.type "object")=some true):HT.ExcKind K C:=⟨a,b,c,d,e,f,g,h⟩
theorem ci_mk {n:Int} {t:Tok} (h:mg x=some (.int n t)):∃ t,mg x=some (.int n t):=⟨t,h⟩
theorem cs_mk {z:Str} {t:Tok} (h:mg x=some (.str z t)):∃ t,mg x=some (.str z t):=⟨t,h⟩
theorem own_nil:Own mg []:=λ _ h=>by cases h
theorem own_cons {xs:List Str} (a:mg x=none) (h:Own mg xs):Own mg (x::xs):=λ y hy=>by
  rcases List.mem_cons.mp hy with rfl | hy
  · exact a
  · exact h y hy
end
theorem xk_mk {K:PySem.W.Frag} {C:Addr} (h:HT.ExcKind K C) (d:PySem.W.hasDictIn K C=true):XKind K C:=⟨h,d⟩
section
variable {prog:Program} {w:World} {κ:Type} [DecidableEq κ] (kd:KeyKind prog w κ)
inductive Rows2 (h:Heap):List (List κ)->List Value->Prop
  | nil:Rows2 h [] []
  | cons {k:List κ} {b:Addr} {r:List (List κ)} {us:List Value} (e:IsTupleKey kd h k b) (m:Rows2 h r us):Rows2 h (k::r) (.ref b::us)
def IsT2 (h:Heap) (r:List (List κ)) (b:Addr):Prop:=∃ ob its m,h.get? b=some ob/\ob.cls= .type "tuple"/\ob.data= .seq its m/\Rows2 kd h r its.toList
variable {kd}
theorem Rows2.one {h:Heap} {r r':List (List κ)} {us:List Value} (p:Rows2 kd h r us):Rows2 kd h r' us->r=r':=by
  induction p generalizing r' with
  | nil=>intro q;cases q;rfl
  | cons e _ ih=>
    intro q;cases q with
    | cons e' m'=>rw [IsTupleKey.inj e e',ih m']
theorem Rows2.len {h:Heap} {r:List (List κ)} {us:List Value} (p:Rows2 kd h r us):r.length=us.length:=by
  induction p with
  | nil=>rfl
  | cons _ _ ih=>rw [List.length_cons,List.length_cons,ih]
theorem IsT2.one {h:Heap} {b:Addr} {r r':List (List κ)} (p:IsT2 kd h r b) (p':IsT2 kd h r' b):r=r':=by
  obtain ⟨ob,its,m,e,_,d,q⟩:=p;obtain ⟨ob',its',m',e',_,d',q'⟩:=p';rw [e] at e';cases e';rw [d] at d';cases d';exact q.one q'
variable {A:Around} {E:Value->Shared->Prop} {s:Shared}
end
section
variable {prog:Program} {w:World} {κ:Type} [DecidableEq κ] {kd:HeapKind prog w κ} {A:Around} {E:Value->Shared->Prop} {s:Shared}
end
section
variable {P:Program} {w:World} {H:Hp} {h:Heap}
end
end L2
namespace HT
open PySem PySem.Spec PyProof.Rows PySem.W
variable {prog:Program} {w:World} {A:Around} {E:Value->Shared->Prop} {s:Shared}
def rawIt (it d:Addr) (i n ep:Nat) (p q x y:Value) (h:Heap):Prop:=
  h.get? it=some ⟨.type "dict_itemiterator",none, .fields #[p,q, .ref d, .int i 0, .int n 0, .int ep 0,x,y], #[]⟩
theorem rawIt.type {it d:Addr} {i n ep:Nat} {p q x y:Value} (z:rawIt it d i n ep p q x y s.heap):s.TypeIs (.ref it) "dict_itemiterator":=⟨_,z,rfl⟩
def PZ (k v:Value):Obj:=⟨.type "tuple",none, .seq #[k,v], #[]⟩
def rawOwn (it S:Addr) (p q:Value) (h:Heap):Prop:=(p= .none/\q= .bool false)\/∃ a f oa,p=rawInt ((a:Nat):Int)/\q= .bool f/\h.get? a=some oa/\a≠it/\a≠S
theorem rawOwn.to {it S:Addr} {p q:Value} {h h':Heap} (z:rawOwn it S p q h) (k:∀ b o,b≠it->b≠S->h.get? b=some o->h'.get? b=some o):rawOwn it S p q h':=
  z.imp id λ ⟨a,f,oa,h1,h2,h3,h4,h5⟩=>⟨a,f,oa,h1,h2,k a oa h4 h5 h3,h4,h5⟩
def RSt (it d S:Addr) (i n ep:Nat) (h:Heap):Prop:=∃ p q x y,rawIt it d i n ep p q x y h/\rawOwn it S p q h
theorem RSt.to {it d S:Addr} {i n ep:Nat} {h h':Heap} (z:RSt it d S i n ep h) (ne:it≠S) (k:∀ b o,b≠S->h.get? b=some o->h'.get? b=some o):RSt it d S i n ep h':=
  let ⟨p,q,x,y,h1,h2⟩:=z;⟨p,q,x,y,k _ _ ne h1,h2.to λ b o _ hs=>k b o hs⟩
structure PairsAt (es:Array DictEntry) (lo:Addr) (h:Heap) (as:List Addr):Prop where
  up:as.Pairwise (· < ·)
  lo:∀ a∈as,lo<a
  at':∀ (j:Nat) (a:Addr),as[j]?=some a->∃ e,es[j]?=some e/\h.get? a=some (PZ e.key e.val)
theorem PairsAt.to {es:Array DictEntry} {lo:Addr} {h h':Heap} {as:List Addr} (g:PairsAt es lo h as) (k:∀ b o,lo<b->h.get? b=some o->h'.get? b=some o):PairsAt es lo h' as:=
  ⟨g.up,g.lo,λ j a hj=>let ⟨e,h1,h2⟩:=g.at' j a hj;⟨e,h1,k a _ (g.lo a (List.mem_of_getElem? hj)) h2⟩⟩
end HT
namespace L2
open PySem PySem.Spec PyProof.Rows
section
variable {X:Cx} {pins:List (Addr × Obj)} {σ:St} {H H':Hp} {s:Shared} {h':Heap}
end
section
variable {P:Program} {w:World} {H:Hp} {Q:VK} {σ:St} {to:TE} {t:TA} {r:V->List V->Hp->VK->Prop}
end
variable {X:Cx} {o e:Expr} {es:List Expr} {to:TE} {t:TA} {name:Str} {apos cpos:Pos} {id:String} {r:V->List V->Hp->VK->Prop}
end L2
namespace L2
open PySem PySem.Spec PyProof.Rows PySem.W
section
variable {K:PySem.W.Frag} {a b:Addr} {xs zs:List V} {H:Hp} {σ0:St}
end
end L2
namespace L2
open PySem PySem.Spec PyProof.Rows
section
variable {X:Cx} {x m:Str} {C:Addr} {k:Nat} {ps:List Str} {sp:Sp} {E:XK} {o e:Expr} {es:List Expr} {t:TA} {ta:TE} {p pos apos:Pos}
end
structure FunD (K:PySem.W.Frag) (x qual:Str) (st:Stmt) (f:Addr) (fd:FuncData):Prop where
  ex:∃ (oc:Value) (od:Option Addr) (dV kV doc pm:Value) (an:Option Addr) (cdv ct:Value) (osl:Array (Option Value)),
    fd=PySem.W.fnOf x qual (Cz st) (Bf st) (Aj st) dV kV doc pm an cdv ct/\K.lookup f=some ⟨oc,od, .func fd,osl⟩/\PySem.W.codeIn K cdv qual=true
structure FnAD (K:PySem.W.Frag) (m q:Str) (st:Stmt) (ps:List Str) (f:Addr) (fd:FuncData):Prop where
  fn:FunD K m q st f fd
  bi:Binds K fd ps []
  bn:Binds K fd ps [.none]
end L2
namespace L2
open PySem PySem.Spec PyProof.Rows PySem.W
def GT (K:PySem.W.Frag) (CL:Addr) (j:Nat) (ts:TS) (D:Ends) (σ:St):XK:=λ cls od H'=>∃ C,cls= .ref C/\PySem.W.exmOne K cls (.ref CL)=some true/\
  ∀ (a:Addr),H' a=none->ts (IY j D) (σ.set j (some (.ref a))) (upd H' a (B4 a C od))
end L2
namespace HT
open PySem PySem.Spec PyProof.Rows PySem.SeqAt
open PySem.AutoSeq1 (wpAny_loadPart')
open PySem.MeetsSeq PySem.MeetsSeq2 PySem.MeetsSeq3
section
variable {A:Around} {s:Shared}
end
end HT
namespace L2
open PySem PySem.Spec PyProof.Rows
inductive Ov (H:Hp):V->Prop
  | d {v:V} {d:Dt} (r:Rp H FT 1 v d):Ov H v
  | dic {a:Addr} (h:H a=some (.dK [])):Ov H (.ref a)
end L2
namespace L2
open PySem PySem.Spec PyProof.Rows PySem.W
def J3 (E:XK) (P:Addr) (qual:Str) (idx:List Nat) (sp:Addr->Sp->Sp) (t1 t2 tb:TE):TE:=λ σ H Q=>t1 σ H λ v1 H1=>t2 σ H1 λ v2 H2=>LamT H2 P qual/\∃ vs:List V,vs.length=idx.length/\(∀ (i j:Nat),idx[i]?=some j->∃ v,vs[i]?=some v/\σ[j]?=some (some v))/\
  ∀ H' f c' oc,LamT H' P qual->(∀ b o,b≠P->H2 b=some o->H' b=some o)->H' c'=some (exO c' oc)->sp f (spL c' oc tb vs) [v1,v2, .ref f] H' Q E
theorem KQ {E:XK} {X:Cx} {x y:Str} {c P:Addr} {k kb:Nat} {ps:List Str} {sp:Addr->Sp->Sp} {params:Arguments} {body e1 e2:Expr} {scope:Scope} {p lpos pos:Pos} {t1 t2 tb:TE} {N:List Str} {idx:List Nat}
    (hm:∃ fs,X.mg x=some (.ref fs)/\keepIn X.K (.ref fs)=true)
    (hC:∀ (base':Heap) (f:Addr) (sL:Sp),LamV X.prog X.w X.K X.mg base' (kb+1) f sL->CallE X.prog X.w X.K X.mg base' x k ps (sp f sL)) (hr:Room k X.A) (hx:CK (CXE X.prog X.w) X E) (L:LamX X c P) (h1:PE X e1 t1) (h2:PE X e2 t2)
    (hb:∀ (f c':Addr) (cl:List (Str × Addr)) (base':Heap) (A':Around) (outer':List Env) (s':Shared) (H':Hp) (E':XK),Room kb (A'.deeper (envX (X.env.qual++"<lambda>") scope s'.heap.objs.size f (.ref c') cl))->PE (cxL X.prog X.w X.K X.mg base' (y::N) (X.env.qual++"<lambda>") scope f (.ref c') cl A' outer' s' H' E') body tb)
    (hchk:AR N idx scope.names X.N X.env.scope.names=true) (hloc:scope.names.lookup y=some .local) (hst:X.stack=X.env::X.outer:=by rfl) (hfm:X.env.frame=some X.env.locals:=by rfl) (hfn:∀ y,X.fn y=true:=by intro _;rfl)
    (hk:scope.kind= .function:=by rfl) (hco:scope.isCoroutine=false:=by rfl) (hgen:scope.isGenerator=false:=by rfl) (hbd:∀ (u:Value) (qual:Str) (body:Expr) (cl:List (Str × Addr)) (pm cdv ctv:Value),bindArgs (kla_fn "<lambda>" qual params body scope cl pm cdv ctv) ⟨[u],[]⟩=pure [(y,u)]:=by intros;rfl)
    (hdef:defaultsOf params X.env=([],[]):=by rfl) (hg:Gl X x:=by rfl) (hdb:(x == ("__debug__":Str))=false:=by decide)
    (he:starEach [e1,e2, .Lambda params body scope lpos] X.env=[(false,eval e1 X.env),(false,eval e2 X.env),(false,eval (.Lambda params body scope lpos) X.env)]:=by rfl)
    (he1:starEach [e1,e2, .Lambda params body scope lpos] X.env=(false,eval e1 X.env)::starEach [e2, .Lambda params body scope lpos] X.env:=by rfl)
    (hpl:(backTo pos (starEach [e2, .Lambda params body scope lpos] X.env)).any (·.1)=false:=by rfl):
    PE X (.Call (.Name x p) [e1,e2, .Lambda params body scope lpos] [] pos) (J3 E P (X.env.qual++"<lambda>") idx sp t1 t2 tb):=by
  intro pins s σ H Q I h;obtain ⟨fs,hm,hkp⟩:=hm;have hfree:=DV hchk;have hmem:∀ y,(scope.names.lookup y=some .cell\/scope.names.lookup y=some .free)->(y,NameKind.free)∈scope.names:=λ y hy=>by
    rcases hy with hy | hy
    · exact absurd rfl (Di hchk _ (Bq hy))
    · exact Bq hy
  have hN:=Ly hchk;refine wpAny_Call_Name_kw (Cv I hg hm ?_ hdb);refine PySem.W.callWith_K (h₀:=X.base) I.ok.mod.kin hkp ?_ he1 hpl;rw [he];show wpAny _ _ (spliced ((false,eval e1 X.env)::(false,eval e2 X.env)::(false,eval (.Lambda params body scope lpos) X.env)::[])) _ _ s;refine Calls.spliced_cons (thn (h1 pins s σ H _ I h) λ u1 s1 ⟨v1,H1,I1,r1,q1⟩=> ?_);refine Calls.spliced_cons (thn (h2 pins s1 σ H1 _ I1 q1) λ u2 s2 ⟨v2,H2,I2,r2,hT,vs,lv,hv,h⟩=> ?_);refine Calls.spliced_cons (mkL L hfree hdef I2 hT λ f c' oc pm ctv H' s' I' hf hf0 fz hc' hoc hT' old=> ?_);refine Calls.spliced_nil ⟨I'.kIn,?_⟩;have sub:∀ y a,(Ar X.env.cells scope.names []).lookup y=some a->X.env.cells.lookup y=some a:=BY scope.names [] λ y a z=>by cases z
  have hfs:frs X.stack=X.env.locals::frs X.outer:=by rw [hst];exact BG hfm
  have C:ClOkL N scope (Ar X.env.cells scope.names []) s'.heap H' vs:=by
    refine ⟨by rw [lv,FK hchk],λ y z a h1 h2=>I.ok.inj y z a (sub y a h1) (sub z a h2),λ y hy=> ?_,λ i y v h1 h2=> ?_,λ y a e=>⟨I'.cell y a (sub y a e),I'.freeC y a (sub y a e)⟩⟩
    · exact A0 scope.names [] y (.inl ⟨hmem y hy,I.ok.has y (.inl (hfree _ (hmem y hy) rfl))⟩)
    · obtain ⟨j,hj,hXN,hk,hcell⟩:=hN i y h1;obtain ⟨v',hv',hσ⟩:=hv i j hj;have ev:v'=v:=Option.some.inj (hv'.symm.trans h2);subst ev;obtain ⟨m,hn,hl⟩:=id I'.loc;obtain ⟨u,r,lk⟩:=hl j y v' hXN hσ (.inr (.inl hcell));obtain ⟨a,ha⟩:=A0 (cells:=X.env.cells) scope.names [] y (.inl ⟨hmem y (.inr hk),I.ok.has y (.inl hcell)⟩);rcases lk with ⟨kk,_⟩ | ⟨_,a',e',ce⟩
      · have kk:X.env.scope.names.lookup y=some .local:=kk;rw [hcell] at kk;cases kk
      · have:=sub y a ha;rw [e'] at this;cases this;exact ⟨a,u,hk,ha,r,ce⟩
  have nc:∀ y a,(Ar X.env.cells scope.names []).lookup y=some a->a∉frs X.stack:=λ y a e z=>by
    have e:=sub y a e;rw [hfs] at z;rcases List.mem_cons.mp z with z | z
    · exact I.cne y a e z
    · obtain ⟨_,o,ho,_⟩:=AF I.ok.funs z;have:=I.ok.cab y a (hfn y) e;exact absurd (Nat.lt_of_lt_of_le (Heap.lt_size ho) this) (Nat.lt_irrefl _)
  have nf:f∉frs X.stack:=λ z=>by
    obtain ⟨_,o,ho,_⟩:=AF I2.stack z;exact absurd (Nat.lt_of_lt_of_le (Heap.lt_size ho) fz) (Nat.lt_irrefl _)
  have e0:=Gg I';have bf:(BE s'.heap H' (frs X.stack)).get? f=_:=Br hf hf0 nf;have LV:LamV X.prog X.w X.K X.mg (BE s'.heap H' (frs X.stack)) (kb+1) f (spL c' oc tb vs):=by
    refine ⟨⟨_,_,_,_,bf⟩,λ A outer s3 H3 u v Q3 hr3 e3 rv ⟨v',ev,hc3,q3⟩=> ?_⟩;cases ev;obtain ⟨vs',t,d,e1⟩:=hoc;have hcd:s3.heap.CodeRec (.ref c') (X.env.qual++"<lambda>"):=⟨c',oc,vs',t,rfl,Hg (e3.hok c' _ hc3),d,e1⟩;have C3:ClOkL N scope (Ar X.env.cells scope.names []) s3.heap H3 vs:=C.on λ y c o l e=>e3.bs c o (Br e (C.cell y c l).2 (nc y c l));exact NG (tb:=tb) (e3.bs _ _ bf).1 hcd hr3 e3 hk hco hgen (Di hchk) hloc (hbd _ _ _ _ _ _ _) C3 rv (hb f c' _ _ A outer s3 H3 E0 (hr3.deeper _)) q3
  obtain ⟨f2,fd,hm2,_,F,hbi⟩:=hC _ f _ LV;rw [hm] at hm2;cases hm2;have q:=h H' f c' oc hT' old hc';have r3:Vals [v1,v2, .ref f] [u1,u2, .ref f]:= .cons r1 (.cons r2 (.cons rfl .nil));have hl:([u1,u2, .ref f]:List Value).length=ps.length:=by rw [<-r3.length];exact F.len _ _ _ _ q
  refine wpAny_call (codeAny_mono (F.run X.A X.stack s' H' ⟨[u1,u2, .ref f],[]⟩ [u1,u2, .ref f] _ Q E hr e0 (by have:=hbi s' [u1,u2, .ref f] I'.kIn (by simpa using hl);simpa using this) r3 q) λ r s3 hq=> ?_);cases r with
  | error e=>exact hx pins σ H' s' e s3 I' hq
  | ok fl=>
    cases fl with
    | ret u=>exact I'.after hq
    | next=>exact False.elim hq
    | brk=>exact False.elim hq
    | cont=>exact False.elim hq
theorem Lh {E:XK} {T:Addr} {q:Str} {idx:List Nat} {sp:Addr->Sp->Sp} {t1 t2 tb:TE} {σ:St} {H:Hp} {Q:VK} (h:t1 σ H λ v1 H1=>t2 σ H1 λ v2 H2=>LamT H2 T q/\∃ vs:List V,vs.length=idx.length/\(∀ (i j:Nat),idx[i]?=some j->∃ v,vs[i]?=some v/\σ[j]?=some (some v))/\
    ∀ H' f c' oc,LamT H' T q->(∀ b o,b≠T->H2 b=some o->H' b=some o)->H' c'=some (exO c' oc)->sp f (spL c' oc tb vs) [v1,v2, .ref f] H' Q E):J3 E T q idx sp t1 t2 tb σ H Q:=h
section
variable {X:Cx} {pins:List (Addr × Obj)} {σ:St} {H:Hp} {s:Shared}
theorem mkD {c P:Addr} {name qual:Str} {params:Arguments} {body:List Stmt} {scope:Scope} {pos:Pos} {fl:Nat} {Q:Value->Shared->Prop} {E:Value->Shared->Prop} (L:LamX X c P) (hfree:∀ y∈scope.names,y.2= .free->X.env.kindOf y.1=some .cell)
    (I:Inv X pins σ H s) (hT:LamT H P qual)
    (h:∀ f c' oc doc pm ctv H' s',Inv X pins σ H' s'->s'.heap.get? f=some (fnMade name qual params body scope (Ar X.env.cells scope.names []) doc pm c' ctv)->H' f=none->s.heap.objs.size<=f->H' c'=some (exO c' oc)->Dc qual oc->
      LamT H' P qual->(∀ b o,b≠P->H b=some o->H' b=some o)->Q (.ref f) s'):
    wpAny (model X.prog X.w) X.A (makeFunction name qual params (.stmts body) scope X.env [] [] [] pos fl) Q E s:=by
  obtain ⟨ps,hP,ok,hit⟩:=hT;have hPh:s.heap.get? P=some (tabObj ps):=I.hok P _ hP;have hcl:closureFor scope X.env=pure (Ar X.env.cells scope.names []):=A1 λ y hy e=>I.ok.has y.1 (.inl (hfree y hy e));have hg:s.heap.Ns mainGlobals X.mg:=I.mod.glob.keeps I.bk;have C:=L.hd.keeps I.bk;have nP:∀ b,H b=none->b≠P:=λ b n z=>by rw [z,hP] at n;cases n
  have hgP:mainGlobals≠P:=λ q=>by
    obtain ⟨o,es,ep,e,d,_⟩:=hg;rw [q,hPh] at e;cases e;cases d
  have hb:s.heap.BuiltinsAt X.mg P:=by
    obtain ⟨bm,o,a1,a2,a3,a4,a5,r⟩:=L.blt;exact ⟨bm,o,a1,a2,a3,a4,I.bk _ _ a5,r⟩
  cases hc:codeAmong pos ps.toList with
  | some cv=>
    obtain ⟨c',oc,rfl,hc',hoc⟩:=hit pos cv hc;refine makeFunction_hit hcl I.ok.glob hg L.code C hPh ok hc hb λ ctv doc h' tk kp sz=> ?_;have kp2:∀ b o,s.heap.get? b=some o->(h'.push (fnMade name qual params body scope (Ar X.env.cells scope.names []) doc ((X.mg "__name__").getD .none) c' ctv)).get? b=some o:=λ b o e=>Heap.get?_push_of_some _ (kp b o e);refine h h'.objs.size c' oc doc _ ctv H _ (I.un (Un.kept kp2) (I.hok.kept kp2)) (Heap.get?_push_size _ rfl) (I.hok.fresh sz) sz hc' hoc ⟨ps,hP,ok,hit⟩ λ b o _ e=>e
  | none=>
    refine makeFunction_K hcl I.ok.glob hg L.code C hPh ok hc hgP hb λ c' ctv doc h' tk hx hge hlt hrec htb=> ?_;obtain ⟨c2,oc,vs,t,e2,hoc,hd,hv⟩:=hrec;cases e2;generalize hps:ps++ #[rawInt pos.line,rawInt pos.col, .ref c']=ps' at htb;have hcn:H c'=none:=I.hok.fresh hge;have ncP:c'≠P:=λ z=>by rw [z,hP] at hcn;cases hcn
    generalize hfo:fnMade name qual params body scope (Ar X.env.cells scope.names []) doc ((X.mg "__name__").getD .none) c' ctv=fo;have kp:∀ b o,b≠P->s.heap.get? b=some o->(h'.push fo).get? b=some o:=λ b o hb e=>Heap.get?_push_of_some _ (hx b o hb e);have fz:s.heap.objs.size<=h'.objs.size:=Nat.le_of_lt (Nat.lt_of_le_of_lt hge hlt);have nc:∀ b u,H b=some u->b≠c':=λ b u q z=>by rw [z,hcn] at q;cases q
    have nT:∀ b u,H b=some u->(∀ qs,u≠ .tbl qs)->b≠P:=λ b u q n z=>by rw [z,hP] at q;cases q;exact n _ rfl
    have old:∀ b u,b≠P->H b=some u->upd (upd H c' (exO c' oc)) P (.tbl ps') b=some u:=λ b u hb q=>by rw [Ai hb,Ai (nc b u q)];exact q
    have hok':HOk X.prog X.w (upd (upd H c' (exO c' oc)) P (.tbl ps')) (h'.push fo):=λ a o e=>by
      by_cases ha:a=P
      · subst ha;rw [Ab] at e;cases e;exact Heap.get?_push_of_some _ htb
      · rw [Ai ha] at e;by_cases ha2:a=c'
        · subst ha2;rw [Ab] at e;cases e;exact JH (Heap.get?_push_of_some _ hoc)
        · rw [Ai ha2] at e;refine (I.hok a o e).stay (λ b u hb q=>kp b u ?_ q) (λ b q=>old b _ (nT b _ q λ _ z=>by cases z) q) λ b xs q=>old b _ (nT b _ q λ _ z=>by cases z) q;rcases hb with rfl | hb
          · exact ha
          · exact nT b _ hb λ _ z=>by cases z
    have I':Inv X pins σ (upd (upd H c' (exO c' oc)) P (.tbl ps')) { s with heap:=h'.push fo,toks:=tk }:=by
      refine I.step (g':=s.gens) (d':=s.drawn) (ch:=[]) (λ _ z=>nomatch z) (λ b o _ _ _ e n=>kp b o (nP b n) e) (λ b o _ _ _ e n=>⟨o.slots,kp b o (nP b n) e⟩) (λ b o _ e n=> ?_) (λ b o _ e=> ?_) (λ b xs q=>old b _ (nT b _ q λ _ z=>by cases z) q) (λ b o u q=>old b _ (nT b _ q λ _ z=>by cases z) q) (λ b qs q=> ?_) (λ m hm=> ?_) hok' I.bare
      · rw [Ai (nP b n),Ai (Nat.ne_of_lt (Nat.lt_of_lt_of_le (Heap.lt_size e) hge))];exact n
      · by_cases hb:b=P
        · subst hb;exact ⟨_,Heap.get?_push_of_some _ htb⟩
        · exact ⟨o,kp b o hb e⟩
      · by_cases hb:b=P
        · subst hb;rw [hP] at q;cases q;exact ⟨_,by rw [Ab, <-hps]⟩
        · exact ⟨#[],by rw [old b _ hb q];simp⟩
      · exact (hm.extBut hx (nP _ I.free)).push _
    subst hfo;refine h h'.objs.size c' oc doc _ ctv _ _ I' (Heap.get?_push_size _ rfl) ?_ fz ?_ ⟨vs,t,hd,hv⟩ ⟨ps',Ab,?_,λ p cv q=> ?_⟩ λ b o hb q=>old b o hb q
    · have hn:H h'.objs.size=none:=I.hok.fresh fz;rw [Ai (nP _ hn),Ai (Nat.ne_of_gt hlt)];exact hn
    · rw [Ai ncP,Ab]
    · rw [<-hps,Array.toList_append];exact TriplesOk_snoc _ _ _ _ ok
    · rw [<-hps,Array.toList_append] at q;rcases Dp ps.toList ok q with z | rfl
      · obtain ⟨c1,oc1,e1,e2,e3⟩:=hit p cv z;exact ⟨c1,oc1,e1,old c1 _ (nT c1 _ e2 λ _ z=>by cases z) e2,e3⟩
      · exact ⟨c',oc,rfl,by rw [Ai ncP,Ab],vs,t,hd,hv⟩
end
section
variable {P:Program} {w:World} {K:PySem.W.Frag} {mg:Str->Option Value} {base:Heap} {N:List Str} {qual x:Str} {scope:Scope} {f:Addr} {cd:Value} {cl:List (Str × Addr)} {A:Around} {outer:List Env} {s:Shared} {H:Hp} {E:XK}
theorem O9 {k:Nat} {name:Str} {params:Arguments} {body:List Stmt} {doc pm ctv:Value} {c':Addr} {vs:List V} {Q:VK} {tb:TS} {u:Value} {v:V} (ho:s.heap.get? f=some (fnMade name qual params body scope cl doc pm c' ctv)) (hcd:s.heap.CodeRec (.ref c') qual) (hr:Room (k+1) A) (e0:Env0 P w K mg base A outer s H)
    (hk:scope.kind= .function) (hco:scope.isCoroutine=false) (hgen:scope.isGenerator=false) (hcell:∀ y∈scope.names,y.2≠ .cell) (hloc:scope.names.lookup x=some .local) (hbind:bindArgs (fnX name qual params body scope cl .none .none doc pm none (.ref c') ctv) ⟨[u],[]⟩=pure [(x,u)]) (C:ClOkL N scope cl s.heap H vs) (rv:RelV v u)
    (hb:PSs (cxL P w K mg base (x::N) qual scope f (.ref c') cl A outer s H E0) body tb) (h:tb { nx:=λ _ H'=>Q .non H',rt:=Q } (some v::vs.map some) H):codeAny (model P w) A (.call (.ref f) ⟨[u],[]⟩) (CR CX0 outer P w H s Q E0) s:=by
  have lim:s.heap.NoLimit:=e0.mod.nolimit.keeps λ b o e=>(e0.bs b o e).1;refine codeAny_call_function hr.depth ho rfl hco hgen rfl hcd ?_;rw [hbind];refine wpAny_pure (wpAny_newFunctionEnv hcell (λ y hy=> ?_) (λ h₁ hns hsb=>⟨lim.fresh _ hsb,?_⟩) hk)
  · rw [List.mem_singleton.mp hy];exact hloc
  have kp:∀ b o,s.heap.get? b=some o->h₁.get? b=some o:=λ b o e=>hsb.extBut b o (Nat.ne_of_lt (Heap.lt_size e)) (Heap.get?_push_of_some _ e);have I:Inv (cxL P w K mg base (x::N) qual scope f (.ref c') cl A outer s H E0) [] (some v::vs.map some) H { s with heap:=h₁,toks:=s.toks+1 }:=DF hk hloc hr.hd e0 C rv hns kp;refine codeAny_func (wpAny_mono (hb [] _ _ H _ I h) (λ fl s' z=> ?_) λ e s' hs=> ?_)
  · match fl,z with
    | .ret u,⟨v,_,H',J,rv,q⟩=>exact ⟨v,H',J.os,J.bare,J.base,J.hok,rv,q⟩
    | .next,⟨_,H',J,q⟩=>exact ⟨V.non,H',J.os,J.bare,J.base,J.hok,rfl,q⟩
    | .brk,⟨_,_,_,q⟩=>exact False.elim q
    | .cont,⟨_,_,_,q⟩=>exact False.elim q
  · refine wpAny_mono hs (λ _ s2 z=> ?_) λ _ s2 z=> ?_
    · obtain ⟨a,C,t,od,H',rfl,os,bare,un,hok,b,di,q⟩:=z;exact q.elim
    · obtain ⟨a,C,t,od,H',rfl,os,bare,un,hok,b,di,q⟩:=z;exact q.elim
end
def FnO (X:Cx) (name qual:Str) (params:Arguments) (body:List Stmt) (scope:Scope) (c':Addr) (fo:Obj):Prop:=∃ doc pm ctv,fo=fnMade name qual params body scope (Ar X.env.cells scope.names []) doc pm c' ctv
def Jt (P:Addr) (qual:Str) (i:Nat) (tr:Addr->Addr->Obj->TS):TS:=λ D σ H=>LamT H P qual/\∀ f c' oc H',LamT H' P qual->(∀ b o,b≠P->H b=some o->H' b=some o)->H' c'=some (exO c' oc)->Dc qual oc->tr f c' oc D (σ.set i (some (.ref f))) H'
theorem Kf {X:Cx} {c P:Addr} {i:Nat} {name qual:Str} {params:Arguments} {body rest:List Stmt} {scope:Scope} {pos:Pos} {tr:Addr->Addr->Obj->TS} (L:LamX X c P) (hq:qualnameIn X.env name name=qual)
    (hN:X.N.Nodup) (hi:X.N[i]?=some name) (hx:X.env.scope.names.lookup name=some .local)
    (hfree:∀ y∈scope.names,y.2= .free->X.env.kindOf y.1=some .cell)
    (hrest:∀ (f c':Addr) (oc fo:Obj) (pn:List (Addr × Obj)),(f,fo)∈pn->FnO (X.tryC pn X.xe) name qual params body scope c' fo->Dc qual oc->PSs (X.tryC pn X.xe) rest (tr f c' oc))
    (hd0:params.defaults=[]:=by rfl) (hk0:params.kw_defaults=[]:=by rfl) (ha:annTrees params none X.env=[]:=by rfl):
    PSs X (.FunctionDef name params body [] none [] scope none name pos::rest) (Jt P qual i tr):=by
  intro pins s σ H D I h;obtain ⟨hT,h⟩:=h;refine wpAny_execs_cons ?_;refine nestDef_K hd0 hk0 ha ?_;rw [hq];refine mkD L hfree I hT λ f c' oc doc pm ctv H' s' I' hf hf0 fz hc' hoc hT' old=> ?_;have nl:f≠X.env.locals:=λ z=>by
    obtain ⟨m,⟨o,es,ep,e,_⟩,_⟩:=I.loc;rw [<-z] at e;exact absurd (Nat.lt_of_lt_of_le (Heap.lt_size e) fz) (Nat.lt_irrefl _)
  have nf:f∉X.fs:=λ z=>by
    obtain ⟨_,o,ho,_⟩:=AF I.funs z;exact absurd (Nat.lt_of_lt_of_le (Heap.lt_size ho) fz) (Nat.lt_irrefl _)
  have I2:Inv X ((f,fnMade name qual params body scope (Ar X.env.cells scope.names []) doc pm c' ctv)::pins) σ H' s':=⟨I'.ok,I'.os,I'.bare,I'.base,I'.loc,I'.cell,I'.free,I'.freeC,λ p hp=>by
    rcases List.mem_append.mp hp with q | q
    · exact I'.pin p (List.mem_append_left _ q)
    · rcases List.mem_cons.mp q with rfl | q
      · exact ⟨hf,hf0,nl,nf,λ v z=>by cases z⟩
      · exact I'.pin p (List.mem_append_right _ q),I'.hok,I'.len⟩
  have drop:∀ {σ' H' s'},Inv X ((f,fnMade name qual params body scope (Ar X.env.cells scope.names []) doc pm c' ctv)::pins) σ' H' s'->Inv X pins σ' H' s':=λ J=>⟨J.ok,J.os,J.bare,J.base,J.loc,J.cell,J.free,J.freeC,λ p hp=>J.pin p (by
    rcases List.mem_append.mp hp with q | q
    · exact List.mem_append_left _ q
    · exact List.mem_append_right _ (List.mem_cons_of_mem _ q)),J.hok,J.len⟩
  refine AY (v:= .ref f) I2 hN hi (.inl hx) rfl (λ s2 I3=> ?_) (.inr hx);have q:=hrest f c' oc _ (X.pn++(f,fnMade name qual params body scope (Ar X.env.cells scope.names []) doc pm c' ctv)::pins) (List.mem_append_right _ (List.mem_cons_self ..)) ⟨doc,pm,ctv,rfl⟩ hoc;refine thn (q [] s2 _ H' D I3.tryC (h f c' oc H' hT' old hc' hoc)) λ fl s4 z=> ?_
  match fl,z with
  | .next,⟨σ',H5,J,q⟩=>exact ⟨σ',H5,drop (J.untry I.ok),q⟩
  | .brk,⟨σ',H5,J,q⟩=>exact ⟨σ',H5,drop (J.untry I.ok),q⟩
  | .cont,⟨σ',H5,J,q⟩=>exact ⟨σ',H5,drop (J.untry I.ok),q⟩
  | .ret u,⟨v,σ',H5,J,r,q⟩=>exact ⟨v,σ',H5,drop (J.untry I.ok),r,q⟩
def spF (c':Addr) (oc:Obj) (tb:TS) (vs:List V):Sp:=λ us H Q _=>∃ v,us=[v]/\H c'=some (exO c' oc)/\tb { nx:=λ _ H'=>Q .non H',rt:=Q } (some v::vs.map some) H
def Iw (K:PySem.W.Frag) (CL:Addr) (j:Nat) (f:Addr) (idx:List Nat) (sp:Addr->Sp->Sp) (c':Addr) (oc:Obj) (tb:TS) (ta:TA) (ts:TS):TS:=λ D σ H=>ta σ H λ ws H1=>H1 c'=some (exO c' oc)/\∃ vs:List V,vs.length=idx.length/\(∀ (i j:Nat),idx[i]?=some j->∃ v,vs[i]?=some v/\σ[j]?=some (some v))/\sp f (spF c' oc tb vs) ws H1 (λ _ H2=>D.nx σ H2) (GT K CL j ts D σ)
theorem K3 {X:Cx} {x n y yv name qual:Str} {CL f c':Addr} {oc fo:Obj} {j k kb:Nat} {ps N:List Str} {idx:List Nat} {sp:Addr->Sp->Sp} {params:Arguments} {body:List Stmt} {scope:Scope} {e:Expr} {es:List Expr} {b₀:Stmt} {suite:List Stmt} {ta:TA} {tb ts:TS} {xp hp pos fp cp ap:Pos} (hst:X.stack=X.env::X.outer) (hf:X.env.frame=some X.env.locals) (hm:X.mg x=some (.ref CL))
    (hN:X.N.Nodup) (hj:X.N[j]?=some n) (hx:X.env.scope.names.lookup n=some .local)
    (hpn:(f,fo)∈X.pn) (hfo:FnO X name qual params body scope c' fo) (hoc:Dc qual oc)
    (hC:(∃ fs,X.mg y=some (.ref fs)/\keepIn X.K (.ref fs)=true)/\∀ (base':Heap) (f:Addr) (sL:Sp),LamV X.prog X.w X.K X.mg base' (kb+1) f sL->CallE X.prog X.w X.K X.mg base' y k ps (sp f sL)) (hr0:Room k X.A)
    (ha:∀ (pn:List (Addr × Obj)) (xe:Value->Shared->Prop),PA (X.tryC pn xe) (e::es) ta)
    (hb:∀ (cl:List (Str × Addr)) (base':Heap) (A':Around) (outer':List Env) (s':Shared) (H':Hp) (E':XK),Room kb (A'.deeper (envX qual scope s'.heap.objs.size f (.ref c') cl))->PSs (cxL X.prog X.w X.K X.mg base' (yv::N) qual scope f (.ref c') cl A' outer' s' H' E') body tb)
    (hchk:AR N idx scope.names X.N X.env.scope.names=true) (hloc:scope.names.lookup yv=some .local)
    (hs:∀ (a:Addr) (xe:Value->Shared->Prop),PSs (X.markC a xe) (b₀::suite) ts) (hfn:∀ y,X.fn y=true:=by intro _;rfl)
    (hk:scope.kind= .function:=by rfl) (hco:scope.isCoroutine=false:=by rfl) (hgen:scope.isGenerator=false:=by rfl) (hbd:∀ (u doc pm cdv ctv:Value) (cl:List (Str × Addr)),bindArgs (fnX name qual params body scope cl .none .none doc pm none cdv ctv) ⟨[u],[]⟩=pure [(yv,u)]:=by intros;rfl)
    (hgy:Gl X y:=by rfl) (hdy:(y == ("__debug__":Str))=false:=by decide) (hg:Gl X x:=by rfl) (hd:(x == ("__debug__":Str))=false:=by decide)
    (he:starEach (e::es) X.env=(false,eval e X.env)::starEach es X.env:=by rfl) (hpl:(backTo cp (starEach es X.env)).any (·.1)=false:=by rfl) (hsw:swapsWith (.Call (.Name y fp) (e::es) [] cp) none ap.line X.env=pure false:=by rfl):
    PS X (.Try [.Expr (.Call (.Name y fp) (e::es) [] cp) ap] [.ExceptHandler (some (.Name x xp)) (some n) (b₀::suite) hp] [] [] pos) (Iw X.K CL j f idx sp c' oc tb ta ts):=by
  intro pins s σ H D I h;refine wpAny_Try_except ?_;have pass:∀ H1 s1 e s',Inv X pins σ H1 s1->CXE X.prog X.w X.stack H1 s1 (GT X.K CL j ts D σ) e s'->wpAny (model X.prog X.w) X.A (noteFrame e X.env) (λ _ s₂=>wpAny (model X.prog X.w) X.A (setFlight e none) (λ _ s₃=>wpAny (model X.prog X.w) X.A (handleBy e X.env [.ExceptHandler (some (.Name x xp)) (some n) (b₀::suite) hp]) (SP X pins D) X.xe s₃) X.xe s₂) X.xe s':=by
    intro H1 s1 e s' I1' hc;refine O2 I1' hst hf hc λ a C t od H' B h3 e0 fl3 u3 di3 inv an q=> ?_;subst e0;obtain ⟨C',eC,hx',hr⟩:=q;cases eC;have I3:=(inv h3 fl3 u3 di3).1;obtain ⟨oa,hoa,hca⟩:=fl3.there;refine wpAny_handleBy_cons (codeAny_handlers_test ?_) (by intro q;cases q);refine Calls.Name_function_global I.ok.kind hg (Calls.loadGlobal_global (by rw [I.ok.glob];exact I.mod.glob.keeps I3.bk) hm ?_) hd;have lt:Looks (model X.prog X.w) h3 (typeOf (.ref a)) (.ref C):=hca▸(Looks.ld hoa).andThen .now;refine Looks.here (s:={ s' with heap:=h3 }) (PySem.W.exm_one (K:=X.K) I3.kIn lt hx') ?_;show codeAny _ _ (.handlers (.ref a) [.ExceptHandler none (some n) (b₀::suite) hp] X.env) _ _;refine codeAny_handlers_suite_as ?_;refine G7 (base:=B) (l:=X.stack) (s:={ s' with heap:=h3 }) fl3.1 fl3.2.2.1 fl3.2.2.2 λ h4 k1 k2 k3 k4 kd4=> ?_;have fl4:B.FlyingW X.stack a (.ref C) (.ref t) h4:=⟨k1,fl3.2.1,k2,k3⟩;have u4:s'.heap.UpToSlots h4:=CU u3 λ b o e nf=>⟨o.slots,k4 b o e nf⟩;have I4:=(inv h4 fl4 u4 (di3.on kd4 (let ⟨o,e,_⟩:=fl4.there;⟨o,e⟩))).2;refine AY (v:= .ref a) I4 hN hj (.inl hx) rfl (λ s5 I5=> ?_) (.inr hx);refine wpAny_mono (hs a _ pins s5 _ _ (IY j D) I5.markC (hr a an)) (λ f s6 hq=> ?_) λ _ _ y=>y;have fin:∀ σ6 H6,Inv X pins σ6 H6 s6->∀ Qf:Shared->Prop,(∀ s7,Inv X pins (σ6.set j none) H6 s7->Qf s7)->wpAny (model X.prog X.w) X.A (do bindName X.env n .none;unbindBehindTheSuite X.env n hp) (λ _ s₃=>Qf s₃) X.xe s6:=λ σ6 H6 I6 Qf hQ=>by
      refine wpAny_bind (bindName_ (AY (v:= .non) I6 hN hj (.inl hx) rfl (λ s7 I7=> ?_) (.inr hx)));unfold unbindBehindTheSuite;have hl6:j<σ6.length:=by rw [I6.len];exact (List.getElem?_eq_some_iff.mp hj).1
      refine wpAny_onRaise (Fe (v:= .non) I7 hN hj hx (by rw [List.getElem?_set_self hl6]) λ s8 I8=> ?_);rw [List.set_set] at I8;exact hQ s8 I8
    show wpAny (model X.prog X.w) X.A (do bindName X.env n .none;unbindBehindTheSuite X.env n hp) (λ _ s₃=>SP X pins D f s₃) X.xe s6;cases f with
    | next=>
      obtain ⟨σ6,H6,I6,q6⟩:=hq;exact fin σ6 H6 (I6.unmark I.ok) _ λ s7 I7=>⟨_,_,I7,q6⟩
    | brk=>
      obtain ⟨σ6,H6,I6,q6⟩:=hq;exact fin σ6 H6 (I6.unmark I.ok) _ λ s7 I7=>⟨_,_,I7,q6⟩
    | cont=>
      obtain ⟨σ6,H6,I6,q6⟩:=hq;exact fin σ6 H6 (I6.unmark I.ok) _ λ s7 I7=>⟨_,_,I7,q6⟩
    | ret u=>
      obtain ⟨v6,σ6,H6,I6,r6,q6⟩:=hq;exact fin σ6 H6 (I6.unmark I.ok) _ λ s7 I7=>⟨v6,_,_,I7,r6,q6⟩
  generalize hXE:(λ e s₁=>wpAny (model X.prog X.w) X.A (noteFrame e X.env) (λ _ s₂=>wpAny (model X.prog X.w) X.A (setFlight e none) (λ _ s₃=>wpAny (model X.prog X.w) X.A (handleBy e X.env [.ExceptHandler (some (.Name x xp)) (some n) (b₀::suite) hp]) (SP X pins D) X.xe s₃) X.xe s₂) X.xe s₁:Value->Shared->Prop)=XE at*;have pass:∀ H1 s1 e s',Inv X pins σ H1 s1->CXE X.prog X.w X.stack H1 s1 (GT X.K CL j ts D σ) e s'->XE e s':=λ H1 s1 e s' a b=>by rw [<-hXE];exact pass H1 s1 e s' a b
  obtain ⟨⟨fs,hmy,hkp⟩,hC⟩:=hC;have hfree:=DV hchk;have hmem:∀ y,(scope.names.lookup y=some .cell\/scope.names.lookup y=some .free)->(y,NameKind.free)∈scope.names:=λ y hy=>by
    rcases hy with hy | hy
    · exact absurd rfl (Di hchk _ (Bq hy))
    · exact Bq hy
  have hNc:=Ly hchk;have sub:∀ y a,(Ar X.env.cells scope.names []).lookup y=some a->X.env.cells.lookup y=some a:=BY scope.names [] λ y a z=>by cases z
  have hfs:frs X.stack=X.env.locals::frs X.outer:=by rw [hst];exact BG hf
  obtain ⟨doc,pm,ctv,rfl⟩:=hfo;have body':wpAny (model X.prog X.w) X.A (execs [.Expr (.Call (.Name y fp) (e::es) [] cp) ap] X.env) (SP (X.tryC (X.pn++pins) XE) [] D) XE s:=by
    have It:Inv (X.tryC (X.pn++pins) XE) [] σ H s:=I.tryC;have call:wpAny (model X.prog X.w) X.A (eval (.Call (.Name y fp) (e::es) [] cp) X.env) (EP (X.tryC (X.pn++pins) XE) [] σ (λ _ H2=>D.nx σ H2)) XE s:=by
      refine wpAny_Call_Name_kw (Cv (X:=X.tryC (X.pn++pins) XE) It hgy hmy ?_ hdy);refine PySem.W.callWith_K (h₀:=X.base) It.ok.mod.kin hkp (thn (ha _ _ cp [] s σ H _ It h) λ us s1 ⟨ws,H1,I1,r,hc1,vs,lv,hv,q⟩=>⟨I1.kIn,?_⟩) he hpl;have J1:Inv X pins σ H1 s1:=I1.untry I.ok;obtain ⟨pf,pf0,pfl,pfs,_⟩:=J1.pin (f,_) (List.mem_append_left _ hpn);have nf:f∉frs X.stack:=λ z=>by
        rw [hfs] at z;rcases List.mem_cons.mp z with z | z
        · exact pfl z
        · exact pfs z
      have C:ClOkL N scope (Ar X.env.cells scope.names []) s1.heap H1 vs:=by
        refine ⟨by rw [lv,FK hchk],λ y z a h1 h2=>I.ok.inj y z a (sub y a h1) (sub z a h2),λ y hy=> ?_,λ i y v h1 h2=> ?_,λ y a e=>⟨J1.cell y a (sub y a e),J1.freeC y a (sub y a e)⟩⟩
        · exact A0 scope.names [] y (.inl ⟨hmem y hy,I.ok.has y (.inl (hfree _ (hmem y hy) rfl))⟩)
        · obtain ⟨j',hj',hXN,hk',hcell⟩:=hNc i y h1;obtain ⟨v',hv',hσ⟩:=hv i j' hj';have ev:v'=v:=Option.some.inj (hv'.symm.trans h2);subst ev;obtain ⟨m,hn,hl⟩:=id J1.loc;obtain ⟨u,r,lk⟩:=hl j' y v' hXN hσ (.inr (.inl hcell));obtain ⟨a,ha⟩:=A0 (cells:=X.env.cells) scope.names [] y (.inl ⟨hmem y (.inr hk'),I.ok.has y (.inl hcell)⟩);rcases lk with ⟨kk,_⟩ | ⟨_,a',e',ce⟩
          · have kk:X.env.scope.names.lookup y=some .local:=kk;rw [hcell] at kk;cases kk
          · have:=sub y a ha;rw [e'] at this;cases this;exact ⟨a,u,hk',ha,r,ce⟩
      have nc:∀ y a,(Ar X.env.cells scope.names []).lookup y=some a->a∉frs X.stack:=λ y a e z=>by
        have e:=sub y a e;rw [hfs] at z;rcases List.mem_cons.mp z with z | z
        · exact I.cne y a e z
        · obtain ⟨_,o,ho,_⟩:=AF I.ok.funs z;have:=I.ok.cab y a (hfn y) e;exact absurd (Nat.lt_of_lt_of_le (Heap.lt_size ho) this) (Nat.lt_irrefl _)
      have e0:=Gg J1;have bf:(BE s1.heap H1 (frs X.stack)).get? f=_:=Br pf pf0 nf;have LV:LamV X.prog X.w X.K X.mg (BE s1.heap H1 (frs X.stack)) (kb+1) f (spF c' oc tb vs):=by
        refine ⟨⟨_,_,_,_,bf⟩,λ A outer s3 H3 u v Q3 hr3 e3 rv ⟨v',ev,hc3,q3⟩=> ?_⟩;cases ev;obtain ⟨vs',t,d,e1⟩:=hoc;have hcd:s3.heap.CodeRec (.ref c') qual:=⟨c',oc,vs',t,rfl,Hg (e3.hok c' _ hc3),d,e1⟩;have C3:ClOkL N scope (Ar X.env.cells scope.names []) s3.heap H3 vs:=C.on λ y c o l e=>e3.bs c o (Br e (C.cell y c l).2 (nc y c l));exact O9 (tb:=tb) (e3.bs _ _ bf).1 hcd hr3 e3 hk hco hgen (Di hchk) hloc (hbd _ _ _ _ _ _) C3 rv (hb _ _ A outer s3 H3 E0 (hr3.deeper _)) q3
      obtain ⟨f2,fd,hm2,_,F,hbi⟩:=hC _ f _ LV;rw [hmy] at hm2;cases hm2;have hl:(us++[]).length=ps.length:=by rw [List.append_nil, <-r.length];exact F.len _ _ _ _ q
      have r2:Vals ws (us++[]):=by rw [List.append_nil];exact r
      refine wpAny_call (codeAny_mono (F.run X.A X.stack s1 H1 ⟨us,[]⟩ (us++[]) ws _ _ hr0 e0 (hbi s1 us I1.kIn hl) r2 q) λ r s' hq=> ?_);cases r with
      | error e=>exact pass H1 s1 e s' J1 hq
      | ok fl=>
        cases fl with
        | ret u=>exact I1.after hq
        | next=>exact False.elim hq
        | brk=>exact False.elim hq
        | cont=>exact False.elim hq
    have asg:wpAny (model X.prog X.w) X.A (exec (.Expr (.Call (.Name y fp) (e::es) [] cp) ap) X.env) (SP (X.tryC (X.pn++pins) XE) [] D) XE s:=by
      exact wpAny_Expr_any (thn call λ v s1 ⟨x,H1,I1,r1,q1⟩=>⟨σ,H1,I1,q1⟩) It.quiet hsw
    refine wpAny_execs_cons (thn asg λ f s1 q=> ?_);cases f with
    | next=>exact wpAny_execs_nil q
    | ret v=>exact q
    | brk=>exact q
    | cont=>exact q
  refine wpAny_mono body' (λ f s₁ hq=> ?_) λ _ _ y=>y;cases f with
  | next=>
    obtain ⟨σ',H',I',q'⟩:=hq;exact wpAny_execs_nil ⟨σ',H',I'.untry I.ok,q'⟩
  | brk=>
    obtain ⟨σ',H',I',q'⟩:=hq;exact ⟨σ',H',I'.untry I.ok,q'⟩
  | cont=>
    obtain ⟨σ',H',I',q'⟩:=hq;exact ⟨σ',H',I'.untry I.ok,q'⟩
  | ret u=>
    obtain ⟨v',σ',H',I',r',q'⟩:=hq;exact ⟨v',σ',H',I'.untry I.ok,r',q'⟩
theorem JT {P:Addr} {qual:Str} {i:Nat} {tr:Addr->Addr->Obj->TS} {D:Ends} {σ:St} {H:Hp} (hT:LamT H P qual) (h:∀ f c' oc H',LamT H' P qual->(∀ b o,b≠P->H b=some o->H' b=some o)->H' c'=some (exO c' oc)->Dc qual oc->tr f c' oc D (σ.set i (some (.ref f))) H'):Jt P qual i tr D σ H:=⟨hT,h⟩
theorem Lm {K:PySem.W.Frag} {CL:Addr} {j:Nat} {f:Addr} {idx:List Nat} {sp:Addr->Sp->Sp} {c':Addr} {oc:Obj} {tb:TS} {ta:TA} {ts:TS} {D:Ends} {σ:St} {H:Hp} (h:ta σ H λ ws H1=>H1 c'=some (exO c' oc)/\∃ vs:List V,vs.length=idx.length/\(∀ (i j:Nat),idx[i]?=some j->∃ v,vs[i]?=some v/\σ[j]?=some (some v))/\sp f (spF c' oc tb vs) ws H1 (λ _ H2=>D.nx σ H2) (GT K CL j ts D σ)):Iw K CL j f idx sp c' oc tb ta ts D σ H:=h
theorem Lq {E:XK} {X:Cx} {x y:Str} {c P:Addr} {k kb:Nat} {ps:List Str} {sp:Addr->Sp->Sp} {params:Arguments} {body e1 e2:Expr} {scope:Scope} {p lpos pos:Pos} {t1 t2 tb:TE} {N:List Str} {idx:List Nat} (q:Str)
    (hm:∃ fs,X.mg x=some (.ref fs)/\keepIn X.K (.ref fs)=true)
    (hC:∀ (base':Heap) (f:Addr) (sL:Sp),LamV X.prog X.w X.K X.mg base' (kb+1) f sL->CallE X.prog X.w X.K X.mg base' x k ps (sp f sL)) (hr:Room k X.A) (hx:CK (CXE X.prog X.w) X E) (L:LamX X c P) (h1:PE X e1 t1) (h2:PE X e2 t2)
    (hb:∀ (f c':Addr) (cl:List (Str × Addr)) (base':Heap) (A':Around) (outer':List Env) (s':Shared) (H':Hp) (E':XK),Room kb (A'.deeper (envX q scope s'.heap.objs.size f (.ref c') cl))->PE (cxL X.prog X.w X.K X.mg base' (y::N) q scope f (.ref c') cl A' outer' s' H' E') body tb)
    (hchk:AR N idx scope.names X.N X.env.scope.names=true) (hloc:scope.names.lookup y=some .local) (hq:X.env.qual++"<lambda>"=q:=by rfl) (hst:X.stack=X.env::X.outer:=by rfl) (hfm:X.env.frame=some X.env.locals:=by rfl) (hfn:∀ y,X.fn y=true:=by intro _;rfl)
    (hk:scope.kind= .function:=by rfl) (hco:scope.isCoroutine=false:=by rfl) (hgen:scope.isGenerator=false:=by rfl) (hbd:∀ (u:Value) (qual:Str) (body:Expr) (cl:List (Str × Addr)) (pm cdv ctv:Value),bindArgs (kla_fn "<lambda>" qual params body scope cl pm cdv ctv) ⟨[u],[]⟩=pure [(y,u)]:=by intros;rfl)
    (hdef:defaultsOf params X.env=([],[]):=by rfl) (hg:Gl X x:=by rfl) (hdb:(x == ("__debug__":Str))=false:=by decide)
    (he:starEach [e1,e2, .Lambda params body scope lpos] X.env=[(false,eval e1 X.env),(false,eval e2 X.env),(false,eval (.Lambda params body scope lpos) X.env)]:=by rfl)
    (he1:starEach [e1,e2, .Lambda params body scope lpos] X.env=(false,eval e1 X.env)::starEach [e2, .Lambda params body scope lpos] X.env:=by rfl)
    (hpl:(backTo pos (starEach [e2, .Lambda params body scope lpos] X.env)).any (·.1)=false:=by rfl):
    PE X (.Call (.Name x p) [e1,e2, .Lambda params body scope lpos] [] pos) (J3 E P q idx sp t1 t2 tb):=by
  subst hq;exact KQ hm hC hr hx L h1 h2 hb hchk hloc hst hfm hfn hk hco hgen hbd hdef hg hdb he he1 hpl
theorem Lc {KK:PySem.W.Frag} {X:Cx} {x n y yv name qual:Str} {CL f c':Addr} {oc fo:Obj} {j k kb:Nat} {ps N:List Str} {idx:List Nat} {sp:Addr->Sp->Sp} {params:Arguments} {body:List Stmt} {scope:Scope} {e:Expr} {es:List Expr} {b₀:Stmt} {suite:List Stmt} {ta:TA} {tb ts:TS} {xp hp pos fp cp ap:Pos} (hst:X.stack=X.env::X.outer) (hf:X.env.frame=some X.env.locals) (hm:X.mg x=some (.ref CL))
    (hN:X.N.Nodup) (hj:X.N[j]?=some n) (hx:X.env.scope.names.lookup n=some .local)
    (hpn:(f,fo)∈X.pn) (hfo:FnO X name qual params body scope c' fo) (hoc:Dc qual oc)
    (hC:(∃ fs,X.mg y=some (.ref fs)/\keepIn X.K (.ref fs)=true)/\∀ (base':Heap) (f:Addr) (sL:Sp),LamV X.prog X.w X.K X.mg base' (kb+1) f sL->CallE X.prog X.w X.K X.mg base' y k ps (sp f sL)) (hr0:Room k X.A)
    (ha:∀ (pn:List (Addr × Obj)) (xe:Value->Shared->Prop),PA (X.tryC pn xe) (e::es) ta)
    (hb:∀ (cl:List (Str × Addr)) (base':Heap) (A':Around) (outer':List Env) (s':Shared) (H':Hp) (E':XK),Room kb (A'.deeper (envX qual scope s'.heap.objs.size f (.ref c') cl))->PSs (cxL X.prog X.w X.K X.mg base' (yv::N) qual scope f (.ref c') cl A' outer' s' H' E') body tb)
    (hchk:AR N idx scope.names X.N X.env.scope.names=true) (hloc:scope.names.lookup yv=some .local)
    (hs:∀ (a:Addr) (xe:Value->Shared->Prop),PSs (X.markC a xe) (b₀::suite) ts) (hfn:∀ y,X.fn y=true:=by intro _;rfl)
    (hk:scope.kind= .function:=by rfl) (hco:scope.isCoroutine=false:=by rfl) (hgen:scope.isGenerator=false:=by rfl) (hbd:∀ (u doc pm cdv ctv:Value) (cl:List (Str × Addr)),bindArgs (fnX name qual params body scope cl .none .none doc pm none cdv ctv) ⟨[u],[]⟩=pure [(yv,u)]:=by intros;rfl)
    (hK:X.K=KK:=by rfl) (hgy:Gl X y:=by rfl) (hdy:(y == ("__debug__":Str))=false:=by decide) (hg:Gl X x:=by rfl) (hd:(x == ("__debug__":Str))=false:=by decide)
    (he:starEach (e::es) X.env=(false,eval e X.env)::starEach es X.env:=by rfl) (hpl:(backTo cp (starEach es X.env)).any (·.1)=false:=by rfl) (hsw:swapsWith (.Call (.Name y fp) (e::es) [] cp) none ap.line X.env=pure false:=by rfl):
    PS X (.Try [.Expr (.Call (.Name y fp) (e::es) [] cp) ap] [.ExceptHandler (some (.Name x xp)) (some n) (b₀::suite) hp] [] [] pos) (Iw KK CL j f idx sp c' oc tb ta ts):=by
  subst hK;exact K3 hst hf hm hN hj hx hpn hfo hoc hC hr0 ha hb hchk hloc hs hfn hk hco hgen hbd hgy hdy hg hd he hpl hsw
theorem HW {X:Cx} {o:Value->Value->Sem Value} {r1 r2:R2} (h1:OpR X o r1) (h2:OpR X o r2):OpR X o (λ x y H Q=>r1 x y H Q\/r2 x y H Q):=λ pins s σ H x y v u Q I rx ry h=>h.elim (h1 pins s σ H x y v u Q I rx ry) (h2 pins s σ H x y v u Q I rx ry)
end L2
namespace MFew
def rep {α:Type} (u:List α):Nat->List α
  | 0=>[]
  | t+1=>u++rep u t
section
variable {α:Type}
theorem rep_len (u:List α):∀ t,(rep u t).length=u.length*t
  | 0=>rfl
  | t+1=>by rw [rep,List.length_append,rep_len u t,Nat.mul_succ,Nat.add_comm]
theorem rep_flat (u:List α):∀ t,(List.replicate t u).flatten=rep u t
  | 0=>rfl
  | t+1=>by rw [List.replicate_succ,List.flatten_cons,rep_flat u t,rep]
inductive Cost:List α->Nat->Prop
  | nil:Cost [] 0
  | one (x:α) {l:List α} {m:Nat}:Cost l m->Cost (x::l) (m+1)
  | grp {u l:List α} {m k:Nat} (t:Nat):2<=t->u≠[]->Cost u m->Cost l k->Cost (rep u t++l) (m+k+2)
theorem Gr:∀ l:List α,Cost l l.length
  | []=> .nil
  | x::l=> .one x (Gr l)
def LN (l:List α) (m:Nat):Prop:=Cost l m/\∀ k,Cost l k->m<=k
theorem IA (l:List α):∃ m,LN l m:=by
  have:∀ n,(∃ m,LN l m)\/∀ k,k<n->¬ Cost l k:=by
    intro n
    induction n with
    | zero=>exact .inr λ k hk=>absurd hk (Nat.not_lt_zero _)
    | succ n ih=>
      rcases ih with h | h
      · exact .inl h
      · by_cases c:Cost l n
        · exact .inl ⟨n,c,λ k hk=>by
            rcases Nat.lt_or_ge k n with z | z
            · exact absurd hk (h k z)
            · exact z⟩
        · refine .inr λ k hk=> ?_;rcases Nat.lt_or_ge k n with z | z
          · exact h k z
          · rw [show k=n by omega];exact c
  rcases this (l.length+1) with h | h
  · exact h
  · exact absurd (Gr l) (h _ (Nat.lt_succ_self _))
def M (l:List α):Nat:=Classical.choose (IA l)
def sl (xs:List α) (i j:Nat):List α:=(xs.drop i).take (j - i)
variable (opn:Nat->α) (cls:α) (plain:α->Prop)
inductive Spr:List α->List α->Prop
  | nil:Spr [] []
  | one (x:α) {ws l:List α}:plain x->Spr ws l->Spr (x::ws) (x::l)
  | grp (t:Nat) {us u ws l:List α}:2<=t->t<=60->u≠[]->Spr us u->Spr ws l->Spr (opn t::(us++cls::ws)) (rep u t++l)
variable {opn cls plain}
def Jy (b:Option (List α)) (c:List α):Option (List α):=
  match b with
  | none=>some c
  | some b=>if c.length<b.length then some c else some b
section
variable [DecidableEq α] (opn:Nat->α) (cls:α) (T:Nat->Nat->List α) (xs:List α) (i j:Nat)
def QB (p:Nat):Option (List α):=if (j - i)%p≠0\/60<(j - i) / p then none else if sl xs i (j - p)≠sl xs (i+p) j then none else some (opn ((j - i) / p)::(T i (i+p)++[cls]))
def PK (b:Option (List α)) (p:Nat):Option (List α):=match QB opn cls T xs i j p with
  | none=>b
  | some c=>Jy b c
def KN:Option (List α):=(List.range' 1 ((j - i) / 2)).foldl (PK opn cls T xs i j) none
def QD:Option (List α):=(List.range' (i+1) (j - i - 1)).foldl (λ b m=>Jy b (T i m++T m j)) (KN opn cls T xs i j)
def Qy:List α:=if j - i=1 then sl xs i j else (QD opn cls T xs i j).getD []
end
def Wf [DecidableEq α] (opn:Nat->α) (cls:α) (xs:List α):Nat->Nat->Nat->List α
  | 0=>λ _ _=>[]
  | L+1=>λ i j=>if j - i=L+1 then Qy opn cls (Wf opn cls xs L) xs i j else Wf opn cls xs L i j
def W [DecidableEq α] (opn:Nat->α) (cls:α) (xs:List α) (i j:Nat):List α:=Wf opn cls xs (j - i) i j
structure Sm (α:Type) where
  held:List (List α)
  times:List Nat
  count:Nat
section
variable [DecidableEq α] (cls:α) (tms:α->Option (Option Nat)) (fits:α->Bool) (most:Nat)
def step (s:Sm α) (w:α):Option (Sm α):=
  if w=cls then
    match s.held,s.times with
    | u::v::st,t::ts=>if u≠[]/\s.count+u.length*(t - 1)<=most then some ⟨(v++rep u t)::st,ts,s.count+u.length*(t - 1)⟩ else none
    | _,_=>none
  else match tms w with
    | some (some t)=>if s.count<=most then some ⟨[]::s.held,t::s.times,s.count⟩ else none
    | some none=>none
    | none=>match s.held with
      | h::st=>if fits w=true/\s.count+1<=most then some ⟨(h++[w])::st,s.times,s.count+1⟩ else none
      | []=>none
def run:Sm α->List α->Option (Sm α)
  | s,[]=>some s
  | s,w::ws=>match step cls tms fits most s w with
    | some s'=>run s' ws
    | none=>none
end
theorem run_app [DecidableEq α] {cls:α} {tms:α->Option (Option Nat)} {fits:α->Bool} {most:Nat}:∀ (ws ws':List α) (s:Sm α),run cls tms fits most s (ws++ws')=match run cls tms fits most s ws with | some s'=>run cls tms fits most s' ws' | none=>none
  | [],ws',s=>rfl
  | w::ws,ws',s=>by
    have e:∀ vs,run cls tms fits most s (w::vs)=match step cls tms fits most s w with | some s'=>run cls tms fits most s' vs | none=>none:=λ _=>rfl
    rw [List.cons_append,e,e];cases step cls tms fits most s w with
    | none=>rfl
    | some s'=>exact run_app ws ws' s'
end
end MFew
open L2
local macro_rules | `(tactic| walk_at "t") => `(tactic| first | (with_reducible first | refine Mn ?_ | refine Mu ?_ | refine KW ?_ | refine Qu ?_ | refine NN ?_ | refine PJ ?_ | refine MX ?_ | refine PL ?_ | refine Ng ?_ | refine Mh ?_ | refine MH ?_ | refine Me ?_ | refine Mt ?_ | refine Kg ?_ | refine OJ ?_ | refine NE ?_ | refine PX ?_ | refine MG ?_ | refine KG ?_ | refine K9 ?_ | refine O8 ?_ | refine MD ?_ | refine Lf ?_ | refine Md ?_ | refine KR ?_ | refine Mr ?_ | refine Na ?_ | refine OA ?_ | refine Lk ?_ | refine NF ?_ | refine KH ?_ | refine HC ?_ | refine Nb ?_ | refine IU ?_ | refine GK ?_ | refine Kr ?_ | refine Ko ?_ | refine Kz ?_ | refine IP ?_ | refine KU ?_ | refine Lp ?_ | refine Ma ?_ | refine OK ?_ | refine OH ?_ | refine O1 ?_ | refine Kk ?_ | refine Ml ?_ | refine Px ?_ | refine Qk ?_ | refine OE ?_ | refine OV ?_ | refine Iv ?_) | ((with_reducible apply Mz); exact rfl) | (with_reducible refine Mf (by simp only [List.length_cons, List.length_nil]; decide) ?_))
local macro_rules | `(tactic| walk_at "s") => `(tactic| first | walk_at "t" | (with_reducible refine L4 ?_))
local macro_rules | `(tactic| walk_at "v") => `(tactic| repeat walk_at "t")
local macro_rules | `(tactic| walk_at "w") => `(tactic| repeat walk_at "s")
local macro_rules | `(tactic| wrow_has $H $n) => do let t := ((n.getId.toString.drop 1).toString); let i := λ (a : String) => Lean.mkIdent (Lean.Name.mkSimple (a ++ t)); `(tactic| (generalize e : upd $H $(i "p") _ = $(i "H"); have $(i "s"):ident : Same $H $(i "H") := (by rw [<-e]; exact Ae $(i "n")); have $(i "g"):ident := (congrFun e $(i "p")).symm.trans Ab; clear e))
local macro_rules | `(tactic| row_lines $H $n) => do let t := ((n.getId.toString.drop 1).toString); let i := λ (a : String) => Lean.mkIdent (Lean.Name.mkSimple (a ++ t)); `(tactic| (intro $(i "p"):ident $(i "n"):ident; wrow_has $H $n))
local macro_rules | `(tactic| walk_at "x") => `(tactic| repeat first | walk_at "s" | (with_reducible refine AH (by decide) ?_))
namespace K02
open PySem L2 PySem.Spec PyProof.Rows
seal L2.PE L2.PT L2.PW L2.PA L2.PS L2.PSs L2.PI L2.PG L2.PTs L2.PGs
section
variable {P:Program} {w:World} {K:PySem.W.Frag} {mg:Str->Option Value} {base:Heap}
structure Cs where
  LoomError:Addr
  BadRow:Addr
  BadWord:Addr
  TooMany:Addr
  NotPlain:Addr
  NotGrown:Addr
  BadDraft:Addr
  BadCloth:Addr
  OutOfPlace:Addr
structure Txt (K:PySem.W.Frag) (mg:Str->Option Value) (c:Cs):Prop where
  own:Own mg ["isinstance","int","bool","str","list","len","all","range","sum","enumerate","ValueError"]
  g_LoomError:mg "LoomError"=some (.ref c.LoomError)
  g_BadRow:mg "BadRow"=some (.ref c.BadRow)
  g_BadWord:mg "BadWord"=some (.ref c.BadWord)
  g_TooMany:mg "TooMany"=some (.ref c.TooMany)
  g_NotPlain:mg "NotPlain"=some (.ref c.NotPlain)
  g_NotGrown:mg "NotGrown"=some (.ref c.NotGrown)
  g_BadDraft:mg "BadDraft"=some (.ref c.BadDraft)
  g_BadCloth:mg "BadCloth"=some (.ref c.BadCloth)
  g_OutOfPlace:mg "OutOfPlace"=some (.ref c.OutOfPlace)
  xk_BadWord:XKind K c.BadWord
  xs_BadWord:XSet K c.BadWord
  xm_BadWord_LoomError:PySem.W.exmOne K (.ref c.BadWord) (.ref c.LoomError)=some true
  ki_BadWord_BadRow:PySem.W.kitOne K (.ref c.BadWord) (.ref c.BadRow)=some false
  ki_BadWord_BadWord:PySem.W.kitOne K (.ref c.BadWord) (.ref c.BadWord)=some true
  ki_BadWord_TooMany:PySem.W.kitOne K (.ref c.BadWord) (.ref c.TooMany)=some false
  ki_BadWord_NotPlain:PySem.W.kitOne K (.ref c.BadWord) (.ref c.NotPlain)=some false
  ki_BadWord_NotGrown:PySem.W.kitOne K (.ref c.BadWord) (.ref c.NotGrown)=some false
  ki_BadWord_BadDraft:PySem.W.kitOne K (.ref c.BadWord) (.ref c.BadDraft)=some false
  ki_BadWord_BadCloth:PySem.W.kitOne K (.ref c.BadWord) (.ref c.BadCloth)=some false
  ki_BadWord_OutOfPlace:PySem.W.kitOne K (.ref c.BadWord) (.ref c.OutOfPlace)=some false
  ki_BadWord_ValueError:PySem.W.kitOne K (.ref c.BadWord) (.type "ValueError")=some true
  xf_BadWord_place:PySem.W.findIn K (.ref c.BadWord) "place"=some none
  xj_BadWord:∃ fi,HT.iniIn K c.BadWord fi=true
  xb_LoomError:XBase K c.LoomError
  k_FIGURES:∃ t,mg "FIGURES"=some (.str "0123456789" t)
  k_MOST_FIGURES:∃ t,mg "MOST_FIGURES"=some (.int 3 t)
  k_LEAST_TIMES:∃ t,mg "LEAST_TIMES"=some (.int 2 t)
  k_MOST_TIMES:∃ t,mg "MOST_TIMES"=some (.int 60 t)
  k_OPENING:∃ t,mg "OPENING"=some (.str "(" t)
  k_CLOSING:∃ t,mg "CLOSING"=some (.str ")" t)
def FP (K:PySem.W.Frag) (ts:List Addr):Sp:=λ vs H Q _=>∃ (a:Addr) (ns:List Int),vs=[.ref a]/\SqL K H a (ns.map V.int)/\ns.length<=63/\(∀ T∈ts,H T=some (.tbl #[]))/\ts.Nodup/\∀ H',Q (.bl true) H'
end
section
variable {P:Program} {w:World} {K:PySem.W.Frag} {mg:Str->Option Value} {base:Heap} {c:Cs} {TT1 TT2:Addr}
def DI (K:PySem.W.Frag):Sp:=λ vs H Q _=>∃ x,vs=[x]/\Ty K H x/\Q (.bl (IZ x)) H
abbrev CT:Stmt:=top 13
theorem Gp:FnScope ["thing"] ["thing"] (Aj CT):=⟨rfl,rfl,rfl,by decide +kernel,rfl,by decide +kernel,by decide +kernel⟩
theorem Cm {f:Addr} {fd:FuncData} (F:Fun K "is_whole" "is_whole" CT f fd) (T:Txt K mg c):FnOk P w K mg base CX0 1 f fd ["thing"] (DI K):=by
  refine F.ok Gp (λ vs H Q E h=> ?_) (λ cdv A outer s H vs Q E hr h=> ?_)
  · obtain ⟨x,rfl,_⟩:=h;rfl
  · obtain ⟨x,rfl,⟨n,ty⟩,k⟩:=h;refine ⟨_,(Ah (Aq (GB (Ak (CP (K:=K)) rfl (T.own _ (by decide)) boot_isinstance (Aa (pv 0) (Aa (Dy rfl (T.own _ (by decide)) boot_int) Ac))) (GN (Jf (Ak (CP (K:=K)) rfl (T.own _ (by decide)) boot_isinstance (Aa (pv 0) (Aa (Dy rfl (T.own _ (by decide)) boot_bool) Ac)))))))),?_⟩;walk_at "w";refine A2 ty (Ls ty) ?_;walk_at "w";refine LW (λ hc=> ?_) (λ hc=> ?_)
    · walk_at "w";refine A2 ty (Ka ty) ?_;walk_at "w";exact F2 (by cases x <;> first | rfl | exact absurd hc Bool.false_ne_true) k
    · exact F2 (by cases x <;> first | rfl | exact absurd hc.symm Bool.false_ne_true) k
def Cb (K:PySem.W.Frag):Sp:=λ vs H Q _=>∃ x a b,vs=[x, .int a, .int b]/\Ty K H x/\Q (.bl (GA x a b)) H
abbrev CV:Stmt:=top 14
theorem F8:FnScope ["thing","least","most"] ["thing","least","most"] (Aj CV):=⟨rfl,rfl,rfl,by decide +kernel,rfl,by decide +kernel,by decide +kernel⟩
theorem B5 {f:Addr} {fd:FuncData} (F:Fun K "is_among" "is_among" CV f fd) (T:Txt K mg c) (c_is_whole:CallF P w K mg base "is_whole" 1 ["thing"] (DI K)):FnOk P w K mg base CX0 2 f fd ["thing","least","most"] (Cb K):=by
  refine F.ok F8 (λ vs H Q E h=> ?_) (λ cdv A outer s H vs Q E hr h=> ?_)
  · obtain ⟨x,a,b,rfl,_⟩:=h;rfl
  · obtain ⟨x,a,b,rfl,ty,k⟩:=h;refine ⟨_,(Ah (Aq (GB (Ao c_is_whole hr (Aa (pv 0) Ac)) (GN (JO He He (pv 1) (pv 0) (pv 2)))))),?_⟩;walk_at "w";refine ⟨x,rfl,ty,?_⟩;walk_at "w";refine LW (λ hc=> ?_) (λ hc=> ?_)
    · cases x with
      | int i=>
        walk_at "w";refine LW (λ h1=> ?_) (λ h1=> ?_)
        · walk_at "w";exact F2 (by show _=(decide (a<=i)&&decide (i<=b));rw [h1,Bool.true_and]) k
        · walk_at "w";exact F2 (by show _=(decide (a<=i)&&decide (i<=b));rw [h1,Bool.false_and]) k
      | _=>exact absurd hc Bool.false_ne_true
    · exact F2 (by cases x <;> first | rfl | exact absurd hc.symm Bool.false_ne_true) k
def Eb (z:Str):V:=match MN.numOf z.cps.toList with
  | some n=>V.int n
  | none=>V.non
theorem all_map {α:Type} (p:α->Bool) (l:List α):(l.map p).all id=l.all p:=by simp [List.all_map]
theorem L5 {l:List Nat} {p:Nat->Bool}:((List.range l.length).map λ i=>p (l.getD i 0))=l.map p:=by
  refine List.ext_getElem (by simp) λ i g1 g2=> ?_;rw [List.getElem_map,List.getElem_map,List.getElem_range,List.getD_eq_getElem?_getD,List.getElem?_eq_getElem (by simpa using g2)];rfl
theorem Km (z:Str):Txt.startswith z (Str.ofString "0")=(z.cps.toList.head? == some 48):=by
  have e:(Str.ofString "0")=⟨#[48]⟩:=by decide +kernel
  rw [e];unfold Txt.startswith
  rw [MS.subAt_one];have hl:z.cps.toList.length=z.length:=by simp [Str.length]
  have h0:z.cps.toList[0]?=z.cps.toList.head?:=by rw [List.head?_eq_getElem?]
  rw [h0,Bool.eq_iff_iff,Bool.and_eq_true,decide_eq_true_iff,decide_eq_true_iff,beq_iff_eq];constructor
  · exact λ h=>h.2
  · intro h;refine ⟨?_,h⟩;show 0+1<=z.length;have:z.cps.toList≠[]:=by intro q;rw [q] at h;cases h
    have:=List.length_pos_iff.mpr this;omega
theorem Hx {z:Str} (h:MN.numOf z.cps.toList=none):Eb z= .non:=by unfold Eb;rw [h]
theorem Ik {z:Str} {n:Nat} (h:MN.numOf z.cps.toList=some n):Eb z= .int n:=by unfold Eb;rw [h]
def Df:Sp:=λ vs H Q _=>∃ z:Str,vs=[.str z]/\z.length<=100/\∀ H',Same H H'->Q (Eb z) H'
abbrev Cq:Stmt:=top 15
theorem Fx:FnScope ["word"] ["word"] (Aj Cq):=⟨rfl,rfl,rfl,by decide +kernel,rfl,by decide +kernel,by decide +kernel⟩
theorem BM {f:Addr} {fd:FuncData} (F:Fun K "number_of" "number_of" Cq f fd) (T:Txt K mg c) (c_is_among:CallF P w K mg base "is_among" 2 ["thing","least","most"] (Cb K)):FnOk P w K mg base CX0 3 f fd ["word"] Df:=by
  refine F.ok Fx (λ vs H Q E h=> ?_) (λ cdv A outer s H vs Q E hr h=> ?_)
  · obtain ⟨z,rfl,_⟩:=h;rfl
  · obtain ⟨z,rfl,hz,k⟩:=h;have hzl:z.cps.toList.length=z.length:=by simp [Str.length]
    refine ⟨_,(Ad (Ax (PW.pt (Dj (Ed (AZ (Ak (CP (K:=K)) rfl (T.own _ (by decide)) boot_isinstance (Aa (pv 0) (Aa (Dy rfl (T.own _ (by decide)) boot_str) Ac))))) (CM (Ed (AZ (Ao c_is_among hr (Aa (Ak (AL (K:=K)) rfl (T.own _ (by decide)) boot_len (Aa (pv 0) Ac)) (Aa Ag (Aa (IG T.k_MOST_FIGURES) Ac))))))))) (Ah (Aq AQ)) As)
      (Ad (Ax (Ed (AZ (Ak (O7 (K:=K)) rfl (T.own _ (by decide)) Hs (Aa (Eh (Iy (pv 0)) (λ _ _ _ _=>GU) (λ _ _ _ _=>(Bv Do (pv 0) (Ff T.k_FIGURES) (by with_unfolding_all rfl)))) Ac)))) (Ah (Aq AQ)) As)
      (Ad (Ax (PW.pt (CN (Al Ci (Ak (AL (K:=K)) rfl (T.own _ (by decide)) boot_len (Aa (pv 0) Ac)) Ag (Ap _)) (BP (AZ (Bl (K:=K) PySem.F.plainAttrs_str PySem.F.slot_str_startswith PySem.F.type_str_startswith EK (pv 0) (Aa Af Ac)))))) (Ah (Aq AQ)) As)
      (Ah (Aq (Bj BB rfl (T.own _ (by decide)) boot_int (Aa (pv 0) Ac))))))),?_⟩
    have yes:∀ H',Same H H'->MN.numOf z.cps.toList=none->Q .non H':=λ H' sm' e=>Hx e▸k H' sm';walk_at "w";refine A2 (.str _) (kb (b:=true) (by decide +kernel)) ?_;walk_at "w";refine Bx (Nat.le_trans hz (by decide)) ?_;walk_at "w";refine ⟨_,_,_,rfl,⟨"int", .int _⟩,?_⟩;have eA:GA (.int (z.length:Nat)) 1 3=(decide ((1:Int)<=(z.length:Nat))&&decide (((z.length:Nat):Int)<=3)):=rfl;rw [eA];walk_at "w";refine Ga (λ h1=> ?_) (λ h1=> ?_)
    · walk_at "w";refine yes H (Same.refl H) ?_;unfold MN.numOf;rw [if_neg];intro q;simp only [Bool.and_eq_true,decide_eq_true_iff] at q;have q1:=q.1.1;rw [hzl] at q1;rw [decide_eq_true (by omega:(1:Int)<=(z.length:Nat)),decide_eq_true (by omega:((z.length:Nat):Int)<=3)] at h1;cases h1
    have h2:1<=z.length/\z.length<=3:=by
      simp only [Bool.not_eq_false',Bool.and_eq_true,decide_eq_true_iff] at h1;omega
    walk_at "w";refine ⟨z,rfl,λ D hD=> ?_⟩;refine JS (G:=λ i=>MN.isDig (z.cps.toList.getD i 0)) (Lr rfl) hD (by show z.length<=100000;omega) ?_ ?_
    · intro i H' R hi s kk;walk_at "w";refine ⟨_,_,rfl,rfl,?_⟩;rw [MN.in_one,MN.fig_mem];exact kk H' (Same.refl _)
    intro H1 s1 hd1;walk_at "w";refine Nh (SqL.of hd1) ?_;have eall:((List.range z.cps.size).map λ i=>MN.isDig (z.cps.toList.getD i 0)).all id=z.cps.toList.all MN.isDig:=by
      rw [show z.cps.size=z.cps.toList.length by simp,L5,all_map]
    rw [eall];walk_at "w";refine Ga (λ h3=> ?_) (λ h3=> ?_)
    · walk_at "w";refine yes H1 s1 ?_;unfold MN.numOf;rw [if_neg];intro q;simp only [Bool.and_eq_true] at q;rw [q.1.2] at h3;cases h3
    have h4:z.cps.toList.all MN.isDig=true:=by simpa using h3
    walk_at "w";refine Bx (Nat.le_trans hz (by decide)) ?_;walk_at "w";have fin:(decide (1<z.cps.toList.length)&&(z.cps.toList.head? == some 48))=false->PySem.intText? z=some ((NumText.digitsVal z.cps.toList:Nat):Int)/\Q (.int ((NumText.digitsVal z.cps.toList:Nat):Int)) H1:=λ q=>by
      refine ⟨intText_digits ?_ ?_ (by omega),?_⟩
      · intro c hc;have:=(List.all_eq_true.mp h4) c hc;unfold MN.isDig at this;rw [Bool.and_eq_true,decide_eq_true_iff,decide_eq_true_iff] at this;exact this
      · intro q;rw [q] at hzl;simp at hzl;omega
      · have e:MN.numOf z.cps.toList=some (NumText.digitsVal z.cps.toList):=by
          unfold MN.numOf;rw [if_pos];rw [q,h4,decide_eq_true (by omega:1<=z.cps.toList.length),decide_eq_true (by omega:z.cps.toList.length<=3)];rfl
        exact Ik e▸k H1 s1
    refine AJ (λ h5=> ?_) (λ h5=> ?_)
    · walk_at "w";refine ⟨rfl,?_⟩;walk_at "w";refine ⟨_,_,rfl,rfl,?_⟩;rw [Km];walk_at "w";refine Ga (λ h6=> ?_) (λ h6=> ?_)
      · walk_at "w";refine yes H1 s1 ?_;unfold MN.numOf;rw [if_neg];intro q;simp only [Bool.and_eq_true] at q;have q2:=q.2;rw [h6,decide_eq_true (by omega:1<z.cps.toList.length)] at q2;cases q2
      · obtain ⟨g1,g2⟩:=fin (by rw [h6,Bool.and_false]);walk_at "w";exact ⟨z,_,rfl,g1,by omega,g2⟩
    · obtain ⟨g1,g2⟩:=fin (by rw [decide_eq_false (by omega),Bool.false_and]);walk_at "w";exact ⟨z,_,rfl,g1,by omega,g2⟩
abbrev opS:Str:="("
abbrev clS:Str:=")"
def Bp (z:Str):V:=if (Txt.endswith z opS&&GA (Eb (Txt.slice z none (some (-1)))) 2 60)=true then Eb (Txt.slice z none (some (-1))) else .non
def Co:Sp:=λ vs H Q _=>∃ z:Str,vs=[.str z]/\z.length<=100/\∀ H',Same H H'->Q (Bp z) H'
theorem Lu {K:PySem.W.Frag} {H:Hp} (z:Str):Ty K H (Eb z):=by
  unfold Eb;split
  · exact ⟨_, .int _⟩
  · exact ⟨_, .non⟩
abbrev CS:Stmt:=top 21
theorem sc_times_of:FnScope ["word","times"] ["word"] (Aj CS):=⟨rfl,rfl,rfl,by decide +kernel,rfl,by decide +kernel,by decide +kernel⟩
theorem Cj {f:Addr} {fd:FuncData} (F:Fun K "times_of" "times_of" CS f fd) (T:Txt K mg c) (c_number_of:CallF P w K mg base "number_of" 3 ["word"] Df) (c_is_among:CallF P w K mg base "is_among" 2 ["thing","least","most"] (Cb K)):FnOk P w K mg base CX0 4 f fd ["word"] Co:=by
  refine F.ok sc_times_of (λ vs H Q E h=> ?_) (λ cdv A outer s H vs Q E hr h=> ?_)
  · obtain ⟨z,rfl,_⟩:=h;rfl
  · obtain ⟨z,rfl,hz,k⟩:=h;refine ⟨_,(Ad (An (i:=1) sc_times_of.nd rfl (Or.inl rfl) (Ao c_number_of hr (Aa (AE Fl (pv 0) AO (AN (EV Dm Ag))) Ac)))
      (Ad (Ax (PW.pt (CN (AZ (Bl (K:=K) PySem.F.plainAttrs_str PySem.F.slot_str_endswith PySem.F.type_str_endswith Cc (pv 0) (Aa (Ff T.k_OPENING) Ac))) (BP (AZ (Ao c_is_among (hr.mono (by decide)) (Aa (pv 1) (Aa (IG T.k_LEAST_TIMES) (Aa (IG T.k_MOST_TIMES) Ac)))))))) (Ah (Aq (pv 1))) As)
      (Ah (Aq AQ)))),?_⟩
    walk_at "w";refine FI (Nat.le_trans hz (by decide)) ?_;walk_at "w";refine ⟨_,rfl,Nat.le_trans (Txt.slice_le z _ _) hz,λ H1 s1=> ?_⟩;walk_at "w";refine ⟨rfl,?_⟩;walk_at "w";refine ⟨_,_,rfl,rfl,?_⟩;walk_at "w";refine Ga (λ h1=> ?_) (λ h1=> ?_)
    · walk_at "w";refine ⟨_,_,_,rfl,Lu _,?_⟩;walk_at "w";refine Ga (λ h2=> ?_) (λ h2=> ?_)
      · have e:Bp z=Eb (Txt.slice z none (some (-1))):=if_pos (by rw [show Txt.endswith z opS=true from h1,h2];rfl);walk_at "w";exact e▸k H1 s1
      · have e:Bp z= .non:=if_neg (by rw [h2,Bool.and_false];decide);walk_at "w";exact e▸k H1 s1
    · have e:Bp z= .non:=if_neg (by rw [show Txt.endswith z opS=false from h1,Bool.false_and];decide);walk_at "w";exact e▸k H1 s1
def tms (z:Str):Option (Option Nat):=if Txt.endswith z opS=true then some (match Bp z with | .int t=>some t.toNat | _=>none) else none
theorem Ec {xs:List V} {y:V}:atI (xs++[y]) (-1)=some y:=by
  unfold atI ixN;rw [List.length_append,List.length_singleton];simp only [show ¬ ((0:Int)<= -1) by decide,if_false];rw [if_pos (by omega)];simp only [Option.bind_some];rw [show ((-1:Int)+((xs.length+1:Nat):Int)).toNat=xs.length by omega];simp
def BL (z:Str) (n m:Nat) (fit:Bool):Bool:=if z=clS then decide (0<n)&&decide (0<m) else if Txt.endswith z opS=true then !decide (Bp z= .non) else fit
def AtL (H:Hp):List Addr->List (List Str)->Prop
  | [],[]=>True
  | a::as,u::us=>H a=some (.lst (u.map V.str))/\AtL H as us
  | _,_=>False
theorem AtL.len {H:Hp}:∀ {as:List Addr} {us:List (List Str)},AtL H as us->as.length=us.length
  | [],[],_=>rfl
  | _::_,_::_,h=>by rw [List.length_cons,List.length_cons,AtL.len h.2]
theorem AtL.on {H H':Hp}:∀ {as:List Addr} {us:List (List Str)},AtL H as us->(∀ a∈as,∀ o,H a=some o->H' a=some o)->AtL H' as us
  | [],[],_,_=>trivial
  | a::_,_::_,h,k=>⟨k a List.mem_cons_self _ h.1,AtL.on h.2 λ b hb=>k b (List.mem_cons_of_mem _ hb)⟩
structure Stk (H:Hp) (h t:Addr) (as:List Addr) (s:MFew.Sm Str):Prop where
  hh:H h=some (.lst (as.reverse.map V.ref))
  ht:H t=some (.lst (s.times.reverse.map nV))
  hs:AtL H as s.held
  nd:as.Nodup
  nh:h∉as
  nt:t∉as
  ne:h≠t
  tm:∀ n∈s.times,2<=n/\n<=60
  sm:(s.held.map List.length).sum=s.count
  dp:s.held.length=s.times.length+1
  up:s.held.length<=1000
def Gc:Sp:=λ vs H Q _=>∃ (z:Str) (h t:Addr) (as:List Addr) (s s':MFew.Sm Str) (fits:Str->Bool) (mx:Nat),vs=[.str z, .ref h, .ref t]/\z.length<=100/\Stk H h t as s/\s.held.length<=900/\s.count<=60/\mx<=100000/\MFew.step clS tms fits mx s z=some s'/\
  ∀ H' as',(∀ b o,b≠h->b≠t->b∉as->H b=some o->H' b=some o)->(∀ a∈as',a∈as\/H a=none)->Stk H' h t as' s'->Q (.int ((s'.count:Int) - (s.count:Int))) H'
theorem Fu {xs:List V} {y:V} (h:xs[xs.length - 1]?=some y):atI xs (-1)=some y:=by
  have hp:0<xs.length:=by
    rcases Nat.eq_zero_or_pos xs.length with z | z
    · rw [List.length_eq_zero_iff.mp z] at h;cases h
    · exact z
  unfold atI ixN;simp only [show ¬ ((0:Int)<= -1) by decide,if_false];rw [if_pos (by omega)];simp only [Option.bind_some];rw [show ((-1:Int)+((xs.length:Nat):Int)).toNat=xs.length - 1 by omega];exact h
theorem BN (z:Str):Bp z= .non\/∃ n:Nat,Bp z=nV n/\2<=n/\n<=60:=by
  unfold Bp;split
  · rename_i h
    rw [Bool.and_eq_true] at h;have h:=h.2;unfold Eb at h ⊢;split
    · rename_i n e
      rw [e] at h;refine .inr ⟨n,rfl,?_⟩;have h:(decide ((2:Int)<=(n:Nat))&&decide (((n:Nat):Int)<=60))=true:=h;rw [Bool.and_eq_true,decide_eq_true_iff,decide_eq_true_iff] at h;omega
    · exact .inl rfl
  · exact .inl rfl
theorem Gf {u:List Str} {n:Nat}:(List.replicate n (u.map V.str)).flatten=(MFew.rep u n).map V.str:=by
  rw [<-MFew.rep_flat,List.map_flatten,List.map_replicate]
abbrev Fv:Stmt:=top 23
theorem sc_taken:FnScope ["word","held","times","inner","many"] ["word","held","times"] (Aj Fv):=⟨rfl,rfl,rfl,by decide +kernel,rfl,by decide +kernel,by decide +kernel⟩
theorem F4 {f:Addr} {fd:FuncData} (F:Fun K "taken" "taken" Fv f fd) (T:Txt K mg c) (c_times_of:CallF P w K mg base "times_of" 4 ["word"] Co):FnOk P w K mg base CX0 5 f fd ["word","held","times"] Gc:=by
  refine F.ok sc_taken (λ vs H Q E h=> ?_) (λ cdv A outer s H vs Q E hr h=> ?_)
  · obtain ⟨z,h,t,as,s,s',fits,mx,rfl,_⟩:=h;rfl
  · obtain ⟨z,h,t,as,s0,s',fits,mx,rfl,hz,K0,h900,hct,hmx,hst,k⟩:=h;have hu:=hr.units0;refine ⟨_,(Ad (Ax (Al BH (pv 0) (Ff T.k_CLOSING) (Ap _)) (Ad (An (i:=3) sc_taken.nd rfl (Or.inl rfl) (Jd (K:=K) PySem.F.plainAttrs_list PySem.F.slot_list_pop PySem.F.type_list_pop JR (pv 1)))
      (Ad (An (i:=4) sc_taken.nd rfl (Or.inl rfl) (Jd (K:=K) PySem.F.plainAttrs_list PySem.F.slot_list_pop PySem.F.type_list_pop JR (pv 2)))
      (Ad (AM (Bl (K:=K) PySem.F.plainAttrs_list PySem.F.slot_list_extend PySem.F.type_list_extend Ih (A9 (Cr (K:=K)) (pv 1) (EV Dm Ag) (λ _ _=>rfl)) (Aa (Am Fz (pv 3) (pv 4)) Ac)))
      (Ah (Aq (Am EE (Ak (AL (K:=K)) rfl (T.own _ (by decide)) boot_len (Aa (pv 3) Ac)) (Am By (pv 4) Ag))))))) As)
      (Ad (Ax (AZ (Bl (K:=K) PySem.F.plainAttrs_str PySem.F.slot_str_endswith PySem.F.type_str_endswith Cc (pv 0) (Aa (Ff T.k_OPENING) Ac))) (Ad (AM (Bl (K:=K) PySem.F.plainAttrs_list PySem.F.slot_list_append PySem.F.type_list_append AB (pv 1) (Aa (Av Ac) Ac)))
      (Ad (AM (Bl (K:=K) PySem.F.plainAttrs_list PySem.F.slot_list_append PySem.F.type_list_append AB (pv 2) (Aa (Ao c_times_of hr (Aa (pv 0) Ac)) Ac)))
      (Ah (Aq Ag)))) As)
      (Ad (AM (Bl (K:=K) PySem.F.plainAttrs_list PySem.F.slot_list_append PySem.F.type_list_append AB (A9 (Cr (K:=K)) (pv 1) (EV Dm Ag) (λ _ _=>rfl)) (Aa (pv 0) Ac)))
      (Ah (Aq Ag))))),?_⟩
    obtain ⟨held,times,count⟩:=s0;have hK:=K0.hs.len;walk_at "w";refine AJ (λ h1=> ?_) (λ h1=> ?_)
    ·
      unfold MFew.step at hst;rw [if_pos h1] at hst;split at hst;rotate_left
      · cases hst
      rename_i u v st t1 ts e1 e2
      simp only at e1 e2;subst e1 e2;split at hst;rotate_left
      · cases hst
      rename_i hc
      cases hst;obtain ⟨hne,hcm⟩:=hc;simp only at hcm
      match as,hK,K0 with
      | a::b::as,hK,K0=>
        obtain ⟨ha,hb,hr'⟩:=K0.hs;have htm:=K0.tm t1 List.mem_cons_self;have nd:=K0.nd;have nab:a≠b:=λ z=>by rw [z] at nd;simp at nd
        have nha:h≠a:=λ z=>K0.nh (by rw [z];simp);have nhb:h≠b:=λ z=>K0.nh (by rw [z];simp);have nta:t≠a:=λ z=>K0.nt (by rw [z];simp);have ntb:t≠b:=λ z=>K0.nt (by rw [z];simp);have mul1:u.length*1<=u.length*(t1 - 1):=Nat.mul_le_mul_left _ (by omega);have sm:=K0.sm;simp only [List.map_cons,List.sum_cons] at sm;have ct:count<=60:=hct;walk_at "w";refine tyL (SqL.of K0.hh) ?_;walk_at "w";have eL:((a::b::as).reverse.map V.ref)=(b::as).reverse.map V.ref++[.ref a]:=by rw [List.reverse_cons,List.map_append];rfl
        refine ⟨h,_, .ref a,rfl,rfl,K0.hh,by rw [eL];simp,?_⟩;rw [eL,List.dropLast_concat];have f1:∀ x o,x≠h->H x=some o->upd H h (HO.lst ((b::as).reverse.map V.ref)) x=some o:=λ x o hx e=>by rw [Ai hx];exact e
        have g1:upd H h (HO.lst ((b::as).reverse.map V.ref)) h=_:=Ab;have n1:∀ x,x≠h->H x=none->upd H h (HO.lst ((b::as).reverse.map V.ref)) x=none:=λ x hx e=>by rw [Ai hx];exact e
        have m1:∀ x,upd H h (HO.lst ((b::as).reverse.map V.ref)) x=none->H x=none:=λ x e=>by
          by_cases hx:x=h
          · rw [hx,Ab] at e;cases e
          · rw [Ai hx] at e;exact e
        generalize upd H h (HO.lst ((b::as).reverse.map V.ref))=H1 at f1 g1 n1 m1 ⊢;walk_at "w";have eT:((t1::ts).reverse.map nV)=ts.reverse.map nV++[nV t1]:=by rw [List.reverse_cons,List.map_append];rfl
        have ht1:=f1 t _ (Ne.symm K0.ne) K0.ht;refine tyL (SqL.of ht1) ?_;walk_at "w";refine ⟨t,_,nV t1,rfl,rfl,ht1,by show ((t1::ts).reverse.map nV)[_]?=_;rw [eT];simp,?_⟩;have eT2:HO.lst ((({ held:=u::v::st,times:=t1::ts,count:=count }:MFew.Sm Str).times.reverse.map nV).dropLast)=HO.lst (ts.reverse.map nV):=by
          show HO.lst (((t1::ts).reverse.map nV).dropLast)=_;rw [eT,List.dropLast_concat]
        rw [eT2];have f2:∀ x o,x≠t->H1 x=some o->upd H1 t (HO.lst (ts.reverse.map nV)) x=some o:=λ x o hx e=>by rw [Ai hx];exact e
        have g2:upd H1 t (HO.lst (ts.reverse.map nV)) t=_:=Ab;have m2:∀ x,upd H1 t (HO.lst (ts.reverse.map nV)) x=none->H1 x=none:=λ x e=>by
          by_cases hx:x=t
          · rw [hx,Ab] at e;cases e
          · rw [Ai hx] at e;exact e
        generalize upd H1 t (HO.lst (ts.reverse.map nV))=H2 at f2 g2 m2 ⊢;walk_at "w";have gh2:=f2 h _ K0.ne g1;have eL2:((b::as).reverse.map V.ref)=as.reverse.map V.ref++[.ref b]:=by rw [List.reverse_cons,List.map_append];rfl
        refine Bm (SqL.of gh2) (by rw [eL2];exact Ec) ?_;walk_at "w";have gb2:=f2 b _ (Ne.symm ntb) (f1 b _ (Ne.symm nhb) hb);have ga2:=f2 a _ (Ne.symm nta) (f1 a _ (Ne.symm nha) ha);refine tyL (SqL.of gb2) ?_;walk_at "w";refine Fp ga2 (by omega) (by omega) (by rw [List.length_map];omega) λ q hq=> ?_;rw [show ((t1:Nat):Int).toNat=t1 by omega,Gf];have s3:=Ae (o:=HO.lst ((MFew.rep u t1).map V.str)) hq;have g3:upd H2 q (HO.lst ((MFew.rep u t1).map V.str)) q=_:=Ab;generalize upd H2 q (HO.lst ((MFew.rep u t1).map V.str))=H3 at s3 g3 ⊢;walk_at "w";have mul2:u.length*t1=u.length*(t1 - 1)+u.length:=by
          obtain ⟨n,rfl⟩:∃ n,t1=n+1:=⟨t1 - 1,by omega⟩;rw [Nat.add_sub_cancel,Nat.mul_succ]
        refine Mc (s3 _ _ gb2) g3 (by rw [List.length_map,List.length_map,MFew.rep_len];omega) ?_;rw [<-List.map_append];have f4:∀ x o,x≠b->H3 x=some o->upd H3 b (HO.lst ((v++MFew.rep u t1).map V.str)) x=some o:=λ x o hx e=>by rw [Ai hx];exact e
        have g4:upd H3 b (HO.lst ((v++MFew.rep u t1).map V.str)) b=_:=Ab;generalize upd H3 b (HO.lst ((v++MFew.rep u t1).map V.str))=H4 at f4 g4 ⊢;walk_at "w";refine AI (SqL.of (f4 a _ nab (s3 _ _ ga2))) ?_;walk_at "w";rw [List.length_map];have hmul:((u.length:Nat):Int)*(((t1:Nat):Int) - 1)=((u.length*(t1 - 1):Nat):Int):=by
          rw [Int.natCast_mul,Int.natCast_sub (by omega)];rfl
        refine AH (.inl ⟨by omega,by omega⟩) ?_;rw [hmul];have z0:=k H4 (b::as) (λ x o hx1 hx2 hx3 e=> ?_) (λ x hx=> .inl (List.mem_cons_of_mem _ hx)) ⟨?_,?_,?_,?_,λ hx=>K0.nh (List.mem_cons_of_mem _ hx),λ hx=>K0.nt (List.mem_cons_of_mem _ hx),K0.ne,λ n hn=>K0.tm n (List.mem_cons_of_mem _ hn),?_,?_,?_⟩
        · have e9:((count+u.length*(t1 - 1):Nat):Int) - ((count:Nat):Int)=((u.length*(t1 - 1):Nat):Int):=by omega
          rw [<-e9];exact z0
        · have hxb:x≠b:=λ z=>hx3 (by rw [z];simp);exact f4 x _ hxb (s3 _ _ (f2 x _ hx2 (f1 x _ hx1 e)))
        · exact f4 h _ nhb (s3 _ _ gh2)
        · exact f4 t _ ntb (s3 _ _ g2)
        · refine ⟨g4,hr'.on λ x hx o e=> ?_⟩;have hxb:x≠b:=λ z=>by rw [z] at hx;simp [hx] at nd
          have hxh:x≠h:=λ z=>K0.nh (by rw [<-z];simp [hx]);have hxt:x≠t:=λ z=>K0.nt (by rw [<-z];simp [hx]);exact f4 x _ hxb (s3 _ _ (f2 x _ hxt (f1 x _ hxh e)))
        · exact (List.nodup_cons.mp nd).2
        · simp only [List.map_cons,List.sum_cons,List.length_append,MFew.rep_len];omega
        · have:=K0.dp;simp only [List.length_cons] at this ⊢;omega
        · have:=K0.up;simp only [List.length_cons] at this ⊢;omega
    walk_at "w";refine ⟨rfl,?_⟩;walk_at "w";refine ⟨_,_,rfl,rfl,?_⟩;walk_at "w";unfold MFew.step at hst;rw [if_neg h1] at hst;refine Ga (λ h2=> ?_) (λ h2=> ?_)
    ·
      have h2:Txt.endswith z opS=true:=h2;unfold tms at hst;rw [if_pos h2] at hst;rcases BN z with e | ⟨n,e,n2,n60⟩
      · rw [e] at hst;cases hst
      rw [e] at hst;simp only [Int.toNat_natCast] at hst;split at hst;rotate_left
      · cases hst
      rename_i hc
      cases hst;walk_at "w";refine tyL (SqL.of K0.hh) ?_;walk_at "w";intro p hp;have s1:=Ae (o:=HO.lst []) hp;have g1:upd H p (HO.lst []) p=some (.lst (([]:List Str).map V.str)):=Ab;generalize upd H p (HO.lst [])=H1 at s1 g1 ⊢;have la:as.length<=900:=by rw [hK];exact h900
      walk_at "w";refine AV (s1 _ _ K0.hh) (by rw [List.length_map,List.length_reverse];omega) ?_;have eL:as.reverse.map V.ref++[V.ref p]=(p::as).reverse.map V.ref:=by rw [List.reverse_cons,List.map_append];rfl
      rw [eL];have npo:∀ x o,H x=some o->x≠p:=λ x o e z=>by rw [z,hp] at e;cases e
      have f2:∀ x o,x≠h->H1 x=some o->upd H1 h (HO.lst ((p::as).reverse.map V.ref)) x=some o:=λ x o hx e=>by rw [Ai hx];exact e
      have g2:upd H1 h (HO.lst ((p::as).reverse.map V.ref)) h=_:=Ab;generalize upd H1 h (HO.lst ((p::as).reverse.map V.ref))=H2 at f2 g2 ⊢;walk_at "w";have ht2:=f2 t _ (Ne.symm K0.ne) (s1 _ _ K0.ht);refine tyL (SqL.of ht2) ?_;walk_at "w";refine ⟨z,rfl,hz,λ H3 s3=> ?_⟩;rw [e];walk_at "w";have dp:=K0.dp;simp only at dp hK;refine AV (s3 _ _ ht2) (by rw [List.length_map,List.length_reverse];show times.length<_;omega) ?_;have eT:(({ held:=held,times:=times,count:=count }:MFew.Sm Str).times.reverse.map nV)++[nV n]=(n::times).reverse.map nV:=by rw [List.reverse_cons,List.map_append];rfl
      rw [eT];have f4:∀ x o,x≠t->H3 x=some o->upd H3 t (HO.lst ((n::times).reverse.map nV)) x=some o:=λ x o hx e=>by rw [Ai hx];exact e
      have g4:upd H3 t (HO.lst ((n::times).reverse.map nV)) t=_:=Ab;generalize upd H3 t (HO.lst ((n::times).reverse.map nV))=H4 at f4 g4 ⊢;walk_at "w";have hph:p≠h:=Ne.symm (npo h _ K0.hh);have hpt:p≠t:=Ne.symm (npo t _ K0.ht);have hpa:p∉as:=λ z=>by
        have:∀ {as:List Addr} {us:List (List Str)},AtL H as us->p∈as->False:=λ {as us}=>by
          induction as generalizing us with
          | nil=>intro _ h;cases h
          | cons a as ih=>
            intro q h
            match us,q with
            | u::us,q=>
              rcases List.mem_cons.mp h with z | z
              · have:=q.1;rw [<-z,hp] at this;cases this
              · exact ih q.2 z
        exact this K0.hs z
      have z0:=k H4 (p::as) (λ x o hx1 hx2 hx3 e=>f4 x _ hx2 (s3 _ _ (f2 x _ hx1 (s1 _ _ e)))) (λ x hx=> ?_) ⟨?_,?_,?_,?_,?_,?_,K0.ne,?_,?_,?_,?_⟩
      · have e9:((count:Nat):Int) - ((count:Nat):Int)=0:=by omega
        simp only [e9] at z0;exact z0
      · rcases List.mem_cons.mp hx with z | z
        · rw [z];exact .inr hp
        · exact .inl z
      · exact f4 h _ K0.ne (s3 _ _ g2)
      · exact g4
      · refine ⟨f4 p _ hpt (s3 _ _ (f2 p _ hph g1)),K0.hs.on λ x hx o e=> ?_⟩;have hxh:x≠h:=λ z=>K0.nh (by rw [<-z];exact hx);have hxt:x≠t:=λ z=>K0.nt (by rw [<-z];exact hx);exact f4 x _ hxt (s3 _ _ (f2 x _ hxh (s1 _ _ e)))
      · exact List.nodup_cons.mpr ⟨hpa,K0.nd⟩
      · intro hx;rcases List.mem_cons.mp hx with z | z
        · exact hph z.symm
        · exact K0.nh z
      · intro hx;rcases List.mem_cons.mp hx with z | z
        · exact hpt z.symm
        · exact K0.nt z
      · intro m hm;rcases List.mem_cons.mp hm with z | z
        · rw [z];exact ⟨n2,n60⟩
        · exact K0.tm m z
      · have:=K0.sm;simp only [List.map_cons,List.sum_cons,List.length_nil] at this ⊢;omega
      · simp only [List.length_cons];omega
      · simp only [List.length_cons] at h900 ⊢;omega
    ·
      have h2:Txt.endswith z opS=false:=h2;have e:tms z=none:=if_neg (by rw [h2];decide);rw [e] at hst;simp only at hst;split at hst;rotate_left
      · cases hst
      rename_i u st
      split at hst;rotate_left
      · cases hst
      rename_i hc
      cases hst
      match as,hK,K0 with
      | a::as,hK,K0=>
        obtain ⟨ha,hr'⟩:=K0.hs;have nd:=K0.nd;have nha:h≠a:=λ z=>K0.nh (by rw [z];simp);have nta:t≠a:=λ z=>K0.nt (by rw [z];simp);have sm:=K0.sm;have ct:count<=60:=hct;simp only [List.map_cons,List.sum_cons] at sm;walk_at "w";have eL:((a::as).reverse.map V.ref)=as.reverse.map V.ref++[.ref a]:=by rw [List.reverse_cons,List.map_append];rfl
        refine Bm (SqL.of K0.hh) (by rw [eL];exact Ec) ?_;walk_at "w";refine tyL (SqL.of ha) ?_;walk_at "w";refine AV ha (by rw [List.length_map];omega) ?_;have e2:u.map V.str++[V.str z]=(u++[z]).map V.str:=by rw [List.map_append];rfl
        rw [e2];have f1:∀ x o,x≠a->H x=some o->upd H a (HO.lst ((u++[z]).map V.str)) x=some o:=λ x o hx e=>by rw [Ai hx];exact e
        have g1:upd H a (HO.lst ((u++[z]).map V.str)) a=_:=Ab;generalize upd H a (HO.lst ((u++[z]).map V.str))=H1 at f1 g1 ⊢;walk_at "w";have z0:=k H1 (a::as) (λ x o hx1 hx2 hx3 e=>f1 x _ (λ z=>hx3 (by rw [z];simp)) e) (λ x hx=> .inl hx) ⟨f1 h _ nha K0.hh,f1 t _ nta K0.ht,⟨g1,hr'.on λ x hx o e=>f1 x _ (λ z=>by rw [z] at hx;simp [hx] at nd) e⟩,nd,K0.nh,K0.nt,K0.ne,K0.tm,?_,K0.dp,K0.up⟩
        · have e9:((count+1:Nat):Int) - ((count:Nat):Int)=1:=by omega
          simp only [e9] at z0;exact z0
        · simp only [List.map_cons,List.sum_cons,List.length_append,List.length_singleton];omega
theorem Hm {n:Nat} (h:n<1000):((n:Nat):Int).natAbs.log2<1920:=by
  have:Nat.log2 n<=n:=Nat.log2_le_self n;show Nat.log2 n<1920;omega
def BJ (c:Cs):Sp:=λ vs H Q _=>∃ (a:Addr) (n0:Nat),vs=[.ref a,nV n0]/\H a=some (xnO a c.BadWord none)/\n0<1000/\
  ∀ dx H',H dx=none->(∀ b o,H b=some o->b≠a->H' b=some o)->H' a=some (xnO a c.BadWord (some dx))->H' dx=some (xdO dx [("place",nV n0)])->Q .non H'
abbrev AT:Stmt:=Cw (top 3) 0
theorem CC:FnScope ["self","place"] ["self","place"] (Aj AT):=⟨rfl,rfl,rfl,by decide +kernel,rfl,by decide +kernel,by decide +kernel⟩
theorem Bc {f:Addr} {fd:FuncData} (F:Fun K "__init__" "BadWord.__init__" AT f fd) (T:Txt K mg c):FnOk P w K mg base CX0 1 f fd ["self","place"] (BJ c):=by
  refine F.ok CC (λ vs H Q E h=> ?_) (λ cdv A outer s H vs Q E hr h=> ?_)
  · obtain ⟨a,n0,rfl,_⟩:=h;rfl
  · obtain ⟨a,n0,rfl,ha,b0,k⟩:=h;refine ⟨_,(Ad (AM (JC (K:=K) T.g_LoomError T.xb_LoomError (Aa (pv 0) (Aa (Ij (Eo Af (Eo (L8 (pv 1)) (Eo Af KL)))) Ac))))
      (Ah (Kv (K:=K) (pv 0) (pv 1) rfl))),?_⟩
    have l0:=MN.num_len (i:=((n0:Nat):Int)) (by omega) (by omega);have h0:(Str.empty).length=0:=by decide +kernel
    have g0:(Str.ofString "word ").length=5:=by decide +kernel
    have g2:(Str.ofString " can't stand").length=12:=by decide +kernel
    walk_at "w";refine Iz ?_;walk_at "w";refine FM ?_;walk_at "w";refine ⟨_,rfl,?_,?_⟩
    · rw [strLen_append];omega
    refine FM ?_;refine Nf ?_;walk_at "w";refine .inl ⟨_,rfl,Hm b0,_,rfl,?_,?_⟩
    · rw [strLen_append,strLen_append];omega
    refine FM ?_;walk_at "w";refine ⟨_,rfl,?_,?_⟩
    · rw [strLen_append,strLen_append,strLen_append];omega
    refine Ho ?_;walk_at "w";obtain ⟨fi,hfi⟩:=T.xj_BadWord;refine ⟨a,_,_,fi,_,rfl,ha,hfi,?_⟩;dsimp only;refine Kw ?_;walk_at "w";refine ⟨a,_,_,rfl,ha,T.xs_BadWord,GG T.xf_BadWord_place, .inl ⟨rfl,λ dx hdx=> ?_⟩⟩;have nd:dx≠a:=λ z=>by rw [z,ha] at hdx;cases hdx
    refine k dx _ hdx (λ b o e nb=> ?_) Ab ?_
    · have n2:b≠dx:=λ z=>by rw [z,hdx] at e;cases e
      rw [Ai nb,Ai n2];exact e
    · rw [Ai nd,Ab]
theorem JU {a b:Addr} {H:Hp} (h:b≠a):bar a H b=H b:=if_neg h
theorem Ca {c:Cs} {H:Hp} {E:XK} {p:Nat} (hp:p<1000) (h:∀ H' dx,Same H H'->H' dx=some (xdO dx [("place",nV p)])->E (.ref c.BadWord) (some dx) H'):
    ([nV p]:List V).length<=900/\∀ a,H a=none->BJ c (.ref a::[nV p]) (upd H a (xnO a c.BadWord none)) (λ v H2=>v= .non/\∃ od,H2 a=some (xnO a c.BadWord od)/\E (.ref c.BadWord) od (bar a H2)) E0:=by
  refine ⟨by simp,λ a ha=>⟨a,p,rfl,Ab,hp,λ dx H' hdx kp ea ed=>⟨rfl,some dx,ea,?_⟩⟩⟩;have nd:dx≠a:=λ z=>by rw [z,Ab] at hdx;cases hdx
  refine h _ dx (λ b o e=> ?_) ?_
  · have nb:b≠a:=λ z=>by rw [z,ha] at e;cases e
    rw [JU nb];exact kp b o (by rw [Ai nb];exact e) nb
  · rw [JU nd];exact ed
structure SameX (W:Addr->Prop) (H H':Hp):Prop where
  st:∀ b o,H b=some o->¬ W b->H' b=some o
  th:∀ b,H b≠none->H' b≠none
theorem SameX.of {W:Addr->Prop} {H H':Hp} (s:Same H H'):SameX W H H':=⟨λ b o e _=>s b o e,λ b n z=>n (s.free z)⟩
theorem SameX.trans {W:Addr->Prop} {H H1 H2:Hp} (s:SameX W H H1) (t:SameX W H1 H2):SameX W H H2:=⟨λ b o e n=>t.st b o (s.st b o e n) n,λ b n=>t.th b (s.th b n)⟩
theorem SameX.free {W:Addr->Prop} {H H':Hp} (s:SameX W H H') {b:Addr} (n:H' b=none):H b=none:=by
  cases e:H b with
  | none=>rfl
  | some o=>exact absurd n (s.th b (by rw [e];simp))
def BC (fl:Addr) (sL:Sp):Sp:=λ vs H Q _=>∃ (z:Str) (h t a:Addr) (as:List V) (u:List Str) (ts:List V) (fit:Bool) (G:Hp->Prop),vs=[.str z, .ref h, .ref t, .ref fl]/\z.length<=100/\H h=some (.lst (as++[.ref a]))/\H a=some (.lst (u.map V.str))/\H t=some (.lst ts)/\
  (z≠clS->Txt.endswith z opS=false->∀ Q':VK,(∀ H',G H'->Q' (.bl fit) H')->sL [.str z] H Q' E0)/\∀ H',(Same H H'\/G H')->Q (.bl (BL z ts.length u.length fit)) H'
abbrev Cu:Stmt:=top 22
theorem Fw:FnScope ["word","held","times","fits"] ["word","held","times","fits"] (Aj Cu):=⟨rfl,rfl,rfl,by decide +kernel,rfl,by decide +kernel,by decide +kernel⟩
theorem Dd {f:Addr} {fd:FuncData} {fl:Addr} {sL:Sp} (lv:LamV P w K mg base 1 fl sL) (F:Fun K "can_stand" "can_stand" Cu f fd) (T:Txt K mg c) (c_times_of:CallF P w K mg base "times_of" 4 ["word"] Co):FnOk P w K mg base CX0 5 f fd ["word","held","times","fits"] (BC fl sL):=by
  refine F.ok Fw (λ vs H Q E h=> ?_) (λ cdv A outer s H vs Q E hr h=> ?_)
  · obtain ⟨z,h,t,a,as,u,ts,fit,G,rfl,_⟩:=h;rfl
  · obtain ⟨z,h,t,a,as,u,ts,fit,G,rfl,hz,hh,ha,ht,hf,k⟩:=h;refine ⟨_,(Ad (Ax (Al BH (pv 0) (Ff T.k_CLOSING) (Ap _)) (Ah (Aq (GB (Bv Ci (Ak (AL (K:=K)) rfl (T.own _ (by decide)) boot_len (Aa (pv 2) Ac)) Ag (Ap _)) (GN (Bv Ci (Ak (AL (K:=K)) rfl (T.own _ (by decide)) boot_len (Aa (A9 (Cr (K:=K)) (pv 1) (EV Dm Ag) (λ _ _=>rfl)) Ac)) Ag (Ap _)))))) As)
      (Ad (Ax (AZ (Bl (K:=K) PySem.F.plainAttrs_str PySem.F.slot_str_endswith PySem.F.type_str_endswith Cc (pv 0) (Aa (Ff T.k_OPENING) Ac))) (Ah (Aq (Bv DR (Ao c_times_of hr (Aa (pv 0) Ac)) AQ (Ap _)))) As)
      (Ah (Aq (JX lv (hr.mono (by decide)) (pv 3) (Aa (pv 0) Ac)))))),?_⟩
    walk_at "w";refine AJ (λ h1=> ?_) (λ h1=> ?_)
    · have e:BL z ts.length u.length fit=(decide (0<ts.length)&&decide (0<u.length)):=if_pos h1;rw [e] at k;walk_at "w";refine AI (SqL.of ht) ?_;walk_at "w";refine AJ (λ h2=> ?_) (λ h2=> ?_)
      · walk_at "w";refine Bm (SqL.of hh) Ec ?_;walk_at "w";refine AI (SqL.of ha) ?_;walk_at "w";rw [List.length_map];have e2:decide ((0:Int)<((u.length:Nat):Int))=(decide (0<ts.length)&&decide (0<u.length)):=by
          rw [decide_eq_true (by omega:0<ts.length),Bool.true_and];exact decide_eq_decide.mpr (by omega)
        rw [e2];exact k H (.inl (Same.refl _))
      · have e2:(decide (0<ts.length)&&decide (0<u.length))=false:=by rw [decide_eq_false (by omega),Bool.false_and]
        rw [e2] at k;exact k H (.inl (Same.refl _))
    walk_at "w";refine ⟨rfl,?_⟩;walk_at "w";refine ⟨_,_,rfl,rfl,?_⟩;walk_at "w";refine Ga (λ h2=> ?_) (λ h2=> ?_)
    · have e:BL z ts.length u.length fit= !decide (Bp z= .non):=(if_neg h1).trans (if_pos h2);rw [e] at k;walk_at "w";refine ⟨z,rfl,hz,λ H1 s1=> ?_⟩;walk_at "w";exact ⟨rfl,k H1 (.inl s1)⟩
    · have e:BL z ts.length u.length fit=fit:=(if_neg h1).trans (if_neg (by rw [show Txt.endswith z opS=false from h2];decide));rw [e] at k;walk_at "w";refine Jr ?_;walk_at "w";refine ⟨rfl,?_⟩;walk_at "w";exact ⟨_,rfl,hf h1 h2 _ λ H' g=>k H' (.inr g)⟩
abbrev M0:MFew.Sm Str:=⟨[[]],[],0⟩
abbrev rn (fits:Str->Bool) (mx:Nat) (ws:List Str):Option (MFew.Sm Str):=MFew.run clS tms fits mx M0 ws
def Bb (fits:Str->Bool) (mx:Nat) (ws:List Str) (p:Nat):Prop:=(∃ s,1<=p/\p<=ws.length/\rn fits mx (ws.take (p - 1))=some s/\MFew.step clS tms fits mx s (ws.getD (p - 1) "")=none)\/(p=ws.length+1/\∃ s,rn fits mx ws=some s/\(s.times≠[]\/ws=[]))
theorem DT {fits:Str->Bool} {mx:Nat} {ws:List Str} {i:Nat} {s:MFew.Sm Str} (hi:i<ws.length) (hs:rn fits mx (ws.take i)=some s):rn fits mx (ws.take (i+1))=MFew.step clS tms fits mx s (ws.getD i ""):=by
  have eg:ws.getD i ""=ws[i]:=by rw [List.getD_eq_getElem?_getD,List.getElem?_eq_getElem hi];rfl
  have e2:ws.take (i+1)=ws.take i++[ws[i]]:=by rw [List.take_succ,List.getElem?_eq_getElem hi];rfl
  unfold rn;rw [eg,e2,MFew.run_app,show MFew.run clS tms fits mx M0 (ws.take i)=some s from hs];simp only [MFew.run];cases MFew.step clS tms fits mx s ws[i] <;> rfl
theorem G6 {fits:Str->Bool} {mx:Nat} {u:List Str} {st:List (List Str)} {ts:List Nat} {c:Nat} {z:Str} (h:BL z ts.length u.length (fits z)=false):MFew.step clS tms fits mx ⟨u::st,ts,c⟩ z=none:=by
  unfold BL at h;unfold MFew.step;by_cases h1:z=clS
  · rw [if_pos h1] at h ⊢;split
    · rename_i u' v st' t ts' e1 e2
      simp only at e1 e2;cases e1;subst e2;rw [List.length_cons,decide_eq_true (by omega),Bool.true_and,decide_eq_false_iff_not] at h;rw [if_neg];rintro ⟨q,_⟩;exact h (List.length_pos_iff.mpr q)
    · rfl
  · rw [if_neg h1] at h ⊢;unfold tms;by_cases h2:Txt.endswith z opS=true
    · rw [if_pos h2] at h ⊢;have:Bp z= .non:=by simpa using h
      rw [this]
    · rw [if_neg h2] at h ⊢;simp only;rw [if_neg];rintro ⟨q,_⟩;rw [q] at h;cases h
theorem JF {fits:Str->Bool} {u:List Str} {st:List (List Str)} {ts:List Nat} {c:Nat} {z:Str} (h:BL z ts.length u.length (fits z)=true) (dp:st.length=ts.length) (cu:u.length<=c) (c60:c<=60) (tm:∀ n∈ts,2<=n/\n<=60):
    ∃ s',MFew.step clS tms fits 100000 ⟨u::st,ts,c⟩ z=some s'/\s'.held.length<=st.length+2/\∀ mx,c<=mx->(s'.count<=mx->MFew.step clS tms fits mx ⟨u::st,ts,c⟩ z=some s')/\(mx<s'.count->MFew.step clS tms fits mx ⟨u::st,ts,c⟩ z=none):=by
  unfold BL at h;unfold MFew.step;by_cases h1:z=clS
  · rw [if_pos h1] at h;rw [Bool.and_eq_true,decide_eq_true_iff,decide_eq_true_iff] at h
    match ts,st,h,dp,tm with
    | t::ts,v::st,h,dp,tm=>
      have ht:=tm t List.mem_cons_self;have hm:u.length*(t - 1)<=60*59:=Nat.mul_le_mul (by omega) (by omega);have hu:u≠[]:=List.length_pos_iff.mp h.2;refine ⟨⟨(v++MFew.rep u t)::st,ts,c+u.length*(t - 1)⟩,?_,?_,λ mx hc=>⟨λ q=> ?_,λ q=> ?_⟩⟩
      · rw [if_pos h1];exact if_pos ⟨hu,by show c+u.length*(t - 1)<=100000;omega⟩
      · simp only [List.length_cons];omega
      · rw [if_pos h1];exact if_pos ⟨hu,q⟩
      · rw [if_pos h1];exact if_neg λ w=>by have:=w.2;simp only at this q;omega
    | [],_,h,_,_=>exact absurd h.1 (by simp)
    | _::_,[],_,dp,_=>simp at dp
  · rw [if_neg h1] at h;unfold tms;by_cases h2:Txt.endswith z opS=true
    · rw [if_pos h2] at h;rcases BN z with e | ⟨n,e,n2,n60⟩
      · rw [e] at h;cases h
      · refine ⟨⟨[]::u::st,n::ts,c⟩,?_,by simp only [List.length_cons];omega,λ mx hc=>⟨λ q=> ?_,λ q=> ?_⟩⟩
        · rw [if_neg h1,if_pos h2,e];exact if_pos (by show c<=100000;omega)
        · rw [if_neg h1,if_pos h2,e];exact if_pos hc
        · exact absurd hc (by simp only at q;omega)
    · rw [if_neg h2] at h;refine ⟨⟨(u++[z])::st,ts,c+1⟩,?_,by simp only [List.length_cons];omega,λ mx hc=>⟨λ q=> ?_,λ q=> ?_⟩⟩
      · rw [if_neg h1,if_neg h2];exact if_pos ⟨h,by show c+1<=100000;omega⟩
      · rw [if_neg h1,if_neg h2];exact if_pos ⟨h,q⟩
      · rw [if_neg h1,if_neg h2];exact if_neg λ w=>by have:=w.2;simp only at this q;omega
theorem Stk.onX {W:Addr->Prop} {H H':Hp} {h t:Addr} {as:List Addr} {s:MFew.Sm Str} (K:Stk H h t as s) (k:SameX W H H') (nh:¬ W h) (nt:¬ W t) (na:∀ b∈as,¬ W b):Stk H' h t as s:=⟨k.st _ _ K.hh nh,k.st _ _ K.ht nt,K.hs.on λ a ha o e=>k.st a o e (na a ha),K.nd,K.nh,K.nt,K.ne,K.tm,K.sm,K.dp,K.up⟩
def BU (K:PySem.W.Frag) (c:Cs) (fl:Addr) (sL:Sp):Sp:=λ vs H Q E=>∃ (a:Addr) (ws:List Str) (mx:Nat) (fits:Str->Bool) (W:Addr->Prop) (J:Nat->Hp->Prop),vs=[.ref a,nV mx, .ref fl]/\SqL K H a (ws.map V.str)/\ws.length<=300/\(∀ z∈ws,z.length<=100)/\mx<=60/\(∀ b,W b->H b≠none)/\J 0 H/\(∀ n H,J n H->J (n+1) H)/\(∀ n H H',(∀ b o,W b->H b=some o->H' b=some o)->J n H->J n H')/\
  (∀ z∈ws,z≠clS->Txt.endswith z opS=false->∀ n H' (Q':VK),SameX W H H'->J n H'->n<ws.length->(∀ H'',SameX W H' H''->J (n+1) H''->Q' (.bl (fits z)) H'')->sL [.str z] H' Q' E0)/\
  (∀ out cn H' p,rn fits mx ws=some ⟨[out],[],cn⟩->ws≠[]->SameX W H H'->J ws.length H'->H p=none->H' p=some (.lst (out.map V.str))->Q (.ref p) H')/\
  (∀ p H' dx n,Bb fits mx ws p->SameX W H H'->J n H'->n<=ws.length->H' dx=some (xdO dx [("place",nV p)])->E (.ref c.BadWord) (some dx) H')
abbrev EC:Stmt:=top 24
theorem sc_spread:FnScope ["words","most","fits","row","held","times","count","place","word"] ["words","most","fits"] (Aj EC):=⟨rfl,rfl,rfl,by decide +kernel,rfl,by decide +kernel,by decide +kernel⟩
theorem Hq {f:Addr} {fd:FuncData} {fl:Addr} {sL:Sp} (lv:LamV P w K mg base 1 fl sL) (F:Fun K "spread" "spread" EC f fd) (T:Txt K mg c) (c_can_stand:CallF P w K mg base "can_stand" 5 ["word","held","times","fits"] (BC fl sL)) (c_taken:CallF P w K mg base "taken" 5 ["word","held","times"] Gc) (m_BadWord:FC P w K mg base "BadWord" c.BadWord 1 ["self","place"] (BJ c)):FnOk P w K mg base (CXE P w) 6 f fd ["words","most","fits"] (BU K c fl sL):=by
  refine Fun.okE F sc_spread (λ vs H Q E h=> ?_) (λ cdv A outer s H vs Q E hr h=> ?_)
  · obtain ⟨a,ws,mx,fits,W,J,rfl,_⟩:=h;rfl
  · obtain ⟨a,ws,mx,fits,W,J,rfl,sa,hl,hz,hmx,hW,j0,hJ1,hJ2,hf,kQ,kE⟩:=h;refine ⟨_,(Ad (An (i:=3) sc_spread.nd rfl (Or.inl rfl) (Bj (Kc (K:=K)) rfl (T.own _ (by decide)) Bo (Aa (pv 0) Ac)))
      (Ad (An (i:=4) sc_spread.nd rfl (Or.inl rfl) (Av (Aa (Av Ac) Ac)))
      (Ad (An (i:=5) sc_spread.nd rfl (Or.inl rfl) (Av Ac))
      (Ad (An (i:=6) sc_spread.nd rfl (Or.inl rfl) Ag)
      (Ad (Gy PassesOwn.leaving rfl (IL (K:=K) rfl (T.own _ (by decide)) (Aa (pv 3) Ac)) (Nc (K:=K) rfl (Dg (C6 (i:=7) sc_spread.nd rfl (Or.inl rfl)) (Dg (C6 (i:=8) sc_spread.nd rfl (Or.inl rfl)) G8))) (Ad (Ax (Ed (AZ (Ao c_can_stand hr (Aa (pv 8) (Aa (pv 4) (Aa (pv 5) (Aa (pv 2) Ac))))))) (Ah (Dq m_BadWord (hr.mono (by decide)) (Aa (pv 7) Ac))) As)
      (Ad (Mm (i:=6) sc_spread.nd rfl (Or.inl rfl) (Ao c_taken hr (Aa (pv 8) (Aa (pv 4) (Aa (pv 5) Ac)))) Li)
      (Ah (Ax (Al Ci (pv 6) (pv 1) (Ap _)) (Ah (Dq m_BadWord (hr.mono (by decide)) (Aa (pv 7) Ac))) As)))))
      (Ad (Ax (PW.pt (Dj (Al Ci (Ak (AL (K:=K)) rfl (T.own _ (by decide)) boot_len (Aa (pv 5) Ac)) Ag (Ap _)) (CM (Al BH (Ak (AL (K:=K)) rfl (T.own _ (by decide)) boot_len (Aa (pv 3) Ac)) Ag (Ap _))))) (Ah (Dq m_BadWord (hr.mono (by decide)) (Aa (Am AG (Ak (AL (K:=K)) rfl (T.own _ (by decide)) boot_len (Aa (pv 3) Ac)) Ag) Ac))) As)
      (Ah (Aq (A9 (Cr (K:=K)) (pv 4) Ag (λ _ _=>rfl)))))))))),?_⟩
    walk_at "w";refine HE sa λ r hr0=> ?_;have s1:=Ae (o:=HO.lst (ws.map V.str)) hr0;have g1:upd H r (HO.lst (ws.map V.str)) r=_:=Ab;generalize upd H r (HO.lst (ws.map V.str))=H1 at s1 g1 ⊢;walk_at "w";intro p0 hp0;have s2:=Ae (o:=HO.lst []) hp0;have g2:upd H1 p0 (HO.lst []) p0=some (.lst (([]:List Str).map V.str)):=Ab;generalize upd H1 p0 (HO.lst [])=H2 at s2 g2 ⊢;walk_at "w";intro h0 hh0;have s3:=Ae (o:=HO.lst [V.ref p0]) hh0;have g3:upd H2 h0 (HO.lst [V.ref p0]) h0=some (.lst ([p0].reverse.map V.ref)):=Ab;have n30:h0≠p0:=λ z=>by rw [z,g2] at hh0;cases hh0
    generalize upd H2 h0 (HO.lst [V.ref p0])=H3 at s3 g3 ⊢;walk_at "w";intro t0 ht0;have s4:=Ae (o:=HO.lst []) ht0;have g4:upd H3 t0 (HO.lst []) t0=some (.lst (([]:List Nat).reverse.map nV)):=Ab;have n40:t0≠p0:=λ z=>by rw [z,s3 _ _ g2] at ht0;cases ht0
    have n43:h0≠t0:=λ z=>by rw [<-z,g3] at ht0;cases ht0
    generalize upd H3 t0 (HO.lst [])=H4 at s4 g4 ⊢;have s14:=s2.trans (s3.trans s4);have fh:H1 h0=none:=s2.free hh0;have ft:H1 t0=none:=s2.free (s3.free ht0);have nW:∀ {b:Addr},H1 b=none->¬ W b:=λ n w=>hW _ w (s1.free n);have nWr:¬ W r:=λ w=>hW _ w hr0;have K0:Stk H4 h0 t0 [p0] ⟨[[]],[],0⟩:=⟨s4 _ _ g3,g4,⟨s4 _ _ (s3 _ _ g2),trivial⟩,List.nodup_cons.mpr ⟨by simp,List.nodup_nil⟩,by simpa using n30,by simpa using n40,n43,λ n hn=>(nomatch hn),rfl,rfl,by decide⟩;have jS:∀ {n H H'},Same H H'->J n H->J n H':=λ s j=>hJ2 _ _ _ (λ b o _ e=>s b o e) j;walk_at "w";refine ⟨false,r,rfl,⟨_,SqL.of (s14 _ _ g1)⟩,EH (H0:=λ b=>if b=r then some (.lst (ws.map V.str)) else none) (JM (tp:=false) (SqL.of (if_pos rfl))) (λ i σ H5=>∃ x y as s,σ=[some (.ref a),some (nV mx),some (.ref fl),some (.ref r),some (.ref h0),some (.ref t0),some (nV s.count),x,y]/\SameX W H1 H5/\Stk H5 h0 t0 as s/\s.count<=mx/\s.held.length<=1+i/\rn fits mx (ws.take i)=some s/\(∀ b∈as,H1 b=none)/\J i H5)
      ⟨_,_,[p0],⟨[[]],[],0⟩,rfl, .of s14,K0,Nat.zero_le _,by decide,rfl,by simpa using hp0,jS (s1.trans s14) j0⟩ (λ i σ H5 ⟨_,_,_,_,_,s,_⟩ b o e=> ?_) ?_ ?_⟩
    · have e:(if b=r then some (HO.lst (ws.map V.str)) else none)=some o:=e;by_cases cb:b=r
      · rw [if_pos cb] at e;cases e;rw [cb];exact s.st _ _ g1 nWr
      · rw [if_neg cb] at e;cases e
    · rintro i σ H5 H6 hi ⟨x,y,as,s0,rfl,s5,K5,c5,l5,r5,n5,j5⟩ s6;rw [List.length_map] at hi;have eg:(ws.map V.str).getD i .non= .str (ws.getD i ""):=by
        rw [List.getD_eq_getElem?_getD,List.getElem?_map,List.getD_eq_getElem?_getD,List.getElem?_eq_getElem hi];rfl
      rw [eg];have hm:ws.getD i ""∈ws:=by
        rw [List.getD_eq_getElem?_getD,List.getElem?_eq_getElem hi];exact List.getElem_mem hi
      have rs:=DT hi r5;have er:MFew.step clS tms fits mx s0 (ws.getD i "")=none->Bb fits mx ws (i+1):=λ q=> .inl ⟨s0,by omega,by omega,by rw [Nat.add_sub_cancel];exact r5,by rw [Nat.add_sub_cancel];exact q⟩;generalize ws.getD i ""=z at rs hm er ⊢;obtain ⟨held,times,count⟩:=s0;have K6:=K5.onX (W:=λ _=>False) (.of s6) id id λ _ _=>id;have s16:SameX W H1 H6:=s5.trans (.of s6);have j6:=jS s6 j5
      match as,held,K5.hs,K5.dp with
      | [],[],_,dp=>exact absurd (show 0=times.length+1 from dp) (by omega)
      | a0::as,u::st,_,dp=>
        have hz6:=hz z hm;have dp':st.length=times.length:=by simpa using dp
        have sm:=K5.sm;simp only [List.map_cons,List.sum_cons] at sm;walk_at "w";have eL:((a0::as).reverse.map V.ref)=as.reverse.map V.ref++[.ref a0]:=by rw [List.reverse_cons,List.map_append];rfl
        refine ⟨z,h0,t0,a0,as.reverse.map V.ref,u,times.reverse.map nV,fits z,λ H'=>SameX W H6 H'/\J (i+1) H',rfl,hz6,by rw [<-eL];exact K6.hh,K6.hs.1,K6.ht,λ q1 q2 Q' q=>hf z hm q1 q2 i H6 Q' ((SameX.of s1).trans s16) j6 hi λ H'' a b=>q H'' ⟨a,b⟩,λ H7 g7=> ?_⟩;have s7:SameX W H6 H7:=g7.elim .of (·.1);have j7:J (i+1) H7:=g7.elim (λ s=>hJ1 _ _ (jS s j6)) (·.2);have s17:=s16.trans s7;rw [List.length_map,List.length_reverse];have K7:=K6.onX s7 (nW fh) (nW ft) λ b hb=>nW (n5 b hb);cases hb:BL z times.length u.length (fits z) with
        | false=>
          walk_at "w";refine Dr ?_;walk_at "w";exact Ca (by omega) λ H' dx s' ed=>kE (i+1) H' dx (i+1) (er (G6 hb)) ((SameX.of s1).trans (s17.trans (.of s'))) (jS s' j7) (by omega) ed
        | true=>
          obtain ⟨s',hst,hl',cut⟩:=JF (c:=count) (st:=st) hb dp' (by omega) (by show count<=60;have:count<=mx:=c5;omega) K5.tm;obtain ⟨cut1,cut2⟩:=cut mx c5;walk_at "w";refine ME rfl ?_;walk_at "w";refine ⟨z,h0,t0,a0::as,_,s',fits,100000,rfl,hz6,K7,by simp only [List.length_cons] at l5 ⊢;omega,by show count<=60;have:count<=mx:=c5;omega,by decide,hst,λ H8 as' fr mem K8=> ?_⟩;have ne1:∀ {b:Addr},H1 b≠none->b≠h0/\b≠t0/\b∉a0::as:=λ n=>⟨λ q=>n (q▸fh),λ q=>n (q▸ft),λ q=>n (n5 _ q)⟩;have s18:SameX W H1 H8:=⟨λ b o e nw=>fr b o (ne1 (by rw [e];simp)).1 (ne1 (by rw [e];simp)).2.1 (ne1 (by rw [e];simp)).2.2 (s17.st _ _ e nw),λ b n=>by
            cases e:H7 b with
            | none=>exact absurd e (s17.th b n)
            | some o=>rw [fr b o (ne1 n).1 (ne1 n).2.1 (ne1 n).2.2 e];simp⟩
          have j8:J (i+1) H8:=hJ2 _ _ _ (λ b o w e=>fr b o (λ q=>nW fh (q▸w)) (λ q=>nW ft (q▸w)) (λ q=>nW (n5 b q) w) e) j7;walk_at "w";have e9:((count:Nat):Int)+(((s'.count:Nat):Int) - ((count:Nat):Int))=((s'.count:Nat):Int):=by omega
          simp only [e9];refine AJ (λ q=> ?_) (λ q=> ?_)
          · walk_at "w";refine Dr ?_;walk_at "w";exact Ca (by omega) λ H' dx s9 ed=>kE (i+1) H' dx (i+1) (er (cut2 (by omega))) ((SameX.of s1).trans (s18.trans (.of s9))) (jS s9 j8) (by omega) ed
          · walk_at "w";refine ⟨_,_,as',s',rfl,s18,K8,by omega,?_,rs.trans (cut1 (by omega)),λ b hb=> ?_,j8⟩
            · simp only [List.length_cons] at l5;omega
            · rcases mem b hb with q' | q'
              · exact n5 b q'
              · exact s17.free q'
    · rintro σ H5 ⟨x,y,as,s0,rfl,s5,K5,c5,l5,r5,n5,j5⟩;rw [List.length_map] at r5 j5;rw [List.take_length] at r5;have k5:rn fits mx ws=some s0:=r5;obtain ⟨held,times,count⟩:=s0;have sX:=(SameX.of (W:=W) s1).trans s5;walk_at "w";refine AI (SqL.of K5.ht) ?_;walk_at "w";rw [List.length_map,List.length_reverse];have er:(times≠[]\/ws=[])->Bb fits mx ws (ws.length+1):=λ q=> .inr ⟨rfl,_,k5,q⟩;have bad:∀ D:Ends,(times≠[]\/ws=[])->∀ H6,Same H5 H6->DP E c.BadWord (BJ c) (Gb (tOp (rI0 λ i j=> .int (i+j)) (tCB (Ki K) (Gb (Ia 3) Kd)) (tC (.int 1))) Kd) D [some (.ref a),some (nV mx),some (.ref fl),some (.ref r),some (.ref h0),some (.ref t0),some (nV count),x,y] H6:=λ D q H6 s6=>by
        refine Dr ?_;walk_at "w";refine AI (SqL.of (s6 _ _ (s5.st _ _ g1 nWr))) ?_;walk_at "w";rw [List.length_map];exact Ca (p:=ws.length+1) (by omega) λ H' dx s9 ed=>kE _ H' dx _ (er q) (sX.trans (.of (s6.trans s9))) (jS (s6.trans s9) j5) (Nat.le_refl _) ed
      refine AJ (λ q=> ?_) (λ q=> ?_)
      · refine IU ?_;exact bad _ (.inl (List.length_pos_iff.mp (by simpa using q))) H5 (Same.refl _)
      have t0':times=[]:=by simpa using q
      walk_at "w";refine AI (SqL.of (s5.st _ _ g1 nWr)) ?_;walk_at "w";rw [List.length_map];refine AJ (λ q2=> ?_) (λ q2=> ?_)
      · exact bad _ (.inr (List.length_eq_zero_iff.mp (by omega))) H5 (Same.refl _)
      walk_at "w";subst t0';have dp:=K5.dp
      match as,held,K5,dp,k5 with
      | [p],[out],K5,_,k5=>
        refine Bm (SqL.of K5.hh) (v:= .ref p) rfl ?_;exact kQ out count H5 p k5 (λ z=>q2 (by rw [z];rfl)) sX j5 (s1.free (n5 p (by simp))) K5.hs.1
      | [],[out],K5,_,_=>exact absurd K5.hs id
      | _::_::_,[out],K5,_,_=>exact absurd K5.hs.2 id
      | _,[],_,dp,_=>cases dp
      | _,_::_::_,_,dp,_=>exact absurd dp (by simp)
structure KindF (K:PySem.W.Frag) (c:Cs) (C:Addr) (j:Nat):Prop where
  lt:j<8
  xk:HT.ExcKind K C
  k0:PySem.W.kitOne K (.ref C) (.ref c.BadRow)=some (decide (j=0))
  k1:PySem.W.kitOne K (.ref C) (.ref c.BadWord)=some (decide (j=1))
  k2:PySem.W.kitOne K (.ref C) (.ref c.TooMany)=some (decide (j=2))
  k3:PySem.W.kitOne K (.ref C) (.ref c.NotPlain)=some (decide (j=3))
  k4:PySem.W.kitOne K (.ref C) (.ref c.NotGrown)=some (decide (j=4))
  k5:PySem.W.kitOne K (.ref C) (.ref c.BadDraft)=some (decide (j=5))
  k6:PySem.W.kitOne K (.ref C) (.ref c.BadCloth)=some (decide (j=6))
  k7:PySem.W.kitOne K (.ref C) (.ref c.OutOfPlace)=some (decide (j=7))
  kv:PySem.W.kitOne K (.ref C) (.type "ValueError")=some true
def nmK (j:Nat):Str:=[("row":Str),("word":Str),("many":Str),("plain":Str),("grown":Str),("draft":Str),("cloth":Str),("place":Str),("other":Str)].getD j ""
def CG (K:PySem.W.Frag) (c:Cs):Sp:=λ vs H Q _=>∃ a C od j,vs=[.ref a]/\H a=some (B4 a C od)/\KindF K c C j/\∀ H' l,Same H H'->H l=none->H' l=some (.lst [.str (nmK j)])->Q (.ref l) H'
theorem Mj (j:Nat) (h:j<8):((List.range 9).filter λ i=>decide (i=j)).map (λ i=>Dt.str (nmK i))=[nmK j].map Dt.str:=by
  match j,h with
  | 0,_=>rfl
  | 1,_=>rfl
  | 2,_=>rfl
  | 3,_=>rfl
  | 4,_=>rfl
  | 5,_=>rfl
  | 6,_=>rfl
  | 7,_=>rfl
abbrev B2:Stmt:=top 27
theorem sc__law_kinds:FnScope ["_law_error","_law_kinds_here"] ["_law_error"] (Aj B2):=⟨rfl,rfl,rfl,by decide +kernel,rfl,by decide +kernel,by decide +kernel⟩
theorem EL {f:Addr} {fd:FuncData} (F:Fun K "_law_kinds" "_law_kinds" B2 f fd) (T:Txt K mg c):FnOk P w K mg base CX0 1 f fd ["_law_error"] (CG K c):=by
  refine F.ok sc__law_kinds (λ vs H Q E h=> ?_) (λ cdv A outer s H vs Q E hr h=> ?_)
  · obtain ⟨a,C,od,j,rfl,_⟩:=h;rfl
  · obtain ⟨a,C,od,j,rfl,ha,F1,k⟩:=h;refine ⟨_,(Ad (An (i:=1) sc__law_kinds.nd rfl (Or.inl rfl) (Av (Aa (BV (Aa Af (Aa (Ak (Be (K:=K)) rfl (T.own _ (by decide)) boot_isinstance (Aa (pv 0) (Aa (DB T.g_BadRow) Ac))) Ac))) (Aa (BV (Aa Af (Aa (Ak (Be (K:=K)) rfl (T.own _ (by decide)) boot_isinstance (Aa (pv 0) (Aa (DB T.g_BadWord) Ac))) Ac))) Ac))))
      (Ad (An (i:=1) sc__law_kinds.nd rfl (Or.inl rfl) (Am (BI (K:=K)) (pv 1) (Av (Aa (BV (Aa Af (Aa (Ak (Be (K:=K)) rfl (T.own _ (by decide)) boot_isinstance (Aa (pv 0) (Aa (DB T.g_TooMany) Ac))) Ac))) (Aa (BV (Aa Af (Aa (Ak (Be (K:=K)) rfl (T.own _ (by decide)) boot_isinstance (Aa (pv 0) (Aa (DB T.g_NotPlain) Ac))) Ac))) Ac)))))
      (Ad (An (i:=1) sc__law_kinds.nd rfl (Or.inl rfl) (Am (BI (K:=K)) (pv 1) (Av (Aa (BV (Aa Af (Aa (Ak (Be (K:=K)) rfl (T.own _ (by decide)) boot_isinstance (Aa (pv 0) (Aa (DB T.g_NotGrown) Ac))) Ac))) (Aa (BV (Aa Af (Aa (Ak (Be (K:=K)) rfl (T.own _ (by decide)) boot_isinstance (Aa (pv 0) (Aa (DB T.g_BadDraft) Ac))) Ac))) Ac)))))
      (Ad (An (i:=1) sc__law_kinds.nd rfl (Or.inl rfl) (Am (BI (K:=K)) (pv 1) (Av (Aa (BV (Aa Af (Aa (Ak (Be (K:=K)) rfl (T.own _ (by decide)) boot_isinstance (Aa (pv 0) (Aa (DB T.g_BadCloth) Ac))) Ac))) (Aa (BV (Aa Af (Aa (Ak (Be (K:=K)) rfl (T.own _ (by decide)) boot_isinstance (Aa (pv 0) (Aa (DB T.g_OutOfPlace) Ac))) Ac))) Ac)))))
      (Ad (An (i:=1) sc__law_kinds.nd rfl (Or.inl rfl) (Am (BI (K:=K)) (pv 1) (Av (Aa (BV (Aa Af (Aa (Jf (Ak (Be (K:=K)) rfl (T.own _ (by decide)) boot_isinstance (Aa (pv 0) (Aa (Dy rfl (T.own _ (by decide)) DN) Ac)))) Ac))) Ac))))
      (Ah (Aq (J6 (K:=K) (Hf (K:=K) (pv 1)) (λ _ _ _ _=>(Fj (AZ (pv 1)))) (λ _ _ _ _=>(pv 0)))))))))),?_⟩
    walk_at "w";refine A6 ((Same.refl H) _ _ ha) F1.xk F1.k0 ?_;walk_at "w";intro t_row ht_row;have z1:=Ae (o:=HO.tup [V.str "row",V.bl (decide (j=0))]) ht_row;have g_t_row:upd H t_row (HO.tup [V.str "row",V.bl (decide (j=0))]) t_row=_:=Ab;generalize upd H t_row (HO.tup [V.str "row",V.bl (decide (j=0))])=H1 at z1 g_t_row ⊢;have y1:Same H H1:=(Same.refl H).trans z1;walk_at "w";refine A6 (y1 _ _ ha) F1.xk F1.k1 ?_;walk_at "w";intro t_word ht_word;have z2:=Ae (o:=HO.tup [V.str "word",V.bl (decide (j=1))]) ht_word;have g_t_word:upd H1 t_word (HO.tup [V.str "word",V.bl (decide (j=1))]) t_word=_:=Ab;generalize upd H1 t_word (HO.tup [V.str "word",V.bl (decide (j=1))])=H2 at z2 g_t_word ⊢;have y2:Same H H2:=y1.trans z2;walk_at "w";intro l0 hl0;have z3:=Ae (o:=HO.lst [V.ref t_row,V.ref t_word]) hl0;have g_l0:upd H2 l0 (HO.lst [V.ref t_row,V.ref t_word]) l0=_:=Ab;generalize upd H2 l0 (HO.lst [V.ref t_row,V.ref t_word])=H3 at z3 g_l0 ⊢;have y3:Same H H3:=y2.trans z3;walk_at "w";refine A6 (y3 _ _ ha) F1.xk F1.k2 ?_;walk_at "w";intro t_many ht_many;have z4:=Ae (o:=HO.tup [V.str "many",V.bl (decide (j=2))]) ht_many;have g_t_many:upd H3 t_many (HO.tup [V.str "many",V.bl (decide (j=2))]) t_many=_:=Ab;generalize upd H3 t_many (HO.tup [V.str "many",V.bl (decide (j=2))])=H4 at z4 g_t_many ⊢;have y4:Same H H4:=y3.trans z4;walk_at "w";refine A6 (y4 _ _ ha) F1.xk F1.k3 ?_;walk_at "w";intro t_plain ht_plain;have z5:=Ae (o:=HO.tup [V.str "plain",V.bl (decide (j=3))]) ht_plain;have g_t_plain:upd H4 t_plain (HO.tup [V.str "plain",V.bl (decide (j=3))]) t_plain=_:=Ab;generalize upd H4 t_plain (HO.tup [V.str "plain",V.bl (decide (j=3))])=H5 at z5 g_t_plain ⊢;have y5:Same H H5:=y4.trans z5;walk_at "w";intro l1 hl1;have z6:=Ae (o:=HO.lst [V.ref t_many,V.ref t_plain]) hl1;have g_l1:upd H5 l1 (HO.lst [V.ref t_many,V.ref t_plain]) l1=_:=Ab;generalize upd H5 l1 (HO.lst [V.ref t_many,V.ref t_plain])=H6 at z6 g_l1 ⊢;have y6:Same H H6:=y5.trans z6;walk_at "w";refine BD (SqL.of (z6 _ _ (z5 _ _ (z4 _ _ g_l0)))) (SqL.of g_l1) (by simp) λ m1 hm1=> ?_;have z7:=Ae (o:=HO.lst ([V.ref t_row,V.ref t_word]++[V.ref t_many,V.ref t_plain])) hm1;have g_m1:upd H6 m1 (HO.lst ([V.ref t_row,V.ref t_word]++[V.ref t_many,V.ref t_plain])) m1=some (.lst [V.ref t_row,V.ref t_word,V.ref t_many,V.ref t_plain]):=Ab;generalize upd H6 m1 (HO.lst ([V.ref t_row,V.ref t_word]++[V.ref t_many,V.ref t_plain]))=H7 at z7 g_m1 ⊢;have y7:Same H H7:=y6.trans z7;walk_at "w";refine A6 (y7 _ _ ha) F1.xk F1.k4 ?_;walk_at "w";intro t_grown ht_grown;have z8:=Ae (o:=HO.tup [V.str "grown",V.bl (decide (j=4))]) ht_grown;have g_t_grown:upd H7 t_grown (HO.tup [V.str "grown",V.bl (decide (j=4))]) t_grown=_:=Ab;generalize upd H7 t_grown (HO.tup [V.str "grown",V.bl (decide (j=4))])=H8 at z8 g_t_grown ⊢;have y8:Same H H8:=y7.trans z8;walk_at "w";refine A6 (y8 _ _ ha) F1.xk F1.k5 ?_;walk_at "w";intro t_draft ht_draft;have z9:=Ae (o:=HO.tup [V.str "draft",V.bl (decide (j=5))]) ht_draft;have g_t_draft:upd H8 t_draft (HO.tup [V.str "draft",V.bl (decide (j=5))]) t_draft=_:=Ab;generalize upd H8 t_draft (HO.tup [V.str "draft",V.bl (decide (j=5))])=H9 at z9 g_t_draft ⊢;have y9:Same H H9:=y8.trans z9;walk_at "w";intro l2 hl2;have z10:=Ae (o:=HO.lst [V.ref t_grown,V.ref t_draft]) hl2;have g_l2:upd H9 l2 (HO.lst [V.ref t_grown,V.ref t_draft]) l2=_:=Ab;generalize upd H9 l2 (HO.lst [V.ref t_grown,V.ref t_draft])=H10 at z10 g_l2 ⊢;have y10:Same H H10:=y9.trans z10;walk_at "w";refine BD (SqL.of (z10 _ _ (z9 _ _ (z8 _ _ g_m1)))) (SqL.of g_l2) (by simp) λ m2 hm2=> ?_;have z11:=Ae (o:=HO.lst ([V.ref t_row,V.ref t_word,V.ref t_many,V.ref t_plain]++[V.ref t_grown,V.ref t_draft])) hm2;have g_m2:upd H10 m2 (HO.lst ([V.ref t_row,V.ref t_word,V.ref t_many,V.ref t_plain]++[V.ref t_grown,V.ref t_draft])) m2=some (.lst [V.ref t_row,V.ref t_word,V.ref t_many,V.ref t_plain,V.ref t_grown,V.ref t_draft]):=Ab;generalize upd H10 m2 (HO.lst ([V.ref t_row,V.ref t_word,V.ref t_many,V.ref t_plain]++[V.ref t_grown,V.ref t_draft]))=H11 at z11 g_m2 ⊢;have y11:Same H H11:=y10.trans z11;walk_at "w";refine A6 (y11 _ _ ha) F1.xk F1.k6 ?_;walk_at "w";intro t_cloth ht_cloth;have z12:=Ae (o:=HO.tup [V.str "cloth",V.bl (decide (j=6))]) ht_cloth;have g_t_cloth:upd H11 t_cloth (HO.tup [V.str "cloth",V.bl (decide (j=6))]) t_cloth=_:=Ab;generalize upd H11 t_cloth (HO.tup [V.str "cloth",V.bl (decide (j=6))])=H12 at z12 g_t_cloth ⊢;have y12:Same H H12:=y11.trans z12;walk_at "w";refine A6 (y12 _ _ ha) F1.xk F1.k7 ?_;walk_at "w";intro t_place ht_place;have z13:=Ae (o:=HO.tup [V.str "place",V.bl (decide (j=7))]) ht_place;have g_t_place:upd H12 t_place (HO.tup [V.str "place",V.bl (decide (j=7))]) t_place=_:=Ab;generalize upd H12 t_place (HO.tup [V.str "place",V.bl (decide (j=7))])=H13 at z13 g_t_place ⊢;have y13:Same H H13:=y12.trans z13;walk_at "w";intro l3 hl3;have z14:=Ae (o:=HO.lst [V.ref t_cloth,V.ref t_place]) hl3;have g_l3:upd H13 l3 (HO.lst [V.ref t_cloth,V.ref t_place]) l3=_:=Ab;generalize upd H13 l3 (HO.lst [V.ref t_cloth,V.ref t_place])=H14 at z14 g_l3 ⊢;have y14:Same H H14:=y13.trans z14;walk_at "w";refine BD (SqL.of (z14 _ _ (z13 _ _ (z12 _ _ g_m2)))) (SqL.of g_l3) (by simp) λ m3 hm3=> ?_;have z15:=Ae (o:=HO.lst ([V.ref t_row,V.ref t_word,V.ref t_many,V.ref t_plain,V.ref t_grown,V.ref t_draft]++[V.ref t_cloth,V.ref t_place])) hm3;have g_m3:upd H14 m3 (HO.lst ([V.ref t_row,V.ref t_word,V.ref t_many,V.ref t_plain,V.ref t_grown,V.ref t_draft]++[V.ref t_cloth,V.ref t_place])) m3=some (.lst [V.ref t_row,V.ref t_word,V.ref t_many,V.ref t_plain,V.ref t_grown,V.ref t_draft,V.ref t_cloth,V.ref t_place]):=Ab;generalize upd H14 m3 (HO.lst ([V.ref t_row,V.ref t_word,V.ref t_many,V.ref t_plain,V.ref t_grown,V.ref t_draft]++[V.ref t_cloth,V.ref t_place]))=H15 at z15 g_m3 ⊢;have y15:Same H H15:=y14.trans z15;walk_at "w";refine Ig (y15 _ _ ha) F1.xk F1.kv ?_;walk_at "w";intro t_other ht_other;have z16:=Ae (o:=HO.tup [V.str "other",V.bl (!true)]) ht_other;have g_t_other:upd H15 t_other (HO.tup [V.str "other",V.bl (!true)]) t_other=some (.tup [V.str "other",V.bl false]):=Ab;generalize upd H15 t_other (HO.tup [V.str "other",V.bl (!true)])=H16 at z16 g_t_other ⊢;have y16:Same H H16:=y15.trans z16;walk_at "w";intro l4 hl4;have z17:=Ae (o:=HO.lst [V.ref t_other]) hl4;have g_l4:upd H16 l4 (HO.lst [V.ref t_other]) l4=_:=Ab;generalize upd H16 l4 (HO.lst [V.ref t_other])=H17 at z17 g_l4 ⊢;have y17:Same H H17:=y16.trans z17;walk_at "w";refine BD (SqL.of (z17 _ _ (z16 _ _ g_m3))) (SqL.of g_l4) (by simp) λ m4 hm4=> ?_;have z18:=Ae (o:=HO.lst ([V.ref t_row,V.ref t_word,V.ref t_many,V.ref t_plain,V.ref t_grown,V.ref t_draft,V.ref t_cloth,V.ref t_place]++[V.ref t_other])) hm4;have g_m4:upd H17 m4 (HO.lst ([V.ref t_row,V.ref t_word,V.ref t_many,V.ref t_plain,V.ref t_grown,V.ref t_draft,V.ref t_cloth,V.ref t_place]++[V.ref t_other])) m4=some (.lst [V.ref t_row,V.ref t_word,V.ref t_many,V.ref t_plain,V.ref t_grown,V.ref t_draft,V.ref t_cloth,V.ref t_place,V.ref t_other]):=Ab;generalize upd H17 m4 (HO.lst ([V.ref t_row,V.ref t_word,V.ref t_many,V.ref t_plain,V.ref t_grown,V.ref t_draft,V.ref t_cloth,V.ref t_place]++[V.ref t_other]))=H18 at z18 g_m4 ⊢;have y18:Same H H18:=y17.trans z18;walk_at "w";refine ⟨m4,rfl,⟨_,SqL.of g_m4⟩,λ D hD=> ?_⟩;have pr:∀ i,i<9->∃ b,[V.ref t_row,V.ref t_word,V.ref t_many,V.ref t_plain,V.ref t_grown,V.ref t_draft,V.ref t_cloth,V.ref t_place,V.ref t_other].getD i V.non= .ref b/\H18 b=some (.tup [([(V.str "row",V.bl (decide (j=0))),(V.str "word",V.bl (decide (j=1))),(V.str "many",V.bl (decide (j=2))),(V.str "plain",V.bl (decide (j=3))),(V.str "grown",V.bl (decide (j=4))),(V.str "draft",V.bl (decide (j=5))),(V.str "cloth",V.bl (decide (j=6))),(V.str "place",V.bl (decide (j=7))),(V.str "other",V.bl false)].getD i (V.non,V.non)).1,([(V.str "row",V.bl (decide (j=0))),(V.str "word",V.bl (decide (j=1))),(V.str "many",V.bl (decide (j=2))),(V.str "plain",V.bl (decide (j=3))),(V.str "grown",V.bl (decide (j=4))),(V.str "draft",V.bl (decide (j=5))),(V.str "cloth",V.bl (decide (j=6))),(V.str "place",V.bl (decide (j=7))),(V.str "other",V.bl false)].getD i (V.non,V.non)).2]):=by
      intro i hi
      match i,hi with
      | 0,_=>exact ⟨t_row,rfl,(z18 _ _ (z17 _ _ (z16 _ _ (z15 _ _ (z14 _ _ (z13 _ _ (z12 _ _ (z11 _ _ (z10 _ _ (z9 _ _ (z8 _ _ (z7 _ _ (z6 _ _ (z5 _ _ (z4 _ _ (z3 _ _ (z2 _ _ g_t_row)))))))))))))))))⟩
      | 1,_=>exact ⟨t_word,rfl,(z18 _ _ (z17 _ _ (z16 _ _ (z15 _ _ (z14 _ _ (z13 _ _ (z12 _ _ (z11 _ _ (z10 _ _ (z9 _ _ (z8 _ _ (z7 _ _ (z6 _ _ (z5 _ _ (z4 _ _ (z3 _ _ g_t_word))))))))))))))))⟩
      | 2,_=>exact ⟨t_many,rfl,(z18 _ _ (z17 _ _ (z16 _ _ (z15 _ _ (z14 _ _ (z13 _ _ (z12 _ _ (z11 _ _ (z10 _ _ (z9 _ _ (z8 _ _ (z7 _ _ (z6 _ _ (z5 _ _ g_t_many))))))))))))))⟩
      | 3,_=>exact ⟨t_plain,rfl,(z18 _ _ (z17 _ _ (z16 _ _ (z15 _ _ (z14 _ _ (z13 _ _ (z12 _ _ (z11 _ _ (z10 _ _ (z9 _ _ (z8 _ _ (z7 _ _ (z6 _ _ g_t_plain)))))))))))))⟩
      | 4,_=>exact ⟨t_grown,rfl,(z18 _ _ (z17 _ _ (z16 _ _ (z15 _ _ (z14 _ _ (z13 _ _ (z12 _ _ (z11 _ _ (z10 _ _ (z9 _ _ g_t_grown))))))))))⟩
      | 5,_=>exact ⟨t_draft,rfl,(z18 _ _ (z17 _ _ (z16 _ _ (z15 _ _ (z14 _ _ (z13 _ _ (z12 _ _ (z11 _ _ (z10 _ _ g_t_draft)))))))))⟩
      | 6,_=>exact ⟨t_cloth,rfl,(z18 _ _ (z17 _ _ (z16 _ _ (z15 _ _ (z14 _ _ (z13 _ _ g_t_cloth))))))⟩
      | 7,_=>exact ⟨t_place,rfl,(z18 _ _ (z17 _ _ (z16 _ _ (z15 _ _ (z14 _ _ g_t_place)))))⟩
      | 8,_=>exact ⟨t_other,rfl,(z18 _ _ (z17 _ _ g_t_other))⟩
    have lt:=F1.lt;refine EU (m:=0) (p:=λ i=>decide (i=j)) (G:=λ i=> .str (nmK i)) (Hu (ps:=[(V.str "row",V.bl (decide (j=0))),(V.str "word",V.bl (decide (j=1))),(V.str "many",V.bl (decide (j=2))),(V.str "plain",V.bl (decide (j=3))),(V.str "grown",V.bl (decide (j=4))),(V.str "draft",V.bl (decide (j=5))),(V.str "cloth",V.bl (decide (j=6))),(V.str "place",V.bl (decide (j=7))),(V.str "other",V.bl false)]) (SqL.of g_m4) pr rfl rfl) hD (by simp) ?_ ?_ ?_
    · intro i H' R hi s kk;have hi9:i<9:=hi
      match i,hi9 with
      | 0,_=>walk_at "w";exact ⟨_,rfl,by have e:decide (j=0)=decide (0=j):=decide_eq_decide.mpr eq_comm;rw [e];exact kk H' (Same.refl _)⟩
      | 1,_=>walk_at "w";exact ⟨_,rfl,by have e:decide (j=1)=decide (1=j):=decide_eq_decide.mpr eq_comm;rw [e];exact kk H' (Same.refl _)⟩
      | 2,_=>walk_at "w";exact ⟨_,rfl,by have e:decide (j=2)=decide (2=j):=decide_eq_decide.mpr eq_comm;rw [e];exact kk H' (Same.refl _)⟩
      | 3,_=>walk_at "w";exact ⟨_,rfl,by have e:decide (j=3)=decide (3=j):=decide_eq_decide.mpr eq_comm;rw [e];exact kk H' (Same.refl _)⟩
      | 4,_=>walk_at "w";exact ⟨_,rfl,by have e:decide (j=4)=decide (4=j):=decide_eq_decide.mpr eq_comm;rw [e];exact kk H' (Same.refl _)⟩
      | 5,_=>walk_at "w";exact ⟨_,rfl,by have e:decide (j=5)=decide (5=j):=decide_eq_decide.mpr eq_comm;rw [e];exact kk H' (Same.refl _)⟩
      | 6,_=>walk_at "w";exact ⟨_,rfl,by have e:decide (j=6)=decide (6=j):=decide_eq_decide.mpr eq_comm;rw [e];exact kk H' (Same.refl _)⟩
      | 7,_=>walk_at "w";exact ⟨_,rfl,by have e:decide (j=7)=decide (7=j):=decide_eq_decide.mpr eq_comm;rw [e];exact kk H' (Same.refl _)⟩
      | 8,_=>walk_at "w";exact ⟨_,rfl,by have e:false=decide (8=j):=(decide_eq_false (by omega)).symm;rw [e];exact kk H' (Same.refl _)⟩
    · intro i H' R hi hp s kk;have hi9:i<9:=hi
      match i,hi9 with
      | 0,_=>walk_at "w";exact kk H' _ (Same.refl _) (.str _)
      | 1,_=>walk_at "w";exact kk H' _ (Same.refl _) (.str _)
      | 2,_=>walk_at "w";exact kk H' _ (Same.refl _) (.str _)
      | 3,_=>walk_at "w";exact kk H' _ (Same.refl _) (.str _)
      | 4,_=>walk_at "w";exact kk H' _ (Same.refl _) (.str _)
      | 5,_=>walk_at "w";exact kk H' _ (Same.refl _) (.str _)
      | 6,_=>walk_at "w";exact kk H' _ (Same.refl _) (.str _)
      | 7,_=>walk_at "w";exact kk H' _ (Same.refl _) (.str _)
      | 8,_=>walk_at "w";exact kk H' _ (Same.refl _) (.str _)
    · intro H' ys s hl r;have e9:=Mj j lt;have r:Rp _ _ _ _ (.lst (((List.range 9).filter λ i=>decide (i=j)).map (λ i=>Dt.str (nmK i)))):=r;rw [e9] at r;obtain ⟨b,eb,hb,_⟩:=NU (zs:=[nmK j]) r;cases eb;exact k H' D (y18.trans s) (y18.free hD) hb
abbrev Bt (gs:List Str):Str->Bool:=λ z=>L2.inV (.str z) (gs.map V.str)
theorem K4 (T:Txt K mg c):KindF K c c.BadWord 1:=⟨by decide,T.xk_BadWord.toExcKind,T.ki_BadWord_BadRow,T.ki_BadWord_BadWord,T.ki_BadWord_TooMany,T.ki_BadWord_NotPlain,T.ki_BadWord_NotGrown,T.ki_BadWord_BadDraft,T.ki_BadWord_BadCloth,T.ki_BadWord_OutOfPlace,T.ki_BadWord_ValueError⟩
abbrev SX (t:Addr):Hp->Hp->Prop:=SameX λ b=>b=t
def Fi:Str:=(envOfC "_law_told" (Aj (top 35)) 0 0 .none).qual++"<lambda>"
def BZ (K:PySem.W.Frag) (TT:Addr):Sp:=λ vs H Q _=>∃ (a:Addr) (ws:List Str) (mx:Nat) (b:Addr) (gs:List Str),vs=[.ref a,nV mx, .ref b]/\H a=some (.lst (ws.map V.str))/\H b=some (.lst (gs.map V.str))/\ws.length<=300/\(∀ z∈ws,z.length<=100)/\mx<=60/\LamT H TT Fi/\
  (∀ out cn H' p,rn (Bt gs) mx ws=some ⟨[out],[],cn⟩->ws≠[]->SX TT H H'->LamT H' TT Fi->H p=none->H' p=some (.lst (out.map V.str))->Q (.ref p) H')/\
  (∀ p H',Bb (Bt gs) mx ws p->SX TT H H'->LamT H' TT Fi->Q (nV p) H')
theorem SX.of {t:Addr} {q:Str} {H H':Hp} (s:∀ b o,b≠t->H b=some o->H' b=some o) (l:LamT H' t q):SX t H H':=⟨λ b o e n=>s b o n e,λ b n=>by
  rcases Classical.em (b=t) with rfl | h
  · obtain ⟨ps,e,_⟩:=l;rw [e];simp
  · cases e:H b with
    | none=>exact absurd e n
    | some o=>rw [s b o h e];simp⟩
theorem SameX.same {H H':Hp} (s:SameX (λ _=>False) H H'):Same H H':=λ b o e=>s.st b o e id
theorem C5 {K:PySem.W.Frag} {H:Hp} {Q:VK} {l p:Addr} {as bs:List Str} (c:SqL K H l (as.map V.str)) (d:SqL K H p (bs.map V.str)) (h:Q (.bl (!decide (as=bs))) H):Hy K true (.ref l) (.ref p) H Q:=
  ⟨l,p,_,_,rfl,rfl,c,d,by simp [AK],by simp [AK],by rw [Fb];exact h⟩
abbrev A8:Stmt:=top 35
theorem sc__law_told:FnScope ["_law_words","_law_most","_law_goods","_law_wrong","_law_told_here","e"] ["_law_words","_law_most","_law_goods"] (Aj A8):=⟨rfl,rfl,rfl,by decide +kernel,rfl,by decide +kernel,by decide +kernel⟩
theorem FR {f:Addr} {fd:FuncData} {cc:Addr} (hc:fd.code= .ref cc) (hd:PySem.W.CodeHd base cc TT1) (hbt:base.BuiltinsAt mg TT1) (F:Fun K "_law_told" "_law_told" A8 f fd) (T:Txt K mg c) (c_spread:(∃ fs,mg "spread"=some (.ref fs)/\PySem.W.keepIn K (.ref fs)=true)/\∀ (base':Heap) (fl:Addr) (sL:Sp),LamV P w K mg base' 1 fl sL->CallE P w K mg base' "spread" 6 ["words","most","fits"] (BU K c fl sL)) (c__law_kinds:CallF P w K mg base "_law_kinds" 1 ["_law_error"] (CG K c)):FnOk P w K mg base CX0 7 f fd ["_law_words","_law_most","_law_goods"] (BZ K TT1):=by
  refine Fun.okL F hc sc__law_told (λ vs H Q E h=> ?_) (λ A outer s H vs Q E hr h=> ?_)
  · obtain ⟨a,ws,mx,b,gs,rfl,_⟩:=h;rfl
  · obtain ⟨a,ws,mx,b,gs,rfl,ha,hb,hl,hz,hmx,hT,kQ,kE⟩:=h;have hu:=hr.units0;refine ⟨_,(Ad (An (i:=3) sc__law_told.nd rfl (Or.inl rfl) AQ)
      (Ad (An (i:=4) sc__law_told.nd rfl (Or.inl rfl) AQ)
      (Ad (M5 (j:=5) rfl rfl T.g_LoomError sc__law_told.nd rfl rfl (λ _ _ _ hp=>(Ah (An (i:=4) sc__law_told.nd rfl (Or.inl rfl) (by exact (Lq (q:=(envOfC "_law_told" (Aj A8) 0 0 .none).qual++"<lambda>") (y:="_law_word_here") (N:=["_law_goods"]) (idx:=[2]) c_spread.1 c_spread.2 hr hp ⟨rfl,hd,hbt⟩ (pv 0) (pv 1) (λ _ _ _ _ _ _ _ _ _ hrL=>(Bv (OW (K:=K)) (pv 0) (pv 1) (by with_unfolding_all rfl))) (show AR _ _ _ ["_law_words","_law_most","_law_goods","_law_wrong","_law_told_here","e"] (Aj A8).names=true by decide +kernel) (by decide +kernel)))))) (λ _ _=>(Ah (An (i:=3) sc__law_told.nd rfl (Or.inl rfl) (pv 5)))))
      (Ad (Ax (Al IK (pv 3) AQ (Ap _)) (Ah (Aq (pv 4))) As)
      (Ad (Ax (PW.pt (Dj (Al (GZ hu (K:=K)) (Ao c__law_kinds (hr.mono (by decide)) (Aa (pv 3) Ac)) (Av (Aa Af Ac)) (Ap _)) (CM (AZ (Ak (CP (K:=K)) rfl (T.own _ (by decide)) boot_isinstance (Aa (GV (K:=K) (pv 3) rfl) (Aa (Dy rfl (T.own _ (by decide)) boot_bool) Ac))))))) (Ah (Aq AQ)) As)
      (Ah (Aq (GV (K:=K) (pv 3) rfl)))))))),?_⟩
    walk_at "w";refine LX ?_;walk_at "w";refine Lh ?_;walk_at "w";refine ⟨hT,[.ref b],rfl,λ i j hj=> ?_,λ H1 fl c' oc hT1 old hc1=> ?_⟩
    · match i,hj with
      | 0,hj=>
        cases hj;exact ⟨_,rfl,rfl⟩
    have hT0:∃ ps,H TT1=some (.tbl ps):=let ⟨ps,h,_⟩:=hT;⟨ps,h⟩;obtain ⟨ps0,hT0⟩:=hT0;have nTl:∀ y ys,H y=some (.lst ys)->H1 y=some (.lst ys):=λ y ys e=>old y _ (J9 e hT0 (λ z=>by cases z)) e;have x1:SX TT1 H H1:=SX.of old hT1;refine ⟨a,ws,mx,Bt gs,λ _=>False,λ _ _=>True,rfl,SqL.of (nTl _ _ ha),hl,hz,hmx,λ _ h=>h.elim,trivial,λ _ _ _=>trivial,λ _ _ _ _ _=>trivial,λ z hz q1 q2 n H' Q' s' _ _ hQ=> ?_,λ out cn H2 p hrn hne s2 _ hp0 hp=> ?_,λ p H2 dx n he s2 _ _ hdx=> ?_⟩
    · have s':=s'.same;refine ⟨.str z,rfl,s' _ _ hc1,?_⟩;walk_at "w";refine ⟨b,_,rfl, .inl (SqL.of (s' _ _ (nTl _ _ hb))),rfl,by simp [AK],?_⟩;exact hQ _ (SameX.of (Same.refl _)) trivial
    · have s2:=s2.same;walk_at "w";refine ⟨rfl,?_⟩;walk_at "w";refine AJ (λ _=> ?_) (λ q=>absurd rfl q);walk_at "w";exact kQ out cn H2 p hrn hne (x1.trans (SameX.of s2)) (hT1.same s2) (x1.free hp0) hp
    · have s2:=s2.same;refine ⟨_,rfl,T.xm_BadWord_LoomError,λ a2 σ ha2 hl2=> ?_⟩;obtain ⟨x0,x1',x2,x3,x4,x5,rfl⟩:∃ x0 x1 x2 x3 x4 x5,σ=[x0,x1,x2,x3,x4,x5]:=by
        match σ,hl2 with
        | [x0,x1,x2,x3,x4,x5],_=>exact ⟨x0,x1,x2,x3,x4,x5,rfl⟩
      have s3:=Ae (o:=B4 a2 c.BadWord (some dx)) ha2;have e2:=s3 _ _ hdx;have ea:upd H2 a2 (B4 a2 c.BadWord (some dx)) a2=_:=Ab;generalize upd H2 a2 (B4 a2 c.BadWord (some dx))=H3 at s3 e2 ea ⊢;walk_at "w";refine Ip ?_;walk_at "w";refine ⟨rfl,?_⟩;walk_at "w";refine AJ (λ q=>by cases q) (λ _=> ?_);walk_at "w";refine ⟨a2,c.BadWord,some dx,1,rfl,ea,K4 T,λ H4 l s4 hl0 hl4=> ?_⟩;walk_at "w";intro p5 hp5;have s5:=Ae (o:=HO.lst [V.str "word"]) hp5;refine C5 (as:=["word"]) (bs:=["word"]) (SqL.of (s5 _ _ hl4)) (SqL.of Ab) ?_;have s45:=s4.trans s5;generalize upd H4 p5 (HO.lst [V.str "word"])=H5 at s45 ⊢;have ea5:=s45 _ _ ea;have e5:=s45 _ _ e2;rw [decide_eq_true rfl];walk_at "w";refine Hi ?_;walk_at "w";refine ⟨a2,_,dx,_,_,rfl,ea5,e5,rfl,T.xk_BadWord,T.xf_BadWord_place,?_⟩;walk_at "w";refine A2 (.int _) (kb (b:=false) (by decide +kernel)) ?_;walk_at "w";refine Hi ?_;walk_at "w";refine ⟨a2,_,dx,_,_,rfl,ea5,e5,rfl,T.xk_BadWord,T.xf_BadWord_place,?_⟩;walk_at "w";have s25:=s2.trans (s3.trans s45);exact kE p H5 he (x1.trans (SameX.of s25)) (hT1.same s25)
def FE:Str:=qualnameIn (envOfC "_law_asked" (Aj (top 36)) 0 0 .none) "_law_fits" "_law_fits"
def O3 (ws l:List Str):Prop:=l.length<=ws.length/\∀ z∈l,z∈ws/\z≠clS/\Txt.endswith z opS=false
def CD (K:PySem.W.Frag) (TT:Addr):Sp:=λ vs H Q _=>∃ (a:Addr) (ws:List Str) (mx:Nat) (b:Addr) (gs:List Str),vs=[.ref a,nV mx, .ref b]/\H a=some (.lst (ws.map V.str))/\H b=some (.lst (gs.map V.str))/\ws.length<=300/\(∀ z∈ws,z.length<=100)/\mx<=60/\LamT H TT FE/\
  ∀ l H' p,O3 ws l->SX TT H H'->LamT H' TT FE->H' p=some (.lst (l.map V.str))->Q (.ref p) H'
theorem Ft {f T:Addr} {H H':Hp} {q:Str} {xs:List V} (h:LamT H T q) (u:SameX (λ b=>b=f) H H') (hf:H f=some (.lst xs)):LamT H' T q:=by
  obtain ⟨ps,h1,h2,h3⟩:=h;refine ⟨ps,u.st _ _ h1 (λ z=>by rw [z,hf] at h1;cases h1),h2,λ p cv e=> ?_⟩;obtain ⟨c',oc,e1,e2,e3⟩:=h3 p cv e;exact ⟨c',oc,e1,u.st _ _ e2 (λ z=>by rw [z,hf] at e2;cases e2),e3⟩
theorem LH {f T:Addr} {H H1 H2:Hp} (x:SX T H H1) (n:H f=none) (y:SameX (λ b=>b=f) H1 H2):SX T H H2:=⟨λ b o e nb=>y.st b o (x.st b o e nb) (λ z=>by rw [z,n] at e;cases e),λ b nb=>y.th b (x.th b nb)⟩
abbrev AW:Stmt:=top 36
theorem sc__law_asked:FnScope ["_law_words","_law_most","_law_goods","_law_fits","_law_wrong","e","_law_asked_here"] ["_law_words","_law_most","_law_goods"] (Aj AW):=⟨rfl,rfl,rfl,by decide +kernel,rfl,by decide +kernel,by decide +kernel⟩
theorem EQ {f:Addr} {fd:FuncData} {cc:Addr} (hc:fd.code= .ref cc) (hd:PySem.W.CodeHd base cc TT2) (hbt:base.BuiltinsAt mg TT2) (F:Fun K "_law_asked" "_law_asked" AW f fd) (T:Txt K mg c) (c_spread:(∃ fs,mg "spread"=some (.ref fs)/\PySem.W.keepIn K (.ref fs)=true)/\∀ (base':Heap) (fl:Addr) (sL:Sp),LamV P w K mg base' 1 fl sL->CallE P w K mg base' "spread" 6 ["words","most","fits"] (BU K c fl sL)):FnOk P w K mg base CX0 7 f fd ["_law_words","_law_most","_law_goods"] (CD K TT2):=by
  refine Fun.okL F hc sc__law_asked (λ vs H Q E h=> ?_) (λ A outer s H vs Q E hr h=> ?_)
  · obtain ⟨a,ws,mx,b,gs,rfl,_⟩:=h;rfl
  · obtain ⟨a,ws,mx,b,gs,rfl,ha,hb,hl,hz,hmx,hT,kQ⟩:=h;have hu:=hr.units0;refine ⟨_,(Ad (An (i:=6) sc__law_asked.nd rfl (Or.inr rfl) (Av Ac))
      (Kf (i:=3) ⟨rfl,hd,hbt⟩ rfl sc__law_asked.nd rfl rfl (DV (show AR ["_law_goods","_law_asked_here"] [2,6] _ ["_law_words","_law_most","_law_goods","_law_fits","_law_wrong","e","_law_asked_here"] (Aj AW).names=true by decide +kernel)) (λ fN cN ocN foN pnN hpN hfN hoN=>(Ad (An (i:=4) sc__law_asked.nd rfl (Or.inl rfl) AQ)
      (Ad (Lc (KK:=K) (j:=5) (yv:="_law_word_here") (N:=["_law_goods","_law_asked_here"]) (idx:=[2,6]) rfl rfl T.g_LoomError sc__law_asked.nd rfl rfl hpN hfN hoN c_spread hr (λ _ _=>(Aa (pv 0) (Aa (pv 1) (Aa (pv 3) Ac)))) (λ _ _ _ _ _ _ _ hrN=>(Ad (AM (Bl (K:=K) PySem.F.plainAttrs_list PySem.F.slot_list_append PySem.F.type_list_append AB (pv 2) (Aa (pv 0) Ac)))
      (Ah (Aq (Bv (OW (K:=K)) (pv 0) (pv 1) (by with_unfolding_all rfl)))))) (show AR ["_law_goods","_law_asked_here"] [2,6] _ ["_law_words","_law_most","_law_goods","_law_fits","_law_wrong","e","_law_asked_here"] (Aj AW).names=true by decide +kernel) (by decide +kernel) (λ _ _=>(Ah (An (i:=4) sc__law_asked.nd rfl (Or.inl rfl) (pv 5)))))
      (Ad (Ax (PW.pt (CN (Al DR (pv 4) AQ (Ap _)) (BP (Al (GX hu (K:=K)) (pv 6) (Av Ac) (Ap _))))) (Ah (Aq (Av Ac))) As)
      (Ah (Aq (pv 6))))))))),?_⟩
    walk_at "w";intro q hq0;have s1:=Ae (o:=HO.lst []) hq0;have g1:upd H q (HO.lst []) q=_:=Ab;generalize upd H q (HO.lst [])=H1 at s1 g1 ⊢;have nbq:b≠q:=λ z=>by rw [z,hq0] at hb;cases hb
    walk_at "w";refine JT (hT.same s1) λ fl c' oc H2 hT2 old hc2 hoc=> ?_;have hT2:LamT H2 TT2 FE:=hT2;have hT0:∃ ps,H1 TT2=some (.tbl ps):=let ⟨ps,h,_⟩:=hT.same s1;⟨ps,h⟩;obtain ⟨ps0,hT0⟩:=hT0;have nTl:∀ y ys,H1 y=some (.lst ys)->H2 y=some (.lst ys):=λ y ys e=>old y _ (J9 e hT0 (λ z=>by cases z)) e;have x2:SX TT2 H H2:=(SameX.of s1).trans (SX.of old hT2);have g2:=nTl _ _ g1;have hb2:=nTl _ _ (s1 _ _ hb);have ncq:c'≠q:=λ z=>by rw [z,g2] at hc2;cases hc2
    clear old hT0;walk_at "w";refine Lm ?_;walk_at "w";refine ⟨hc2,[.ref b, .ref q],rfl,λ i j hj=> ?_,?_⟩
    · match i,hj with
      | 0,hj=>
        cases hj;exact ⟨_,rfl,rfl⟩
      | 1,hj=>
        cases hj;exact ⟨_,rfl,rfl⟩
    refine ⟨a,ws,mx,Bt gs,λ b=>b=q,λ n H=>∃ l:List Str,H q=some (.lst (l.map V.str))/\l.length<=n/\∀ z∈l,z∈ws/\z≠clS/\Txt.endswith z opS=false,rfl,SqL.of (nTl _ _ (s1 _ _ ha)),hl,hz,hmx,λ b h=>by rw [h,g2];simp,⟨[],g2,Nat.le_refl _,by simp⟩,λ n H ⟨l,e,h1,h2⟩=>⟨l,e,by omega,h2⟩,λ n H H' st ⟨l,e,h1,h2⟩=>⟨l,st q _ rfl e,h1,h2⟩,?_,?_,?_⟩
    · rintro z hzw q1 q2 n H' Q' s' ⟨l,e,h1,h2⟩ hn hQ;refine ⟨.str z,rfl,s'.st _ _ hc2 ncq,?_⟩;walk_at "w";refine tyL (SqL.of e) ?_;walk_at "w";refine AV e (by rw [List.length_map];omega) ?_;walk_at "w";have hb':upd H' q (HO.lst (l.map V.str++[V.str z])) b=_:=(if_neg nbq).trans (s'.st _ _ hb2 nbq);refine ⟨b,_,rfl, .inl (SqL.of hb'),rfl,by simp [AK],?_⟩;refine hQ _ ⟨λ b o e n=>(if_neg n).trans e,λ b nb z=> ?_⟩ ⟨l++[z],by rw [List.map_append];exact Ab,by rw [List.length_append];exact Nat.succ_le_succ h1,λ y hy=> ?_⟩
      · rcases Classical.em (b=q) with rfl | h
        · rw [Ab] at z;cases z
        · exact nb ((if_neg h).symm.trans z)
      · rcases List.mem_append.mp hy with hy | hy
        · exact h2 y hy
        · rw [List.mem_singleton.mp hy];exact ⟨hzw,q1,q2⟩
    · rintro out cn H3 p hrn hne s3 ⟨l,e,h1,h2⟩ hp0 hp;walk_at "w";refine ⟨rfl,?_⟩;walk_at "w";refine CZ (λ z=>absurd rfl z) (λ _=> ?_);walk_at "w";exact kQ l H3 q ⟨h1,h2⟩ (LH x2 hq0 s3) (Ft hT2 s3 g2) e
    · rintro p H3 dx n he s3 ⟨l,e,h1,h2⟩ hn hdx;refine ⟨_,rfl,T.xm_BadWord_LoomError,λ a2 ha2=> ?_⟩;have s4:=Ae (o:=B4 a2 c.BadWord (some dx)) ha2;have e4:=s4 _ _ e;generalize upd H3 a2 (B4 a2 c.BadWord (some dx))=H4 at s4 e4 ⊢;have x4:SX TT2 H H4:=(LH x2 hq0 s3).trans (SameX.of s4);have hT4:LamT H4 TT2 FE:=LamT.same (Ft hT2 s3 g2) s4;have A4:O3 ws l:=⟨by omega,h2⟩;walk_at "w";refine Ip ?_;walk_at "w";refine ⟨rfl,?_⟩;walk_at "w";refine CZ (λ _=> ?_) (λ z=>by cases z);walk_at "w";intro p5 hp5;have s5:=Ae (o:=HO.lst []) hp5;refine DQ (as:=l) (bs:=[]) (SqL.of (s5 _ _ e4)) (SqL.of Ab) ?_;generalize upd H4 p5 (HO.lst [])=H5 at s5 ⊢;walk_at "w";refine AJ (λ _=> ?_) (λ _=> ?_)
      · walk_at "w";intro p6 hp6;have s56:=s5.trans (Ae (o:=HO.lst []) hp6);exact kQ [] _ p6 ⟨Nat.zero_le _,λ z hz=>by cases hz⟩ (x4.trans (SameX.of s56)) (LamT.same hT4 s56) Ab
      · walk_at "w";exact kQ l H5 q A4 (x4.trans (SameX.of s5)) (LamT.same hT4 s5) (s5 _ _ e4)
def S16:List Str:=["1","2","3","2(","3(",")","0","17","x","60(","61(","1(","(","02(","5(","-"]
def S8:List Str:=["2(","3(","60(","61(","1(","(","02(","5("]
def tmN (z:Str):Nat:=match tms z with | some (some t)=>t | _=>0
def FX (z:Str):Str:=Txt.slice z none (some ((z.length:Int) - 1))
def OS (z:Str):Bool:=if (FX z).length=0\/2<(FX z).length\/(FX z).cps.toList.getD 0 0=48 then decide (tmN z=0) else
  (FX z).cps.toList.all (λ c=> !(Builtin.Str.occurrences "0123456789" ⟨#[c]⟩ 0 (Str.length "0123456789") 1).isEmpty)&&match PySem.intText? (FX z) with | some n=>decide ((if 2<=n/\n<=60 then n else 0)=(tmN z:Int)) | none=>false
theorem Ir:∀ z∈S8,OS z=true:=by decide +kernel
theorem L6:∀ z∈S8,z.length<=3:=by decide +kernel
theorem Lb:∀ z∈S8,(FX z).length<=3:=by decide +kernel
def A3 (K:PySem.W.Frag):Sp:=λ vs H Q _=>∃ z:Str,vs=[.str z]/\z∈S8/\∀ H',Same H H'->Q (nV (tmN z)) H'
abbrev BR:Stmt:=top 28
theorem sc__law_times:FnScope ["_law_word_here","_law_figures"] ["_law_word_here"] (Aj BR):=⟨rfl,rfl,rfl,by decide +kernel,rfl,by decide +kernel,by decide +kernel⟩
theorem EO {f:Addr} {fd:FuncData} (F:Fun K "_law_times" "_law_times" BR f fd) (T:Txt K mg c):FnOk P w K mg base CX0 1 f fd ["_law_word_here"] (A3 K):=by
  refine F.ok sc__law_times (λ vs H Q E h=> ?_) (λ cdv A outer s H vs Q E hr h=> ?_)
  · obtain ⟨z,rfl,_⟩:=h;rfl
  · obtain ⟨z,rfl,hz,k⟩:=h;have hu:=hr.units0;refine ⟨_,(Ad (An (i:=1) sc__law_times.nd rfl (Or.inl rfl) (AE Fl (pv 0) AO (AN (Am By (Ak (AL (K:=K)) rfl (T.own _ (by decide)) boot_len (Aa (pv 0) Ac)) Ag))))
      (Ad (Ax (PW.pt (Dj (Al BH (pv 1) Af (Ap _)) (Dj (Al Ci (Ak (AL (K:=K)) rfl (T.own _ (by decide)) boot_len (Aa (pv 1) Ac)) Ag (Ap _)) (CM (Al BH (A9 DZ (pv 1) Ag (λ _ _=>rfl)) Af (Ap _)))))) (Ah (Aq Ag)) As)
      (Ad (Ax (Al (GZ hu (K:=K)) (Eh (Iy (pv 1)) (λ _ _ _ _=>(Fj (Al Fm (pv 0) Af (by with_unfolding_all rfl)))) (λ _ _ _ _=>(pv 0))) (Av Ac) (Ap _)) (Ah (Aq Ag)) As)
      (Ah (Aq (Eg (JV He He Ag (Bj BB rfl (T.own _ (by decide)) boot_int (Aa (pv 1) Ac)) Ag) (Bj BB rfl (T.own _ (by decide)) boot_int (Aa (pv 1) Ac)) Ag)))))),?_⟩
    walk_at "w";have hl:=L6 z hz;have hc:=Ir z hz;unfold OS at hc;refine Bx (Nat.le_trans hl (by decide)) ?_;walk_at "w";refine FI (Nat.le_trans hl (by decide)) ?_;change AC 1 (.str (FX z)) _ _ _;have hy:=Lb z hz;generalize FX z=y at hc hy ⊢;have hyl:y.cps.toList.length=y.length:=by simp [Str.length]
    have no:(y.length=0\/2<y.length\/y.cps.toList.getD 0 0=48)->∀ H',Same H H'->Q (.int 0) H':=λ q H' s'=>by
      rw [if_pos q,decide_eq_true_iff] at hc;have:=k H' s';rw [hc] at this;exact this
    walk_at "w";refine AJ (λ h1=> ?_) (λ h1=> ?_)
    · walk_at "w";exact no (.inl (by rw [h1];rfl)) H (Same.refl _)
    have h1':0<y.length:=by
      rcases Nat.eq_zero_or_pos y.length with q | q
      · refine absurd ?_ h1;have:y.cps= #[]:=Array.eq_empty_of_size_eq_zero q;show y=⟨#[]⟩;rw [<-this]
      · exact q
    walk_at "w";refine Bx (Nat.le_trans hy (by decide)) ?_;walk_at "w";refine AJ (λ h2=> ?_) (λ h2=> ?_)
    · walk_at "w";exact no (.inr (.inl (by omega))) H (Same.refl _)
    walk_at "w";refine Es (c:=y.cps.toList.getD 0 0) (Nat.le_trans hy (by decide)) (Bu (j:=0) (by rw [List.getD_eq_getElem?_getD,List.getElem?_eq_getElem (by omega)];rfl)) ?_;walk_at "w";have e0:Str.ofString "0"=⟨#[48]⟩:=by decide +kernel
    refine AJ (λ h3=> ?_) (λ h3=> ?_)
    · walk_at "w";refine no (.inr (.inr ?_)) H (Same.refl _);rw [e0] at h3;exact (congrArg (λ q:Str=>q.cps.toList.getD 0 0) h3)
    have h3':y.cps.toList.getD 0 0≠48:=λ q=>h3 (by rw [q,e0]);rw [if_neg (by omega),Bool.and_eq_true] at hc;obtain ⟨hdig,hint⟩:=hc;walk_at "w";refine ⟨y,rfl,λ D hD=> ?_⟩;refine Jn (λ _ ys H'=>ys=[]/\H'=upd H D (.lst [])) ⟨rfl,rfl⟩ ?_ ?_
    · rintro i ch ys H1 hi ⟨rfl,rfl⟩;refine ⟨(Kp.refl _).set rfl,?_⟩;walk_at "w";refine ⟨_,_,rfl,rfl,?_⟩;have hm:ch∈y.cps.toList:=List.mem_of_getElem? (by rw [Array.getElem?_toList];exact hi);rw [List.all_eq_true.mp hdig ch hm];walk_at "w";exact ⟨rfl,rfl⟩
    rintro ys H1 ⟨rfl,rfl⟩;have s1:=Ae (o:=HO.lst []) hD;have g1:upd H D (HO.lst []) D=_:=Ab;generalize upd H D (HO.lst [])=H1 at s1 g1 ⊢;walk_at "w";intro p hp;refine C5 (as:=[]) (bs:=[]) (SqL.of (Ae hp _ _ g1)) (SqL.of Ab) ?_;have s2:=s1.trans (Ae (o:=HO.lst []) hp);generalize upd H1 p (HO.lst [])=H2 at s2 ⊢;walk_at "w";cases hn:PySem.intText? y with
    | none=>
      rw [hn] at hint;cases hint
    | some n=>
      rw [hn] at hint;simp only [decide_eq_true_iff] at hint;have fin:=k H2 s2;have e:nV (tmN z)= .int (if 2<=n/\n<=60 then n else 0):=by rw [hint]
      rw [e] at fin;refine CZ (λ q=>absurd rfl q) (λ _=> ?_);walk_at "w";refine ⟨y,n,rfl,hn,by omega,?_⟩;walk_at "w";refine AJ (λ h4=> ?_) (λ h4=> ?_)
      · walk_at "w";refine AJ (λ h5=> ?_) (λ h5=> ?_)
        · rw [if_pos ⟨h4,h5⟩] at fin;walk_at "w";exact ⟨y,n,rfl,hn,by omega,fin⟩
        · rw [if_neg (λ q=>h5 q.2)] at fin;walk_at "w";exact fin
      · rw [if_neg (λ q=>h4 q.1)] at fin;walk_at "w";exact fin
abbrev Dx (d:Addr):Addr->Prop:=λ b=>b=d
def stK (a:Addr) (at_ sm:Nat) (no:V):List (Key × V):=[(.inr "words", .ref a),(.inr "at",nV at_),(.inr "sum",nV sm),(.inr "no",no)]
theorem F5 {a:Addr} {i s:Nat} {n:V}:CB (stK a i s n) (.inr "words")=some (.ref a):=by rfl
theorem B3 {a:Addr} {i s:Nat} {n:V}:CB (stK a i s n) (.inr "at")=some (nV i):=by rfl
theorem FA {a:Addr} {i s:Nat} {n:V}:CB (stK a i s n) (.inr "sum")=some (nV s):=by rfl
theorem El {a:Addr} {i s:Nat} {n:V}:CB (stK a i s n) (.inr "no")=some n:=by rfl
theorem LF {a:Addr} {i s j:Nat} {n:V}:BS (stK a i s n) (.inr "at") (nV j)=stK a j s n:=by rfl
theorem Jp {a:Addr} {i s j:Nat} {n:V}:BS (stK a i s n) (.inr "sum") (nV j)=stK a i j n:=by rfl
theorem DU {a:Addr} {i s:Nat} {n m:V}:BS (stK a i s n) (.inr "no") m=stK a i s m:=by rfl
theorem gS {H:Hp} {a:Addr} {kvs:List (Key × V)} {z:Str} {v:V} (ha:H a=some (.dK kvs)) (e:CB kvs (.inr z)=some v):DGet H a (.str z) (some v):=e▸DGet.k (k:= .inr z) ha
theorem pS {H:Hp} {a:Addr} {kvs kvs':List (Key × V)} {z:Str} {v:V} (ha:H a=some (.dK kvs)) (hl:kvs.length<100) (e:BS kvs (.inr z) v=kvs'):DPut H a (.str z) v (upd H a (.dK kvs')):=e▸DPut.k (k:= .inr z) ha (by rw [sizeLine_eq];omega)
theorem Bk {H H':Hp} {d:Addr} {o:HO} (x:SameX (Dx d) H H'):SameX (Dx d) H (upd H' d o):=⟨λ b o' e n=>(if_neg n).trans (x.st b o' e n),λ b nb z=>by
  rcases Classical.em (b=d) with rfl | h
  · rw [Ab] at z;cases z
  · exact x.th b nb ((if_neg h).symm.trans z)⟩
theorem G0 {W:Addr->Prop} {H H':Hp} {p:Addr} {o:HO} (x:SameX W H H') (n:H p=none):SameX W H (upd H' p o):=⟨λ b o' e nb=>(if_neg (λ z=>by rw [z,n] at e;cases e)).trans (x.st b o' e nb),λ b nb z=>x.th b nb ((if_neg (λ q=>by rw [q] at nb;exact nb n)).symm.trans z)⟩
structure Mok (mx:Nat) (s:MFew.Sm Str):Prop where
  tm:∀ n∈s.times,2<=n/\n<=60
  sm:(s.held.map List.length).sum=s.count
  dp:s.held.length=s.times.length+1
  mo:s.count<=mx
theorem MW {z:Str} {t:Nat} (h:tms z=some (some t)):2<=t/\t<=60:=by
  unfold tms at h;split at h
  · rcases BN z with e | ⟨n,e,n2,n60⟩
    · rw [e] at h;cases h
    · rw [e] at h;cases h;exact ⟨by omega,by omega⟩
  · cases h
theorem Mok.step {mx:Nat} {s s':MFew.Sm Str} {fits:Str->Bool} {z:Str} (M:Mok mx s) (e:MFew.step clS tms fits mx s z=some s'):Mok mx s':=by
  unfold MFew.step at e;split at e
  · split at e
    · rename_i u v st t ts e1 e2
      split at e
      · rename_i q
        cases e;have M1:=M.tm;have M2:=M.sm;have M3:=M.dp;rw [e2] at M1 M3;rw [e1] at M2 M3;simp only [List.map_cons,List.sum_cons,List.length_cons] at M2 M3;refine ⟨λ n hn=>M1 n (List.mem_cons_of_mem _ hn),?_,?_,q.2⟩
        · simp only [List.map_cons,List.sum_cons,List.length_append,MFew.rep_len];have t2:=(M1 t List.mem_cons_self).1;have:u.length*t=u.length+u.length*(t - 1):=by
            obtain ⟨x,rfl⟩:∃ x,t=x+1:=⟨t - 1,by omega⟩;rw [Nat.add_sub_cancel,Nat.mul_succ,Nat.add_comm]
          omega
        · simp only [List.length_cons];omega
      · cases e
    · cases e
  · split at e
    · rename_i t ht
      split at e
      · rename_i q
        cases e;refine ⟨λ n hn=> ?_,?_,?_,q⟩
        · rcases List.mem_cons.mp hn with rfl | hn
          · exact MW ht
          · exact M.tm n hn
        · simp only [List.map_cons,List.sum_cons,List.length_nil,Nat.zero_add];exact M.sm
        · simp only [List.length_cons,M.dp]
      · cases e
    · cases e
    · split at e
      · rename_i h st e1
        split at e
        · rename_i q
          cases e;have M2:=M.sm;have M3:=M.dp;rw [e1] at M2 M3;simp only [List.map_cons,List.sum_cons,List.length_cons] at M2 M3;refine ⟨M.tm,?_,?_,q.2⟩
          · simp only [List.map_cons,List.sum_cons,List.length_append,List.length_singleton];omega
          · simp only [List.length_cons];omega
        · cases e
      · cases e
theorem IJ {mx:Nat} {fits:Str->Bool}:∀ (ws:List Str) (s s':MFew.Sm Str),Mok mx s->MFew.run clS tms fits mx s ws=some s'->Mok mx s'
  | [],s,s',M,e=>by cases e;exact M
  | w::ws,s,s',M,e=>by
    unfold MFew.run at e;split at e
    · rename_i s1 e1
      exact IJ ws s1 s' (M.step e1) e
    · cases e
theorem Gu {mx:Nat} {fits:Str->Bool} {ws:List Str} {s:MFew.Sm Str} (h:rn fits mx ws=some s):Mok mx s:=IJ ws M0 s ⟨λ _ h=>(by cases h),rfl,rfl,Nat.zero_le _⟩ h
theorem Jc {mx:Nat} {fits:Str->Bool} {ws:List Str} {i:Nat} {s:MFew.Sm Str} (hi:i<ws.length) (hs:rn fits mx (ws.take i)=some s) (e:MFew.step clS tms fits mx s (ws.getD i "")=none):Bb fits mx ws (i+1):= .inl ⟨s,by omega,by omega,hs,e⟩
theorem K2 {mx:Nat} {fits:Str->Bool} {ws:List Str} {s:MFew.Sm Str} (hs:rn fits mx ws=some s) (h:s.times≠[]):Bb fits mx ws (ws.length+1):= .inr ⟨rfl,s,hs, .inl h⟩
def opc (us:List Str):Nat:=us.countP λ z=>decide (z∈S8)
theorem AX {us vs:List Str}:opc (us++vs)=opc us+opc vs:=List.countP_append
theorem Hk {us vs:List Str} (h:us.Sublist vs):opc us<=opc vs:=h.countP_le
theorem IT {ws:List Str} {i j:Nat} (hj:j<ws.length) (hij:i<=j) (h:ws.getD j ""∈S8):opc (ws.drop (j+1))+1<=opc (ws.drop i):=by
  have eg:ws.getD j ""=ws[j]:=by rw [List.getD_eq_getElem?_getD,List.getElem?_eq_getElem hj];rfl
  rw [eg] at h;have e1:opc (ws.drop j)=opc (ws.drop (j+1))+1:=by
    rw [List.drop_eq_getElem_cons hj];exact List.countP_cons_of_pos (decide_eq_true h)
  have e2:opc (ws.drop j)<=opc (ws.drop i):=by
    rw [show j=i+(j - i) by omega, <-List.drop_drop];exact Hk (List.drop_sublist ..)
  omega
structure Lw (ws:List Str) (mx:Nat):Prop where
  all:∀ z∈ws,z∈S16
  len:ws.length<=140
  most:mx<=60
  ops:opc ws<=64
def B7 (z:Str):Nat:=z.cps.toList.getD (z.length - 1) 0
theorem E4:∀ z∈S16,1<=z.length/\z.length<=3:=by decide +kernel
theorem MQ:∀ z∈S16,z≠clS->B7 z≠40->tms z=none:=by decide +kernel
theorem JW:∀ z∈S16,B7 z=40->z∈S8/\z≠clS:=by decide +kernel
theorem OY:∀ z∈S8,tms z=some (if tmN z=0 then none else some (tmN z)):=by decide +kernel
theorem Mg {c:TT} {tb:TS} {D:Ends} {σ:L2.St} {H:Hp} (W:Nat->L2.St->Hp->Prop) (m0:Nat) (w0:W m0 σ H) (turn:∀ m σ H,W m σ H->c σ H λ b H1=>if b=true then ∃ N:L2.St->Hp->Prop,(∀ σ' H',N σ' H'->∃ m',m'<m/\W m' σ' H')/\tb { D with nx:=N,ct:=N,bk:=D.nx } σ H1 else D.nx σ H1):J7 c tb D σ H:=⟨W,⟨m0,w0⟩,turn⟩
def LvW (H:Hp) (d a g:Addr) (ws gs:List Str) (mx:Nat) (op:Bool) (i:Nat) (st:List (List Str)) (ts:List Nat) (m:Nat) (σ:L2.St) (H':Hp):Prop:=∃ (it:Addr) (x6:Option V),σ=[some (.ref d),some (nV mx),some (.ref g),some (.bl op),some (.ref a),some (.ref it),x6]/\SameX (Dx d) H H'/\H it=none/\
  ((∃ i1 sm1 u,i<=i1/\i1<=ws.length/\m=ws.length - i1+1/\rn (Bt gs) mx (ws.take i1)=some ⟨u::st,ts,sm1⟩/\H' d=some (.dK (stK a i1 sm1 .non))/\H' it=some (.lst (u.map V.str)))\/
  (∃ e i1 sm1 l,m=0/\Bb (Bt gs) mx ws e/\H' d=some (.dK (stK a i1 sm1 (nV e)))/\H' it=some (.lst l)))
def A5:Nat->Sp
  | 0=>λ _ _ _ _=>False
  | n+1=>λ vs H Q _=>∃ (d a g:Addr) (ws gs:List Str) (mx:Nat) (op:Bool) (i sm:Nat) (st:List (List Str)) (ts:List Nat),vs=[.ref d,nV mx, .ref g, .bl op]/\H d=some (.dK (stK a i sm .non))/\H a=some (.lst (ws.map V.str))/\H g=some (.lst (gs.map V.str))/\Lw ws mx/\i<=ws.length/\2*opc (ws.drop i)<=n/\op= !ts.isEmpty/\rn (Bt gs) mx (ws.take i)=some ⟨[]::st,ts,sm⟩/\
    (∀ H' p i' sm' u,i'<=ws.length->rn (Bt gs) mx (ws.take i')=some ⟨u::st,ts,sm'⟩->(i'<ws.length->ws.getD i' ""=clS/\ts≠[]/\u≠[])->i<=i'->SameX (Dx d) H H'->H' d=some (.dK (stK a i' sm' .non))->H p=none->H' p=some (.lst (u.map V.str))->Q (.ref p) H')/\
    (∀ H' p i' sm' e l,Bb (Bt gs) mx ws e->SameX (Dx d) H H'->H' d=some (.dK (stK a i' sm' (nV e)))->H' p=some (.lst l)->Q (.ref p) H')
def BA:Nat->Sp
  | 0=>λ _ _ _ _=>False
  | n+1=>λ vs H Q _=>∃ (d a g:Addr) (ws gs:List Str) (mx t i sm:Nat) (v:List Str) (st:List (List Str)) (ts:List Nat),vs=[.ref d,nV mx, .ref g,nV t]/\H d=some (.dK (stK a i sm .non))/\H a=some (.lst (ws.map V.str))/\H g=some (.lst (gs.map V.str))/\Lw ws mx/\i<=ws.length/\2*opc (ws.drop i)+1<=n/\rn (Bt gs) mx (ws.take i)=some ⟨[]::v::st,t::ts,sm⟩/\
    (∀ H' p i' sm' u,i'<=ws.length->rn (Bt gs) mx (ws.take i')=some ⟨(v++MFew.rep u t)::st,ts,sm'⟩->i<=i'->SameX (Dx d) H H'->H' d=some (.dK (stK a i' sm' .non))->H p=none->H' p=some (.lst ((MFew.rep u t).map V.str))->Q (.ref p) H')/\
    (∀ H' p i' sm' e,Bb (Bt gs) mx ws e->SameX (Dx d) H H'->H' d=some (.dK (stK a i' sm' (nV e)))->H' p=some (.lst [])->Q (.ref p) H')
abbrev Bg:Stmt:=top 30
theorem sc__law_group:FnScope ["_law_state","_law_most","_law_goods","_law_times_here","_law_inner"] ["_law_state","_law_most","_law_goods","_law_times_here"] (Aj Bg):=⟨rfl,rfl,rfl,by decide +kernel,rfl,by decide +kernel,by decide +kernel⟩
theorem En {n:Nat} {f:Addr} {fd:FuncData} (F:Fun K "_law_group" "_law_group" Bg f fd) (T:Txt K mg c) (c__law_level:CallF P w K mg base "_law_level" (n+1) ["_law_state","_law_most","_law_goods","_law_is_open"] (A5 n)):FnOk P w K mg base CX0 (n+2) f fd ["_law_state","_law_most","_law_goods","_law_times_here"] (BA (n+1)):=by
  refine F.ok sc__law_group (λ vs H Q E h=> ?_) (λ cdv A outer s H vs Q E hr h=> ?_)
  · obtain ⟨d,a,g,ws,gs,mx,t,i,sm,v,st,ts,rfl,_⟩:=h;rfl
  · obtain ⟨d,a,g,ws,gs,mx,t,i,sm,v,st,ts,rfl,hd,ha,hg,L,hi,hn,hrn,kQ,kE⟩:=h;have hu:=hr.units0;have hu1:=hr.units1;refine ⟨_,(Ad (An (i:=4) sc__law_group.nd rfl (Or.inl rfl) (Ao c__law_level hr (Aa (pv 0) (Aa (pv 1) (Aa (pv 2) (Aa Ju Ac))))))
      (Ad (Ax (Al DR (Aw hu1 (pv 0) Af (λ _ _=>rfl)) AQ (Ap _)) (Ah (Aq (Av Ac))) As)
      (Ad (Ax (Al BH (Aw hu1 (pv 0) Af (λ _ _=>rfl)) (Ak (AL (K:=K)) rfl (T.own _ (by decide)) boot_len (Aa (Aw hu1 (pv 0) Af (λ _ _=>rfl)) Ac)) (Ap _)) (Ad (Bi hu1 (pv 0) Af (Am AG (Aw hu1 (pv 0) Af (λ _ _=>rfl)) Ag) rfl)
      (Ah (Aq (Av Ac)))) As)
      (Ad (Bi hu1 (pv 0) Af (Am AG (Aw hu1 (pv 0) Af (λ _ _=>rfl)) Ag) rfl)
      (Ad (Bi hu1 (pv 0) Af (Am AG (Aw hu1 (pv 0) Af (λ _ _=>rfl)) (Am EE (Ak (AL (K:=K)) rfl (T.own _ (by decide)) boot_len (Aa (pv 4) Ac)) (Am By (pv 3) Ag))) rfl)
      (Ad (Ax (Al Ci (Aw hu1 (pv 0) Af (λ _ _=>rfl)) (pv 1) (Ap _)) (Ad (Bi hu1 (pv 0) Af (Aw hu1 (pv 0) Af (λ _ _=>rfl)) rfl)
      (Ah (Aq (Av Ac)))) As)
      (Ah (Aq (Am Fz (pv 4) (pv 3)))))))))),?_⟩
    walk_at "w";obtain ⟨m,rfl⟩:∃ m,n=m+1:=⟨n - 1,by omega⟩;have M0:=Gu hrn;have ht:=M0.tm t List.mem_cons_self;refine ⟨d,a,g,ws,gs,mx,true,i,sm,v::st,t::ts,rfl,hd,ha,hg,L,hi,by omega,rfl,hrn,?_,?_⟩
    · intro H1 p i1 sm1 u hi1 hrn1 hcl hle x1 hd1 hp0 hp1;walk_at "w";refine ⟨d,_,rfl,gS hd1 El,?_⟩;walk_at "w";refine ⟨rfl,?_⟩;walk_at "w";refine CZ (λ q=>absurd rfl q) (λ _=> ?_);walk_at "w";have ha1:=x1.st _ _ ha (λ z=>by rw [z,hd] at ha;cases ha);refine ⟨d,_,rfl,gS hd1 B3,?_⟩;walk_at "w";refine ⟨d,_,rfl,gS hd1 F5,?_⟩;walk_at "w";refine AI (SqL.of ha1) ?_;walk_at "w";rw [List.length_map];refine AJ (λ q=> ?_) (λ q=> ?_)
      · have e1:i1=ws.length:=by injection q
        subst e1;rw [List.take_length] at hrn1;walk_at "w";refine ⟨d,_,rfl,gS hd1 B3,?_⟩;walk_at "w";refine ⟨d,_,rfl,pS (v:=nV (ws.length+1)) hd1 (by show 4<100;decide) DU,?_⟩;walk_at "w";intro p2 hp2;exact kE _ p2 ws.length sm1 (ws.length+1) (K2 hrn1 (λ z=>by cases z)) ((Bk x1).trans (SameX.of (Ae hp2))) (Ae hp2 _ _ Ab) Ab
      · have e1:i1<ws.length:=Nat.lt_of_le_of_ne hi1 λ z=>q (by rw [z]);obtain ⟨ew,_,hune⟩:=hcl e1;have M1:=Gu hrn1;have ul:u.length<=60:=by
          have:=M1.sm;have:=M1.mo;have:=L.most;simp only [List.map_cons,List.sum_cons] at*;omega
        walk_at "w";refine ⟨d,_,rfl,gS hd1 B3,?_⟩;walk_at "w";refine ⟨d,_,rfl,pS (v:=nV (i1+1)) hd1 (by show 4<100;decide) LF,?_⟩;have x2:=Bk (o:= .dK (stK a (i1+1) sm1 .non)) x1;have hd2:upd H1 d (.dK (stK a (i1+1) sm1 .non)) d=_:=Ab;have hp2:upd H1 d (.dK (stK a (i1+1) sm1 .non)) p=_:=(if_neg (λ z=>by rw [z,hd1] at hp1;cases hp1)).trans hp1;generalize upd H1 d (.dK (stK a (i1+1) sm1 .non))=H2 at x2 hd2 hp2 ⊢;walk_at "w";refine ⟨d,_,rfl,gS hd2 FA,?_⟩;walk_at "w";refine AI (SqL.of hp2) ?_;walk_at "w";rw [List.length_map];refine ⟨_,_,rfl,rfl, .inl ⟨by omega,by omega⟩,?_⟩;walk_at "w";have es:(sm1:Int)+(u.length:Int)*((t:Int) - 1)=((sm1+u.length*(t - 1):Nat):Int):=by
          rw [show (t:Int) - 1=((t - 1:Nat):Int) by omega];push_cast;rfl
        rw [es];have er:=DT e1 hrn1;have ste:MFew.step clS tms (Bt gs) mx ⟨u::v::st,t::ts,sm1⟩ (ws.getD i1 "")=if u≠[]/\sm1+u.length*(t - 1)<=mx then some ⟨(v++MFew.rep u t)::st,ts,sm1+u.length*(t - 1)⟩ else none:=by
          rw [ew];exact if_pos rfl
        rw [ste] at er;have um:u.length*(t - 1)<=60*59:=Nat.mul_le_mul ul (by omega);generalize sm1+u.length*(t - 1)=sm2 at er ste ⊢;refine ⟨d,_,rfl,pS (v:=nV sm2) hd2 (by show 4<100;decide) Jp,?_⟩;have x3:=Bk (o:= .dK (stK a (i1+1) sm2 .non)) x2;have hd3:upd H2 d (.dK (stK a (i1+1) sm2 .non)) d=_:=Ab;have hp3:upd H2 d (.dK (stK a (i1+1) sm2 .non)) p=_:=(if_neg (λ z=>by rw [z,hd2] at hp2;cases hp2)).trans hp2;generalize upd H2 d (.dK (stK a (i1+1) sm2 .non))=H3 at x3 hd3 hp3 ⊢;walk_at "w";refine ⟨d,_,rfl,gS hd3 FA,?_⟩;walk_at "w";refine AJ (λ q2=> ?_) (λ q2=> ?_)
        · rw [if_neg (λ z=>by have:=z.2;omega)] at ste;walk_at "w";refine ⟨d,_,rfl,gS hd3 B3,?_⟩;walk_at "w";refine ⟨d,_,rfl,pS (v:=nV (i1+1)) hd3 (by show 4<100;decide) DU,?_⟩;walk_at "w";intro p2 hp4;exact kE _ p2 (i1+1) sm2 (i1+1) (Jc e1 hrn1 ste) ((Bk x3).trans (SameX.of (Ae hp4))) (Ae hp4 _ _ Ab) Ab
        · rw [if_pos ⟨hune,by omega⟩] at er;walk_at "w";refine Fp hp3 (by omega) (by omega) (by rw [List.length_map];omega) λ q hq=> ?_;rw [show ((t:Nat):Int).toNat=t by omega,Gf];have hq0:H q=none:=x3.free hq;exact kQ _ q (i1+1) sm2 u (by omega) er (by omega) (x3.trans (SameX.of (Ae hq))) (Ae hq _ _ hd3) hq0 Ab
    · intro H1 p i1 sm1 e l he x1 hd1 hp1;walk_at "w";refine ⟨d,_,rfl,gS hd1 El,?_⟩;walk_at "w";refine ⟨rfl,?_⟩;walk_at "w";refine CZ (λ _=> ?_) (λ q=>by cases q);walk_at "w";intro p2 hp2;exact kE _ p2 i1 sm1 e he (x1.trans (SameX.of (Ae hp2))) (Ae hp2 _ _ hd1) Ab
abbrev Bh:Stmt:=top 29
theorem sc__law_level:FnScope ["_law_state","_law_most","_law_goods","_law_is_open","_law_words","_law_items","_law_word_here"] ["_law_state","_law_most","_law_goods","_law_is_open"] (Aj Bh):=⟨rfl,rfl,rfl,by decide +kernel,rfl,by decide +kernel,by decide +kernel⟩
theorem EG {n:Nat} {f:Addr} {fd:FuncData} (F:Fun K "_law_level" "_law_level" Bh f fd) (T:Txt K mg c) (c__law_times:CallF P w K mg base "_law_times" 1 ["_law_word_here"] (A3 K)) (c__law_group:CallF P w K mg base "_law_group" (n+1) ["_law_state","_law_most","_law_goods","_law_times_here"] (BA n)):FnOk P w K mg base CX0 (n+2) f fd ["_law_state","_law_most","_law_goods","_law_is_open"] (A5 (n+1)):=by
  refine F.ok sc__law_level (λ vs H Q E h=> ?_) (λ cdv A outer s H vs Q E hr h=> ?_)
  · obtain ⟨d,a,g,ws,gs,mx,op,i,sm,st,ts,rfl,_⟩:=h;rfl
  · obtain ⟨d,a,g,ws,gs,mx,op,i,sm,st,ts,rfl,hd,ha,hg,L,hi,hn,hop,hrn,kQ,kE⟩:=h;have hu:=hr.units0;have hu1:=hr.units1;refine ⟨_,(Ad (An (i:=4) sc__law_level.nd rfl (Or.inl rfl) (Aw hu1 (pv 0) Af (λ _ _=>rfl)))
      (Ad (An (i:=5) sc__law_level.nd rfl (Or.inl rfl) (Av Ac))
      (Ad (Jx PassesOwn.never (PW.pt (CN (Al IK (Aw hu1 (pv 0) Af (λ _ _=>rfl)) AQ (Ap _)) (BP (Al LO (Aw hu1 (pv 0) Af (λ _ _=>rfl)) (Ak (AL (K:=K)) rfl (T.own _ (by decide)) boot_len (Aa (pv 4) Ac)) (Ap _))))) (Ad (An (i:=6) sc__law_level.nd rfl (Or.inl rfl) (A9 (Cr (K:=K)) (pv 4) (Aw hu1 (pv 0) Af (λ _ _=>rfl)) (λ _ _=>rfl)))
      (Ad (Ax (Al BH (pv 6) Af (Ap _)) (Ad (Ax (PW.pt (Dj (Ed (AZ (pv 3))) (CM (Al (GX hu (K:=K)) (pv 5) (Av Ac) (Ap _))))) (Ah (Bi hu1 (pv 0) Af (Am AG (Aw hu1 (pv 0) Af (λ _ _=>rfl)) Ag) rfl)) As)
      (Ah (Aq (pv 5)))) As)
      (Ad (Bi hu1 (pv 0) Af (Am AG (Aw hu1 (pv 0) Af (λ _ _=>rfl)) Ag) rfl)
      (Ah (Ax (Al J8 (A9 DZ (pv 6) (Am By (Ak (AL (K:=K)) rfl (T.own _ (by decide)) boot_len (Aa (pv 6) Ac)) Ag) (λ _ _=>rfl)) Af (Ap _)) (Ad (Bi hu1 (pv 0) Af (Am AG (Aw hu1 (pv 0) Af (λ _ _=>rfl)) Ag) rfl)
      (Ad (Ax (PW.pt (Dj (Al (KO (K:=K)) (pv 6) (pv 2) (by with_unfolding_all rfl)) (CM (Al Ci (Aw hu1 (pv 0) Af (λ _ _=>rfl)) (pv 1) (Ap _))))) (Ah (Bi hu1 (pv 0) Af (Aw hu1 (pv 0) Af (λ _ _=>rfl)) rfl)) As)
      (Ah (AM (Bl (K:=K) PySem.F.plainAttrs_list PySem.F.slot_list_append PySem.F.type_list_append AB (pv 5) (Aa (pv 6) Ac)))))) (Ah (Ax (Al BH (Ao c__law_times (hr.mono (by omega)) (Aa (pv 6) Ac)) Ag (Ap _)) (Ah (Bi hu1 (pv 0) Af (Aw hu1 (pv 0) Af (λ _ _=>rfl)) rfl)) (Ah (An (i:=5) sc__law_level.nd rfl (Or.inl rfl) (Am (BI (K:=K)) (pv 5) (Ao c__law_group hr (Aa (pv 0) (Aa (pv 1) (Aa (pv 2) (Aa (Ao c__law_times (hr.mono (by omega)) (Aa (pv 6) Ac)) Ac))))))))))))))))
      (Ah (Aq (pv 5)))))),?_⟩
    walk_at "w";refine ⟨d,_,rfl,gS hd F5,?_⟩;walk_at "w";intro p0 hp0;have s1:=Ae (o:=HO.lst []) hp0;have g1:upd H p0 (HO.lst []) p0=_:=Ab;generalize upd H p0 (HO.lst [])=H1 at s1 g1 ⊢;walk_at "w";refine Mg (LvW H d a g ws gs mx op i st ts) _ ⟨p0,none,rfl,SameX.of s1,hp0, .inl ⟨i,sm,[],Nat.le_refl _,hi,rfl,hrn,s1 _ _ hd,g1⟩⟩ ?_
    · rintro m σ H2 ⟨it,x6,rfl,x2,it0,(⟨i1,sm1,u,hii,hi1,rfl,hrn1,hd2,hit⟩ | ⟨e,i1,sm1,l,rfl,he,hd2,hit⟩)⟩
      · have nad:a≠d:=λ z=>by rw [z,hd] at ha;cases ha
        have ngd:g≠d:=λ z=>by rw [z,hd] at hg;cases hg
        have nid:it≠d:=λ z=>by rw [z,hd] at it0;cases it0
        have ha2:=x2.st _ _ ha nad;have hg2:=x2.st _ _ hg ngd;walk_at "w";refine ⟨d,_,rfl,gS hd2 El,?_⟩;walk_at "w";refine ⟨rfl,?_⟩;walk_at "w";refine AJ (λ _=> ?_) (λ q=>absurd rfl q);walk_at "w";refine ⟨d,_,rfl,gS hd2 B3,?_⟩;walk_at "w";refine AI (SqL.of ha2) ?_;walk_at "w";rw [List.length_map];refine AJ (λ q=> ?_) (λ q=> ?_)
        · have hlt:i1<ws.length:=by omega
          refine ⟨λ σ' H'=>∃ m',m'<_/\LvW H d a g ws gs mx op i st ts m' σ' H',λ _ _ h=>h,?_⟩;walk_at "w";refine ⟨d,_,rfl,gS hd2 B3,?_⟩;have ez:ws[i1]?=some (ws.getD i1 ""):=by rw [List.getD_eq_getElem?_getD,List.getElem?_eq_getElem hlt];rfl
          refine Bm (SqL.of ha2) (Bu (j:=i1) (by rw [List.getElem?_map,ez];rfl)) ?_;have hz:ws.getD i1 ""∈S16:=L.all _ (List.mem_of_getElem? ez);have er:=DT hlt hrn1;have eE:=λ h=>Jc hlt hrn1 h;generalize hzz:ws.getD i1 ""=z at hz er eE ⊢;walk_at "w";refine AJ (λ hz1=> ?_) (λ hz1=> ?_)
          · have hz1:z=clS:=hz1;subst hz1;have bad:∀ H3 l,Same H2 H3->H3 it=some (.lst l)->MFew.step clS tms (Bt gs) mx ⟨u::st,ts,sm1⟩ clS=none->Q (.ref it) (upd H3 d (.dK (stK a i1 sm1 (nV (i1+1))))):=λ H3 l x3 e4 h=>kE _ it i1 sm1 (i1+1) l (eE h) (Bk (x2.trans (SameX.of x3))) Ab ((if_neg nid).trans e4);cases op with
            | false=>
              have ets:ts=[]:=by
                cases ts with
                | nil=>rfl
                | cons _ _=>cases hop
              subst ets;walk_at "w";refine ⟨d,_,rfl,gS hd2 B3,?_⟩;walk_at "w";refine ⟨d,_,rfl,pS (v:=nV (i1+1)) hd2 (by show 4<100;decide) DU,?_⟩;walk_at "w";refine bad H2 _ (Same.refl _) hit ?_;unfold MFew.step;rw [if_pos rfl];cases st <;> rfl
            | true=>
              have ets:ts≠[]:=λ q=>by rw [q] at hop;cases hop
              walk_at "w";intro p5 hp5;have s3:=Ae (o:=HO.lst []) hp5;refine DQ (as:=u) (bs:=[]) (SqL.of (s3 _ _ hit)) (SqL.of Ab) ?_;have hd3:=s3 _ _ hd2;have hit3:=s3 _ _ hit;generalize upd H2 p5 (HO.lst [])=H3 at s3 hd3 hit3 ⊢;walk_at "w";refine AJ (λ hu0=> ?_) (λ hu0=> ?_)
              · walk_at "w";refine ⟨d,_,rfl,gS hd3 B3,?_⟩;walk_at "w";refine ⟨d,_,rfl,pS (v:=nV (i1+1)) hd3 (by show 4<100;decide) DU,?_⟩;walk_at "w";refine bad H3 _ s3 hit3 ?_;subst hu0;exact G6 (by show (if clS=clS then _ else _)=false;rw [if_pos rfl];exact Bool.and_false _)
              · walk_at "w";exact kQ H3 it i1 sm1 u hi1 hrn1 (λ _=>⟨hzz,ets,hu0⟩) hii (x2.trans (SameX.of s3)) hd3 it0 hit3
          · have hz1:z≠clS:=hz1;obtain ⟨zl1,zl3⟩:=E4 z hz;walk_at "w";refine ⟨d,_,rfl,gS hd2 B3,?_⟩;walk_at "w";refine ⟨d,_,rfl,pS (v:=nV (i1+1)) hd2 (by show 4<100;decide) LF,?_⟩;have x3:=Bk (o:= .dK (stK a (i1+1) sm1 .non)) x2;have hd3:upd H2 d (.dK (stK a (i1+1) sm1 .non)) d=_:=Ab;have hit3:upd H2 d (.dK (stK a (i1+1) sm1 .non)) it=_:=(if_neg nid).trans hit;have hg3:upd H2 d (.dK (stK a (i1+1) sm1 .non)) g=_:=(if_neg ngd).trans hg2;generalize upd H2 d (.dK (stK a (i1+1) sm1 .non))=H3 at x3 hd3 hit3 hg3 ⊢;walk_at "w";refine Bx (Nat.le_trans zl3 (by decide)) ?_;walk_at "w";rw [show ((z.length:Nat):Int) - 1=((z.length - 1:Nat):Int) by omega];have zll:z.cps.toList.length=z.length:=by simp [Str.length]
            refine Es (c:=B7 z) (Nat.le_trans zl3 (by decide)) (Bu (j:=z.length - 1) (by unfold B7;rw [List.getD_eq_getElem?_getD,List.getElem?_eq_getElem (by omega)];rfl)) ?_;walk_at "w";have e40:Str.ofString "("=⟨#[40]⟩:=by decide +kernel
            have M1:=Gu hrn1;have ul:u.length<=60:=by
              have:=M1.sm;have:=M1.mo;have:=L.most;simp only [List.map_cons,List.sum_cons] at*;omega
            refine CZ (λ h4=> ?_) (λ h4=> ?_)
            · have hl:B7 z≠40:=λ q=>h4 (by rw [q,e40]);have ht:=MQ z hz hz1 hl;have ste:MFew.step clS tms (Bt gs) mx ⟨u::st,ts,sm1⟩ z=if Bt gs z=true/\sm1+1<=mx then some ⟨(u++[z])::st,ts,sm1+1⟩ else none:=by
                unfold MFew.step;rw [if_neg hz1,ht]
              rw [ste] at er eE;walk_at "w";refine ⟨d,_,rfl,gS hd3 FA,?_⟩;walk_at "w";refine ⟨d,_,rfl,pS (v:=nV (sm1+1)) hd3 (by show 4<100;decide) Jp,?_⟩;have x4:=Bk (o:= .dK (stK a (i1+1) (sm1+1) .non)) x3;have hd4:upd H3 d (.dK (stK a (i1+1) (sm1+1) .non)) d=_:=Ab;have hit4:upd H3 d (.dK (stK a (i1+1) (sm1+1) .non)) it=_:=(if_neg nid).trans hit3;have hg4:upd H3 d (.dK (stK a (i1+1) (sm1+1) .non)) g=_:=(if_neg ngd).trans hg3;generalize upd H3 d (.dK (stK a (i1+1) (sm1+1) .non))=H4 at x4 hd4 hit4 hg4 ⊢;walk_at "w";refine ⟨g,_,rfl, .inl (SqL.of hg4),rfl,by simp [AK],?_⟩;walk_at "w";cases hf:Bt gs z with
              | false=>
                have hf':inV (V.str z) (gs.map V.str)=false:=hf;rw [hf',if_pos (show (if true=true then !false else false)=true from rfl)];walk_at "w";refine ⟨d,_,rfl,gS hd4 B3,?_⟩;walk_at "w";refine ⟨d,_,rfl,pS (v:=nV (i1+1)) hd4 (by show 4<100;decide) DU,?_⟩;have x5:=Bk (o:= .dK (stK a (i1+1) (sm1+1) (nV (i1+1)))) x4;have hd5:upd H4 d (.dK (stK a (i1+1) (sm1+1) (nV (i1+1)))) d=_:=Ab;have hit5:upd H4 d (.dK (stK a (i1+1) (sm1+1) (nV (i1+1)))) it=_:=(if_neg nid).trans hit4;generalize upd H4 d (.dK (stK a (i1+1) (sm1+1) (nV (i1+1))))=H5 at x5 hd5 hit5 ⊢;walk_at "w";refine tyL (SqL.of hit5) ?_;walk_at "w";refine AV hit5 (by rw [List.length_map];omega) ?_;walk_at "w";exact ⟨0,by omega,it,some (.str z),rfl,G0 x5 it0,it0, .inr ⟨i1+1,i1+1,sm1+1,_,rfl,eE (if_neg λ q=>by rw [hf] at q;cases q.1),(if_neg (λ z=>nid z.symm)).trans hd5,Ab⟩⟩
              | true=>
                have hf':inV (V.str z) (gs.map V.str)=true:=hf;rw [hf',if_neg (show ¬ (if true=true then !true else true)=true by decide)];walk_at "w";refine ⟨d,_,rfl,gS hd4 FA,?_⟩;walk_at "w";refine AJ (λ h6=> ?_) (λ h6=> ?_)
                · walk_at "w";refine ⟨d,_,rfl,gS hd4 B3,?_⟩;walk_at "w";refine ⟨d,_,rfl,pS (v:=nV (i1+1)) hd4 (by show 4<100;decide) DU,?_⟩;have x5:=Bk (o:= .dK (stK a (i1+1) (sm1+1) (nV (i1+1)))) x4;have hd5:upd H4 d (.dK (stK a (i1+1) (sm1+1) (nV (i1+1)))) d=_:=Ab;have hit5:upd H4 d (.dK (stK a (i1+1) (sm1+1) (nV (i1+1)))) it=_:=(if_neg nid).trans hit4;generalize upd H4 d (.dK (stK a (i1+1) (sm1+1) (nV (i1+1))))=H5 at x5 hd5 hit5 ⊢;walk_at "w";refine tyL (SqL.of hit5) ?_;walk_at "w";refine AV hit5 (by rw [List.length_map];omega) ?_;walk_at "w";exact ⟨0,by omega,it,some (.str z),rfl,G0 x5 it0,it0, .inr ⟨i1+1,i1+1,sm1+1,_,rfl,eE (if_neg λ q=>by have:=q.2;omega),(if_neg (λ z=>nid z.symm)).trans hd5,Ab⟩⟩
                · rw [if_pos ⟨hf,by omega⟩] at er;walk_at "w";refine tyL (SqL.of hit4) ?_;walk_at "w";refine AV hit4 (by rw [List.length_map];omega) ?_;walk_at "w";exact ⟨ws.length - (i1+1)+1,by omega,it,some (.str z),rfl,G0 x4 it0,it0, .inl ⟨i1+1,sm1+1,u++[z],by omega,hlt,rfl,er,(if_neg (λ z=>nid z.symm)).trans hd4,by rw [List.map_append];exact Ab⟩⟩
            · have hl:B7 z=40:=congrArg (λ q:Str=>q.cps.toList.getD 0 0) (h4.trans e40);obtain ⟨h8,_⟩:=JW z hz hl;have h9:=OY z h8;have hst:=IT hlt hii (show ws.getD i1 ""∈S8 by rw [hzz];exact h8);obtain ⟨n',rfl⟩:∃ n',n=n'+1:=⟨n - 1,by omega⟩;walk_at "w";refine ⟨z,rfl,h8,λ H4 s4=> ?_⟩;have x4:=x3.trans (SameX.of s4);have hd4:=s4 _ _ hd3;have hit4:=s4 _ _ hit3;have hg4:=s4 _ _ hg3;walk_at "w";refine AJ (λ h5=> ?_) (λ h5=> ?_)
              · have h5:tmN z=0:=by injection h5
                rw [if_pos h5] at h9;walk_at "w";refine ⟨d,_,rfl,gS hd4 B3,?_⟩;walk_at "w";refine ⟨d,_,rfl,pS (v:=nV (i1+1)) hd4 (by show 4<100;decide) DU,?_⟩;refine ⟨0,by omega,it,some (.str z),rfl,Bk x4,it0, .inr ⟨i1+1,i1+1,sm1,_,rfl,eE ?_,Ab,(if_neg nid).trans hit4⟩⟩;unfold MFew.step;rw [if_neg hz1,h9]
              · have h5:tmN z≠0:=λ q=>h5 (by rw [q];rfl);rw [if_neg h5] at h9;have ste:MFew.step clS tms (Bt gs) mx ⟨u::st,ts,sm1⟩ z=some ⟨[]::u::st,tmN z::ts,sm1⟩:=by
                  unfold MFew.step;rw [if_neg hz1,h9];exact if_pos M1.mo
                rw [ste] at er;walk_at "w";refine ⟨z,rfl,h8,λ H5 s5=> ?_⟩;have x5:=x4.trans (SameX.of s5);have hd5:=s5 _ _ hd4;have hit5:=s5 _ _ hit4;have hg5:=s5 _ _ hg4;have ha5:=x5.st _ _ ha nad;walk_at "w";refine ⟨d,a,g,ws,gs,mx,tmN z,i1+1,sm1,u,st,ts,rfl,hd5,ha5,hg5,L,by omega,by omega,er,?_,?_⟩
                · intro H6 p i2 sm2 u2 hi2 hrn2 hle2 x6' hd6 hp0 hp6;have hit6:=x6'.st _ _ hit5 nid;have M2:=Gu hrn2;have ul2:(u++MFew.rep u2 (tmN z)).length<=60:=by
                    have:=M2.sm;have:=M2.mo;have:=L.most;simp only [List.map_cons,List.sum_cons] at*;omega
                  refine BD (SqL.of hit6) (SqL.of hp6) (by rw [List.length_map,List.length_map, <-List.length_append];omega) λ q hq=> ?_;rw [<-List.map_append];walk_at "w";have x7:=(x5.trans x6').trans (SameX.of (Ae (o:=HO.lst ((u++MFew.rep u2 (tmN z)).map V.str)) hq));exact ⟨ws.length - i2+1,by omega,q,some (.str z),rfl,x7,(x5.trans x6').free hq, .inl ⟨i2,sm2,_,by omega,hi2,rfl,hrn2,Ae hq _ _ hd6,Ab⟩⟩
                · intro H6 p i2 sm2 e he x6' hd6 hp6;have hit6:=x6'.st _ _ hit5 nid;refine BD (SqL.of hit6) (SqL.of hp6) (by rw [List.length_map];simp only [List.length_nil];omega) λ q hq=> ?_;walk_at "w";exact ⟨0,by omega,q,some (.str z),rfl,(x5.trans x6').trans (SameX.of (Ae hq)),(x5.trans x6').free hq, .inr ⟨e,i2,sm2,_,rfl,he,Ae hq _ _ hd6,Ab⟩⟩
        · walk_at "w";have e1:i1=ws.length:=by omega
          exact kQ H2 it i1 sm1 u hi1 hrn1 (λ z=>by omega) hii x2 hd2 it0 hit
      · walk_at "w";refine ⟨d,_,rfl,gS hd2 El,?_⟩;walk_at "w";refine ⟨rfl,?_⟩;walk_at "w";refine AJ (λ q=>by cases q) (λ _=> ?_);walk_at "w";exact kE H2 it i1 sm1 e l he x2 hd2 hit
theorem Bs {f f2:Addr} {fd fd2:FuncData} (D:DefAt K mg "_law_level" Bh ["_law_state","_law_most","_law_goods","_law_is_open"] f fd) (D2:DefAt K mg "_law_group" Bg ["_law_state","_law_most","_law_goods","_law_times_here"] f2 fd2) (T:Txt K mg c) (c__law_times:CallF P w K mg base "_law_times" 1 ["_law_word_here"] (A3 K)):∀ n,FnOk P w K mg base CX0 (n+1) f fd ["_law_state","_law_most","_law_goods","_law_is_open"] (A5 n)/\FnOk P w K mg base CX0 (n+1) f2 fd2 ["_law_state","_law_most","_law_goods","_law_times_here"] (BA n)
  | 0=>⟨⟨λ _ _ _ _ h=>h.elim,λ _ _ _ _ _ _ _ _ _ _ _ _ _ h=>h.elim⟩,⟨λ _ _ _ _ h=>h.elim,λ _ _ _ _ _ _ _ _ _ _ _ _ _ h=>h.elim⟩⟩
  | n+1=>⟨EG D.fn T c__law_times (D2.call (Bs D D2 T c__law_times n).2),En D2.fn T (D.call (Bs D D2 T c__law_times n).1)⟩
def Ce:Sp:=λ vs H Q _=>∃ (a:Addr) (ws:List Str) (mx:Nat) (g:Addr) (gs:List Str),vs=[.ref a,nV mx, .ref g]/\H a=some (.lst (ws.map V.str))/\H g=some (.lst (gs.map V.str))/\Lw ws mx/\
  (∀ out cn H' p,rn (Bt gs) mx ws=some ⟨[out],[],cn⟩->ws≠[]->Same H H'->H p=none->H' p=some (.lst (out.map V.str))->Q (.ref p) H')/\
  (∀ p H',Bb (Bt gs) mx ws p->Same H H'->Q (nV p) H')
theorem G9 {H H1 H2:Hp} {d:Addr} (n:H d=none) (s:Same H H1) (x:SameX (Dx d) H1 H2):Same H H2:=λ b o e=>x.st b o (s b o e) λ z=>by rw [z,n] at e;cases e
abbrev CJ:Stmt:=top 31
theorem sc__law_due:FnScope ["_law_words","_law_most","_law_goods","_law_state","_law_items"] ["_law_words","_law_most","_law_goods"] (Aj CJ):=⟨rfl,rfl,rfl,by decide +kernel,rfl,by decide +kernel,by decide +kernel⟩
theorem Gk {f:Addr} {fd:FuncData} (F:Fun K "_law_due" "_law_due" CJ f fd) (T:Txt K mg c) (c__law_level:CallF P w K mg base "_law_level" (129+1) ["_law_state","_law_most","_law_goods","_law_is_open"] (A5 129)):FnOk P w K mg base CX0 131 f fd ["_law_words","_law_most","_law_goods"] Ce:=by
  refine F.ok sc__law_due (λ vs H Q E h=> ?_) (λ cdv A outer s H vs Q E hr h=> ?_)
  · obtain ⟨a,ws,mx,g,gs,rfl,_⟩:=h;rfl
  · obtain ⟨a,ws,mx,g,gs,rfl,ha,hg,L,kQ,kE⟩:=h;have hu:=hr.units0;have hu1:=hr.units1;refine ⟨_,(Ad (Ax (Al (GX hu (K:=K)) (pv 0) (Av Ac) (Ap _)) (Ah (Aq Ag)) As)
      (Ad (An (i:=3) sc__law_due.nd rfl (Or.inl rfl) (K1 (C9 Af (pv 0) (C9 Af Ag (C9 Af Ag (C9 Af AQ Ke)))) rfl rfl (by simp) (by decide)))
      (Ad (An (i:=4) sc__law_due.nd rfl (Or.inl rfl) (Ao c__law_level hr (Aa (pv 3) (Aa (pv 1) (Aa (pv 2) (Aa Ju Ac))))))
      (Ad (Ax (Al DR (Aw hu1 (pv 3) Af (λ _ _=>rfl)) AQ (Ap _)) (Ah (Aq (Aw hu1 (pv 3) Af (λ _ _=>rfl)))) As)
      (Ah (Aq (pv 4))))))),?_⟩
    walk_at "w";intro p1 hp1;have s1:=Ae (o:=HO.lst []) hp1;refine DQ (as:=ws) (bs:=[]) (SqL.of (s1 _ _ ha)) (SqL.of Ab) ?_;generalize upd H p1 (HO.lst [])=H1 at s1 ⊢;walk_at "w";refine AJ (λ h1=> ?_) (λ h1=> ?_)
    · walk_at "w";refine kE 1 H1 (.inr ⟨by rw [h1];rfl,?_⟩) s1;rw [h1];exact ⟨_,rfl, .inr rfl⟩
    walk_at "w";intro d hd0;walk_at "w";refine ⟨Ab,stK a 0 0 .non,rfl,by show 4<=15;decide,?_⟩;have s2:Same H1 (upd (upd H1 d (.dK [])) d (.dK (stK a 0 0 .non))):=BK (Ae hd0) hd0;have hd2:upd (upd H1 d (.dK [])) d (.dK (stK a 0 0 .non)) d=_:=Ab;change AC 3 _ _ (upd (upd H1 d (.dK [])) d (.dK (stK a 0 0 .non))) _;generalize upd (upd H1 d (.dK [])) d (.dK (stK a 0 0 .non))=H2 at s2 hd2 ⊢;have s12:=s1.trans s2;have d0:H d=none:=s1.free hd0;walk_at "w";refine ⟨d,a,g,ws,gs,mx,false,0,0,[],[],rfl,hd2,s12 _ _ ha,s12 _ _ hg,L,Nat.zero_le _,by have:=L.ops;show 2*opc (ws.drop 0)<=128;rw [List.drop_zero];omega,rfl,rfl,?_,?_⟩
    · intro H3 p i1 sm1 u hi1 hrn hcl _ x3 hd3 hp0 hp3;have e1:i1=ws.length:=by
        rcases Nat.lt_or_ge i1 ws.length with z | z
        · exact absurd rfl (hcl z).2.1
        · omega
      rw [e1,List.take_length] at hrn;walk_at "w";refine ⟨d,_,rfl,gS hd3 El,?_⟩;walk_at "w";refine ⟨rfl,?_⟩;walk_at "w";refine CZ (λ q=>absurd rfl q) (λ _=> ?_);walk_at "w";exact kQ u sm1 H3 p hrn h1 (G9 d0 s12 x3) (s12.free hp0) hp3
    · intro H3 p i1 sm1 e l he x3 hd3 hp3;walk_at "w";refine ⟨d,_,rfl,gS hd3 El,?_⟩;walk_at "w";refine ⟨rfl,?_⟩;walk_at "w";refine CZ (λ _=> ?_) (λ q=>by cases q);walk_at "w";refine ⟨d,_,rfl,gS hd3 El,?_⟩;walk_at "w";exact kE e H3 he (G9 d0 s12 x3)
def Er (x k:Int):Int:=(x%1000000007+7919*k+13)*(x%1000000007+7919*k+13)%1000000007*48271%2147483647
def BF:Sp:=λ vs H Q _=>∃ x k:Int,vs=[.int x, .int k]/\(0<=k/\k<=1000)/\Q (.int (Er x k)) H
abbrev B0:Stmt:=top 26
theorem sc__law_mixed:FnScope ["_law_cell","_law_k"] ["_law_cell","_law_k"] (Aj B0):=⟨rfl,rfl,rfl,by decide +kernel,rfl,by decide +kernel,by decide +kernel⟩
theorem EN {f:Addr} {fd:FuncData} (F:Fun K "_law_mixed" "_law_mixed" B0 f fd) (T:Txt K mg c):FnOk P w K mg base CX0 1 f fd ["_law_cell","_law_k"] BF:=by
  refine F.ok sc__law_mixed (λ vs H Q E h=> ?_) (λ cdv A outer s H vs Q E hr h=> ?_)
  · obtain ⟨x,k,rfl,_⟩:=h;rfl
  · obtain ⟨x,k,rfl,hk,q⟩:=h;refine ⟨_,(Ad (An (i:=0) sc__law_mixed.nd rfl (Or.inl rfl) (Am AG (Am AG (Am AS (pv 0) Ag) (Am EE Ag (pv 1))) Ag))
      (Ah (Aq (Am AS (Am EE (Am AS (Am EE (pv 0) (pv 0)) Ag) Ag) Ag)))),?_⟩
    have b1:=Int.emod_nonneg x (show (1000000007:Int)≠0 by decide);have b2:=Int.emod_lt_of_pos x (show (0:Int)<1000000007 by decide);walk_at "w";refine AH (by decide) ?_;walk_at "w";refine AH (.inl ⟨by decide,by decide⟩) ?_;walk_at "w";refine AH (.inl ⟨?_,?_⟩) ?_
    · show -(2 ^ 64)<x%1000000007+7919*k+13;omega
    · show x%1000000007+7919*k+13<2 ^ 64;omega
    walk_at "w";refine AH (by decide) ?_;walk_at "w";refine AH (.inr ⟨by decide,by decide⟩) ?_;walk_at "w";refine AH (by decide) ?_;exact q
theorem FQ (x:Int) {m:Nat} (h:0<m):∃ s:Nat,x%(m:Nat)=(s:Nat)/\s<m:=by
  have h0:=Int.emod_nonneg x (show ((m:Nat):Int)≠0 by omega);have h1:=Int.emod_lt_of_pos x (show (0:Int)<(m:Nat) by omega);exact ⟨(x%(m:Nat)).toNat,by omega,by omega⟩
def S19:List Str:=["1","2","3","2(","3(",")",")","0","17","2(",")","x","60(","61(","1(","(","02(","5(","-"]
theorem Mi:∀ z∈S19,z∈S16:=by decide +kernel
def B1:Sp:=λ vs H Q _=>∃ x:Int,vs=[.int x]/\∀ H' z,z∈S16->Same H H'->Q (.str z) H'
abbrev Cg:Stmt:=top 32
theorem sc__law_word:FnScope ["_law_cell","_law_some"] ["_law_cell"] (Aj Cg):=⟨rfl,rfl,rfl,by decide +kernel,rfl,by decide +kernel,by decide +kernel⟩
theorem FS {f:Addr} {fd:FuncData} (F:Fun K "_law_word" "_law_word" Cg f fd) (T:Txt K mg c) (c__law_mixed:CallF P w K mg base "_law_mixed" 1 ["_law_cell","_law_k"] BF):FnOk P w K mg base CX0 2 f fd ["_law_cell"] B1:=by
  refine F.ok sc__law_word (λ vs H Q E h=> ?_) (λ cdv A outer s H vs Q E hr h=> ?_)
  · obtain ⟨x,rfl,_⟩:=h;rfl
  · obtain ⟨x,rfl,k⟩:=h;refine ⟨_,(Ad (An (i:=1) sc__law_word.nd rfl (Or.inl rfl) (Av (Aa Af (Aa Af (Aa Af (Aa Af (Aa Af (Aa Af (Aa Af (Aa Af (Aa Af (Aa Af (Aa Af (Aa Af (Aa Af (Aa Af (Aa Af (Aa Af (Aa Af (Aa Af (Aa Af Ac)))))))))))))))))))))
      (Ah (Aq (A9 (Cr (K:=K)) (pv 1) (A9 (Cr (K:=K)) (Av (Aa (Am AS (pv 0) Ag) (Aa (Am AS (pv 0) Ag) (Aa (Am AS (pv 0) Ag) (Aa (Am AS (Am Ep (pv 0) Ag) Ag) Ac))))) (Am AS (Ao c__law_mixed hr (Aa (pv 0) (Aa Ag Ac))) Ag) (λ _ _=>rfl)) (λ _ _=>rfl))))),?_⟩
    walk_at "w";intro p hp;have s1:=Ae (o:=HO.lst (S19.map V.str)) hp;have g1:upd H p (HO.lst (S19.map V.str)) p=_:=Ab;change AC 1 _ _ (upd H p (HO.lst (S19.map V.str))) _;generalize upd H p (HO.lst (S19.map V.str))=H1 at s1 g1 ⊢;walk_at "w";refine AH (by decide) ?_;walk_at "w";refine AH (by decide) ?_;walk_at "w";refine AH (by decide) ?_;walk_at "w";refine AH ⟨by decide,by decide⟩ ?_;walk_at "w";refine AH (by decide) ?_;walk_at "w";intro p2 hp2;obtain ⟨a1,ea,la⟩:=FQ x (m:=11) (by decide);obtain ⟨b1,eb,lb⟩:=FQ (x / 11) (m:=19) (by decide);obtain ⟨t,et,lt⟩:=FQ (Er x 1) (m:=4) (by decide);rw [show x%11=((a1:Nat):Int) from ea,show x / 11%19=((b1:Nat):Int) from eb];walk_at "w";refine ⟨x,1,rfl,⟨by decide,by decide⟩,?_⟩;walk_at "w";refine AH (by decide) ?_;rw [show Er x 1%4=((t:Nat):Int) from et];obtain ⟨j,lj,ej⟩:∃ j,j<19/\atI [nV a1,nV a1,nV a1,nV b1] ((t:Nat):Int)=some (nV j):=by
      match t,lt with
      | 0,_=>exact ⟨a1,by omega,rfl⟩
      | 1,_=>exact ⟨a1,by omega,rfl⟩
      | 2,_=>exact ⟨a1,by omega,rfl⟩
      | 3,_=>exact ⟨b1,by omega,rfl⟩
    refine Bm (SqL.of Ab) ej ?_;have es:S19[j]?=some (S19.getD j ""):=by rw [List.getD_eq_getElem?_getD,List.getElem?_eq_getElem (show j<S19.length from lj)];rfl
    refine Bm (SqL.of (Ae hp2 _ _ g1)) (Bu (j:=j) (by rw [List.getElem?_map,es];rfl)) ?_;exact k _ _ (Mi _ (List.mem_of_getElem? es)) (s1.trans (Ae hp2))
theorem ifE {c:TT} {t u:TS} {D:Ends} {σ:L2.St} {H:Hp} (h2:u D σ H->Hr c t u D σ H) (h1:u D σ H):Hr c t u D σ H:=h2 h1
theorem Bd {us vs:List Str} (h:∀ z∈us,z∈S16) (h':∀ z∈vs,z∈S16):∀ z∈us++vs,z∈S16:=λ z hz=>by
  rcases List.mem_append.mp hz with hz | hz
  · exact h z hz
  · exact h' z hz
theorem G2 {us:List Str} (hne:us≠[]):us[us.length - 1]?=some (us.getD (us.length - 1) ""):=by
  have:=List.length_pos_iff.mpr hne;rw [List.getD_eq_getElem?_getD,List.getElem?_eq_getElem (by omega)];rfl
def CI (K:PySem.W.Frag):Sp:=λ vs H Q _=>∃ (a:Addr) (ws:List Str),vs=[.ref a]/\H a=some (.lst (ws.map V.str))/\(∀ z∈ws,z∈S16)/\ws.length<=63/\∀ H' p (us:List Str),Same H H'->H p=none->H' p=some (.lst (us.map V.str))->(∀ z∈us,z∈S16)->us.length<=134->opc us<=63->Q (.ref p) H'
abbrev BO:Stmt:=top 33
theorem sc__law_right:FnScope ["_law_words","_law_told_here","_law_depth","_law_word_here"] ["_law_words"] (Aj BO):=⟨rfl,rfl,rfl,by decide +kernel,rfl,by decide +kernel,by decide +kernel⟩
theorem EJ {f:Addr} {fd:FuncData} (F:Fun K "_law_right" "_law_right" BO f fd) (T:Txt K mg c) (c__law_times:CallF P w K mg base "_law_times" 1 ["_law_word_here"] (A3 K)):FnOk P w K mg base CX0 2 f fd ["_law_words"] (CI K):=by
  refine F.ok sc__law_right (λ vs H Q E h=> ?_) (λ cdv A outer s H vs Q E hr h=> ?_)
  · obtain ⟨a,ws,rfl,_⟩:=h;rfl
  · obtain ⟨a,ws,rfl,ha,hz,hl,k⟩:=h;have hu:=hr.units0;refine ⟨_,(Ad (An (i:=1) sc__law_right.nd rfl (Or.inl rfl) (Av Ac))
      (Ad (An (i:=2) sc__law_right.nd rfl (Or.inl rfl) Ag)
      (Ad (Gy PassesOwn.never rfl (Hf (K:=K) (pv 0)) (C6 (i:=3) sc__law_right.nd rfl (Or.inl rfl)) (Ah (Ax (PW.pt (CN (Al BH (pv 3) Af (Ap _)) (BP (Al Ci (pv 2) Ag (Ap _))))) (Ad (An (i:=1) sc__law_right.nd rfl (Or.inl rfl) (Am (BI (K:=K)) (Am (BI (K:=K)) (pv 1) (Am Fz (Av (Aa Af Ac)) (Bj MI rfl (T.own _ (by decide)) boot_int (Aa (Bv BH (AE Fl (A9 (Cr (K:=K)) (pv 1) (Am By (Ak (AL (K:=K)) rfl (T.own _ (by decide)) boot_len (Aa (pv 1) Ac)) Ag) (λ _ _=>rfl)) (AN (EV Dm Ag)) AO) Af (Ap _)) Ac)))) (Av (Aa Af Ac))))
      (Ah (An (i:=2) sc__law_right.nd rfl (Or.inl rfl) (Am By (pv 2) Ag)))) (Ah (Ax (PW.pt (CN (Al BH (A9 DZ (pv 3) (Am By (Ak (AL (K:=K)) rfl (T.own _ (by decide)) boot_len (Aa (pv 3) Ac)) Ag) (λ _ _=>rfl)) Af (Ap _)) (BP (Al LO (pv 2) Ag (Ap _))))) (Ad (AM (Bl (K:=K) PySem.F.plainAttrs_list PySem.F.slot_list_append PySem.F.type_list_append AB (pv 1) (Aa (Eg (Al BH (Ao c__law_times hr (Aa (pv 3) Ac)) Ag (Ap _)) Af (pv 3)) Ac)))
      (Ah (An (i:=2) sc__law_right.nd rfl (Or.inl rfl) (Am AG (pv 2) Ag)))) (Ah (AM (Bl (K:=K) PySem.F.plainAttrs_list PySem.F.slot_list_append PySem.F.type_list_append AB (pv 1) (Aa (Eg (Al Do (A9 DZ (pv 3) (Am By (Ak (AL (K:=K)) rfl (T.own _ (by decide)) boot_len (Aa (pv 3) Ac)) Ag) (λ _ _=>rfl)) Af (by with_unfolding_all rfl)) Af (pv 3)) Ac)))))))))
      (Ad (Ax (PW.pt (CN (Al Ci (pv 2) Ag (Ap _)) (BP (Al BH (AE Fl (A9 (Cr (K:=K)) (pv 1) (Am By (Ak (AL (K:=K)) rfl (T.own _ (by decide)) boot_len (Aa (pv 1) Ac)) Ag) (λ _ _=>rfl)) (AN (EV Dm Ag)) AO) Af (Ap _))))) (Ah (AM (Bl (K:=K) PySem.F.plainAttrs_list PySem.F.slot_list_append PySem.F.type_list_append AB (pv 1) (Aa Af Ac)))) As)
      (Ah (Aq (Am (BI (K:=K)) (pv 1) (Am Fz (Av (Aa Af Ac)) (pv 2))))))))),?_⟩
    walk_at "w";intro t0 ht0;have s1:=Ae (o:=HO.lst []) ht0;have g1:upd H t0 (HO.lst []) t0=_:=Ab;generalize upd H t0 (HO.lst [])=H1 at s1 g1 ⊢;walk_at "w";refine ⟨a,rfl,⟨_,SqL.of (s1 _ _ ha)⟩,EH (H0:=H) (Kt (SqL.of ha)) (λ i σ H3=>∃ (t:Addr) (dp:Nat) (x3:Option V) (us:List Str),σ=[some (.ref a),some (.ref t),some (nV dp),x3]/\Same H H3/\H t=none/\H3 t=some (.lst (us.map V.str))/\us.length<=2*i/\(∀ z∈us,z∈S16)/\dp<=5/\(0<dp->us≠[])/\opc us<=i) ⟨t0,0,none,[],rfl,s1,ht0,g1,Nat.le_refl _,by simp,by decide,(λ h=>by cases h),Nat.le_refl _⟩ (λ i σ H3 ⟨_,_,_,_,_,s,_⟩=>s) ?_ ?_⟩
    · rintro i σ H2 H3 hi ⟨t,dp,x3,us,rfl,s2,t0,g2,hul,hus,hdp,hne,hop⟩ s3';have s3:=s2.trans s3';have g3:=s3' _ _ g2;clear s3';rw [List.length_map] at hi;have ez:ws[i]?=some (ws.getD i ""):=by rw [List.getD_eq_getElem?_getD,List.getElem?_eq_getElem hi];rfl
      have ev:(ws.map V.str).getD i .non= .str (ws.getD i ""):=by rw [List.getD_eq_getElem?_getD,List.getElem?_map,ez];rfl
      have hzs:ws.getD i ""∈S16:=hz _ (List.mem_of_getElem? ez);rw [ev];generalize ws.getD i ""=z at hzs ⊢;obtain ⟨zl1,zl3⟩:=E4 z hzs;have zll:z.cps.toList.length=z.length:=by simp [Str.length]
      refine ifE (λ els=> ?_) ?_
      · walk_at "w";refine AJ (λ h1=> ?_) (λ h1=>GK els);walk_at "w";refine AJ (λ h2=> ?_) (λ h2=>els);clear els;have hne:=hne (by omega);have hlp:=List.length_pos_iff.mpr hne;have el:=G2 hne;have hy:=hus _ (List.mem_of_getElem? el);walk_at "w";intro p5 hp5;have s5:=Ae (o:=HO.lst [V.str "1"]) hp5;have g5:upd H3 p5 (HO.lst [V.str "1"]) p5=_:=Ab;have g53:=s5 _ _ g3;generalize upd H3 p5 (HO.lst [V.str "1"])=H5 at s5 g5 g53 ⊢;walk_at "w";refine AI (SqL.of g53) ?_;walk_at "w";rw [List.length_map,show ((us.length:Nat):Int) - 1=((us.length - 1:Nat):Int) by omega];refine Bm (SqL.of g53) (Bu (j:=us.length - 1) (by rw [List.getElem?_map,el];rfl)) ?_;generalize us.getD (us.length - 1) ""=y at hy ⊢;walk_at "w";refine FI (Nat.le_trans (E4 y hy).2 (by decide)) ?_;walk_at "w";refine ⟨_,rfl,?_⟩;generalize decide (Txt.slice y (some (-1)) none=Str.ofString "(")=bb;refine Fp g5 (by split <;> omega) (by split <;> omega) (by decide) λ q hq=> ?_;obtain ⟨vs,ev,hvs,lvs,ovs⟩:∃ vs:List Str,(List.replicate (if bb=true then (1:Int) else 0).toNat [V.str "1"]).flatten=vs.map V.str/\(∀ z∈vs,z∈S16)/\vs.length<=1/\opc vs=0:=by
          cases bb
          · exact ⟨[],rfl,by simp,by decide,rfl⟩
          · exact ⟨["1"],rfl,by decide +kernel,by decide,by decide +kernel⟩
        rw [ev];have s6:=Ae (o:=HO.lst (vs.map V.str)) hq;refine BD (SqL.of (s6 _ _ g53)) (SqL.of Ab) (by rw [List.length_map,List.length_map];omega) λ q7 hq7=> ?_;rw [<-List.map_append];have s37:=s5.trans (s6.trans (Ae (o:=HO.lst ((us++vs).map V.str)) hq7));have g7:upd (upd H5 q (HO.lst (vs.map V.str))) q7 (HO.lst ((us++vs).map V.str)) q7=_:=Ab;generalize upd (upd H5 q (HO.lst (vs.map V.str))) q7 (HO.lst ((us++vs).map V.str))=H7 at s37 g7 ⊢;walk_at "w";intro p8 hp8;have s8:=Ae (o:=HO.lst [V.str ")"]) hp8;refine BD (SqL.of (s8 _ _ g7)) (SqL.of (Ab (o:=HO.lst ([clS].map V.str)))) (by rw [List.length_map,List.length_map,List.length_append];show us.length+vs.length+1<=_;omega) λ q9 hq9=> ?_;rw [<-List.map_append];have s39:=s3.trans (s37.trans (s8.trans (Ae (o:=HO.lst ((us++vs++[clS]).map V.str)) hq9)));have f9:H q9=none:=(s3.trans (s37.trans s8)).free hq9;walk_at "w";rw [show ((dp:Nat):Int) - 1=((dp - 1:Nat):Int) by omega];exact ⟨q9,dp - 1,some (.str z),us++vs++[clS],rfl,s39,f9,Ab,by rw [List.length_append,List.length_append];show us.length+vs.length+1<=_;omega,Bd (Bd hus hvs) (by decide +kernel),by omega,λ _=>by simp,by rw [AX,AX,ovs,show opc [clS]=0 by decide +kernel];omega⟩
      · have e40:Str.ofString "("=⟨#[40]⟩:=by decide +kernel
        have app:∀ H4 (y:Str) dp',Same H H4->H4 t=some (.lst (us.map V.str))->y∈S16->dp'<=5->∃ (t':Addr) (d':Nat) (x3:Option V) (us':List Str),[some (V.ref a),some (V.ref t),some (nV dp'),some (V.str z)]=[some (.ref a),some (.ref t'),some (nV d'),x3]/\Same H (upd H4 t (.lst (us.map V.str++[V.str y])))/\H t'=none/\upd H4 t (.lst (us.map V.str++[V.str y])) t'=some (.lst (us'.map V.str))/\us'.length<=2*(i+1)/\(∀ z∈us',z∈S16)/\d'<=5/\(0<d'->us'≠[])/\opc us'<=i+1:=λ H4 y dp' s4 g4 hy hd'=>
          ⟨t,dp',_,us++[y],rfl,BK s4 t0,t0,by rw [List.map_append];exact Ab,by rw [List.length_append];show us.length+1<=_;omega,Bd hus (λ q hq=>by rw [List.mem_singleton.mp hq];exact hy),hd',λ _=>by simp,by rw [AX];have:opc [y]<=1:=List.countP_le_length;omega⟩
        have last:atI z.cps.toList ((z.length - 1:Nat):Int)=some (B7 z):=Bu (j:=z.length - 1) (by unfold B7;rw [List.getD_eq_getElem?_getD,List.getElem?_eq_getElem (by omega)];rfl);refine ifE (λ els=> ?_) ?_
        · walk_at "w";refine Bx (Nat.le_trans zl3 (by decide)) ?_;walk_at "w";rw [show ((z.length:Nat):Int) - 1=((z.length - 1:Nat):Int) by omega];refine Es (Nat.le_trans zl3 (by decide)) last ?_;walk_at "w";refine AJ (λ h1=> ?_) (λ h1=>GK els);have h8:=(JW z hzs (congrArg (λ q:Str=>q.cps.toList.getD 0 0) (h1.trans e40))).1;walk_at "w";refine AJ (λ h2=> ?_) (λ h2=>els);clear els;walk_at "w";refine tyL (SqL.of g3) ?_;walk_at "w";refine ⟨z,rfl,h8,λ H4 s4=> ?_⟩;walk_at "w";refine AJ (λ h3=> ?_) (λ h3=> ?_)
          · walk_at "w";refine AV (s4 _ _ g3) (by rw [List.length_map];omega) ?_;walk_at "w";exact app H4 "2(" (dp+1) (s3.trans s4) (s4 _ _ g3) (by decide +kernel) (by omega)
          · walk_at "w";refine AV (s4 _ _ g3) (by rw [List.length_map];omega) ?_;walk_at "w";exact app H4 z (dp+1) (s3.trans s4) (s4 _ _ g3) hzs (by omega)
        · walk_at "w";refine tyL (SqL.of g3) ?_;walk_at "w";refine Bx (Nat.le_trans zl3 (by decide)) ?_;walk_at "w";rw [show ((z.length:Nat):Int) - 1=((z.length - 1:Nat):Int) by omega];refine Es (Nat.le_trans zl3 (by decide)) last ?_;walk_at "w";refine ⟨_,_,rfl,rfl,?_⟩;walk_at "w";refine Ga (λ h3=> ?_) (λ h3=> ?_)
          · walk_at "w";refine AV g3 (by rw [List.length_map];omega) ?_;walk_at "w";exact app H3 "3" dp s3 g3 (by decide +kernel) hdp
          · walk_at "w";refine AV g3 (by rw [List.length_map];omega) ?_;walk_at "w";exact app H3 z dp s3 g3 hzs hdp
    · rintro σ H3 ⟨t,dp,x3,us,rfl,s3,t0,g3,hul,hus,hdp,hne,hop⟩;rw [List.length_map] at hul hop;have fin:∀ H4 (us':List Str),Same H H4->H4 t=some (.lst (us'.map V.str))->us'.length<=128->(∀ z∈us',z∈S16)->opc us'<=63->ML (tOp (F0 K) (Ia 1) (tOp My (Mp (Gb (tC (V.str (Str.ofString ")"))) Kd)) (Ia 2))) { nx:=λ x H'=>Q V.non H',rt:=Q } [some (V.ref a),some (V.ref t),some (nV dp),x3] H4:=λ H4 us' s4 g4 hl4 hz4 ho4=>by
        walk_at "w";intro p5 hp5;have s5:=Ae (o:=HO.lst [V.str ")"]) hp5;have g5:upd H4 p5 (HO.lst [V.str ")"]) p5=_:=Ab;have g54:=s5 _ _ g4;generalize upd H4 p5 (HO.lst [V.str ")"])=H5 at s5 g5 g54 ⊢;walk_at "w";refine Fp g5 (by omega) (by omega) (by decide) λ q hq=> ?_;have s6:=Ae (o:=HO.lst (List.replicate (dp:Int).toNat [V.str ")"]).flatten) hq;have er:(List.replicate (dp:Int).toNat [V.str ")"]).flatten=(List.replicate dp clS).map V.str:=by
          rw [Int.toNat_natCast,List.map_replicate,List.flatten_replicate_singleton]
        rw [er] at s6 ⊢;refine BD (SqL.of (s6 _ _ g54)) (SqL.of Ab) (by rw [List.length_map,List.length_map,List.length_replicate];omega) λ q7 hq7=> ?_;rw [<-List.map_append];have s46:=s4.trans (s5.trans s6);refine k _ q7 _ (s46.trans (Ae hq7)) (s46.free hq7) Ab (λ z hz=> ?_) (by rw [List.length_append,List.length_replicate];omega) (by rw [AX,show opc (List.replicate dp clS)=0 from List.countP_eq_zero.mpr λ z hz=>by rw [List.eq_of_mem_replicate hz];decide +kernel];omega);rcases List.mem_append.mp hz with hz | hz
        · exact hz4 z hz
        · rw [List.eq_of_mem_replicate hz];decide +kernel
      walk_at "w";refine AJ (λ h1=> ?_) (λ h1=> ?_)
      · have hne:=hne (by omega);have hlp:=List.length_pos_iff.mpr hne;have el:=G2 hne;have hy:=hus _ (List.mem_of_getElem? el);walk_at "w";refine AI (SqL.of g3) ?_;walk_at "w";rw [List.length_map,show ((us.length:Nat):Int) - 1=((us.length - 1:Nat):Int) by omega];refine Bm (SqL.of g3) (Bu (j:=us.length - 1) (by rw [List.getElem?_map,el];rfl)) ?_;generalize us.getD (us.length - 1) ""=y at hy ⊢;walk_at "w";refine FI (Nat.le_trans (E4 y hy).2 (by decide)) ?_;walk_at "w";refine AJ (λ h2=> ?_) (λ h2=> ?_)
        · walk_at "w";refine tyL (SqL.of g3) ?_;walk_at "w";refine AV g3 (by rw [List.length_map];omega) ?_;refine fin _ (us++[("2":Str)]) (BK s3 t0) (by rw [List.map_append];exact Ab) (by rw [List.length_append];show us.length+1<=128;omega) (λ z hz=> ?_) (by rw [AX,show opc [("2":Str)]=0 by decide +kernel];omega);rcases List.mem_append.mp hz with hz | hz
          · exact hus z hz
          · rw [List.mem_singleton.mp hz];decide +kernel
        · exact fin H3 us s3 g3 (by omega) hus (by omega)
      · exact GK (fin H3 us s3 g3 (by omega) hus (by omega))
theorem CY {us:List Str} {i:Nat}:Dv (us.map V.str) none (some ((i:Nat):Int))=(us.take i).map V.str:=by rw [Ji (by omega),Int.toNat_natCast,List.map_take]
theorem Ew {us:List Str} {i:Nat}:Dv (us.map V.str) (some ((i:Nat):Int)) none=(us.drop i).map V.str:=by rw [IR (by omega),Int.toNat_natCast,List.map_drop]
theorem C1 {K:PySem.W.Frag} {H:Hp} {Q:VK} {l p:Addr} {xs ys:List Str} (c:H l=some (.lst (xs.map V.str))) (d:H p=some (.lst (ys.map V.str))) (b:xs.length+ys.length<=1000) (h:∀ q,H q=none->Q (.ref q) (upd H q (.lst ((xs++ys).map V.str)))):F0 K (.ref l) (.ref p) H Q:=BD (SqL.of c) (SqL.of d) (by rw [List.length_map,List.length_map];omega) (by rw [<-List.map_append];exact h)
theorem EB {us:List Str} {i:Nat} (h:∀ z∈us,z∈S16):∀ z∈us.take i,z∈S16:=λ z hz=>h z (List.mem_of_mem_take hz)
theorem EI {us:List Str} {i:Nat} (h:∀ z∈us,z∈S16):∀ z∈us.drop i,z∈S16:=λ z hz=>h z (List.mem_of_mem_drop hz)
def C4 (K:PySem.W.Frag):Sp:=λ vs H Q _=>∃ (a:Addr) (us:List Str) (x:Int),vs=[.ref a, .int x]/\H a=some (.lst (us.map V.str))/\(∀ z∈us,z∈S16)/\us.length<=134/\opc us<=63/\∀ H' p (vs:List Str),Same H H'->H' p=some (.lst (vs.map V.str))->(∀ z∈vs,z∈S16)->vs.length<=135->opc vs<=64->Q (.ref p) H'
abbrev Cp:Stmt:=top 34
theorem sc__law_bent:FnScope ["_law_words","_law_number","_law_at","_law_word_here","_law_some"] ["_law_words","_law_number"] (Aj Cp):=⟨rfl,rfl,rfl,by decide +kernel,rfl,by decide +kernel,by decide +kernel⟩
theorem FB {f:Addr} {fd:FuncData} (F:Fun K "_law_bent" "_law_bent" Cp f fd) (T:Txt K mg c) (c__law_word:CallF P w K mg base "_law_word" 2 ["_law_cell"] B1):FnOk P w K mg base CX0 3 f fd ["_law_words","_law_number"] (C4 K):=by
  refine F.ok sc__law_bent (λ vs H Q E h=> ?_) (λ cdv A outer s H vs Q E hr h=> ?_)
  · obtain ⟨a,us,x,rfl,_⟩:=h;rfl
  · obtain ⟨a,us,x,rfl,ha,hus,hul,hop,k⟩:=h;have hu:=hr.units0;refine ⟨_,(Ad (An (i:=2) sc__law_bent.nd rfl (Or.inl rfl) (Am AS (Am Ep (pv 1) Ag) (Am AG (Ak (AL (K:=K)) rfl (T.own _ (by decide)) boot_len (Aa (pv 0) Ac)) Ag)))
      (Ad (An (i:=3) sc__law_bent.nd rfl (Or.inl rfl) (Ao c__law_word hr (Aa (Am Ep (pv 1) Ag) Ac)))
      (Ad (An (i:=4) sc__law_bent.nd rfl (Or.inl rfl) (Av (Aa (pv 0) (Aa (Am (BI (K:=K)) (Am (BI (K:=K)) (AE (Dz (K:=K)) (pv 0) AO (AN (pv 2))) (Av (Aa (pv 3) Ac))) (AE (Dz (K:=K)) (pv 0) (AN (pv 2)) AO)) (Aa (Am (BI (K:=K)) (AE (Dz (K:=K)) (pv 0) AO (AN (pv 2))) (AE (Dz (K:=K)) (pv 0) (AN (Am AG (pv 2) Ag)) AO)) Ac)))))
      (Ad (AM (Bl (K:=K) PySem.F.plainAttrs_list PySem.F.slot_list_append PySem.F.type_list_append AB (pv 4) (Aa (Am (BI (K:=K)) (Am (BI (K:=K)) (AE (Dz (K:=K)) (pv 0) AO (AN (pv 2))) (Av (Aa (pv 3) Ac))) (AE (Dz (K:=K)) (pv 0) (AN (Am AG (pv 2) Ag)) AO)) Ac)))
      (Ah (Aq (A9 (Cr (K:=K)) (pv 4) (Am AS (pv 1) Ag) (λ _ _=>rfl)))))))),?_⟩
    walk_at "w";refine AH ⟨by decide,by decide⟩ ?_;walk_at "w";refine AI (SqL.of ha) ?_;walk_at "w";rw [List.length_map];refine AH (by omega) ?_;obtain ⟨i,ei,li⟩:=FQ (x / 4) (m:=us.length+1) (by omega);rw [show x / 4%(((us.length:Nat):Int)+1)=((i:Nat):Int) from ei];walk_at "w";refine AH ⟨by decide,by decide⟩ ?_;walk_at "w";refine ⟨_,rfl,λ H1 z hz s1=> ?_⟩;have ha1:=s1 _ _ ha;walk_at "w";refine Ck (SqL.of ha1) ?_;rw [CY];row_lines H1 x2;walk_at "w";row_lines H2 x3;walk_at "w";have lt:(us.take i).length<=i:=by rw [List.length_take];omega
    have ld:∀ j,(us.drop j).length<=us.length - j:=λ j=>by rw [List.length_drop];exact Nat.le_refl _
    have ld0:=ld i;have ld1:=ld (i+1);refine C1 (ys:=[z]) (s3 _ _ g2) g3 (by show _+1<=_;omega) ?_;row_lines H3 x4;walk_at "w";have ha4:=(s2.trans (s3.trans s4)) _ _ ha1;refine Ck (SqL.of ha4) ?_;rw [Ew];row_lines H4 x5;refine C1 (s5 _ _ g4) g5 (by rw [List.length_append];show _+1+_<=_;omega) ?_;row_lines H5 x6;walk_at "w";have ha6:=(s5.trans s6) _ _ ha4;refine Ck (SqL.of ha6) ?_;rw [CY];row_lines H6 x7;walk_at "w";refine Ck (SqL.of (s7 _ _ ha6)) ?_;rw [show ((i:Nat):Int)+1=((i+1:Nat):Int) by omega,Ew];row_lines H7 x8;refine C1 (s8 _ _ g7) g8 (by omega) ?_;row_lines H8 x9;walk_at "w";row_lines H9 x10;walk_at "w";have s610:=s7.trans (s8.trans (s9.trans s10));have ha10:=s610 _ _ ha6;refine tyL (SqL.of g10) ?_;walk_at "w";refine Ck (SqL.of ha10) ?_;rw [CY];row_lines H10 x11;walk_at "w";row_lines H11 x12;refine C1 (ys:=[z]) (s12 _ _ g11) g12 (by show _+1<=_;omega) ?_;row_lines H12 x13;walk_at "w";have s1013:=s11.trans (s12.trans s13);refine Ck (SqL.of (s1013 _ _ ha10)) ?_;rw [show ((i:Nat):Int)+1=((i+1:Nat):Int) by omega,Ew];row_lines H13 x14;refine C1 (s14 _ _ g13) g14 (by rw [List.length_append];show _+1+_<=_;omega) ?_;row_lines H14 x15;walk_at "w";have s1015:=s1013.trans (s14.trans s15);have g1014:=(s1013.trans s14) _ _ g10;refine AV (s1015 _ _ g10) (by show 3<16777216;decide) ?_;have s16:Same H9 (upd H15 p10 (HO.lst ([V.ref a,V.ref p6,V.ref p9]++[V.ref p15]))):=BK (s10.trans s1015) n10;have g16:upd H15 p10 (HO.lst ([V.ref a,V.ref p6,V.ref p9]++[V.ref p15])) p10=_:=Ab;have g15':upd H15 p10 (HO.lst ([V.ref a,V.ref p6,V.ref p9]++[V.ref p15])) p15=_:=(Ai (λ q=>by rw [q,g1014] at n15;cases n15)).trans g15;generalize upd H15 p10 (HO.lst ([V.ref a,V.ref p6,V.ref p9]++[V.ref p15]))=H16 at s16 g16 g15' ⊢;walk_at "w";refine AH (by decide) ?_;obtain ⟨t,et,ltt⟩:=FQ x (m:=4) (by decide);rw [show x%4=((t:Nat):Int) from et];have s69:=s7.trans (s8.trans s9);have sH9:=s1.trans (s2.trans (s3.trans (s4.trans (s5.trans (s6.trans s69)))));have z1:∀ y∈[z],y∈S16:=λ y hy=>by rw [List.mem_singleton.mp hy];exact hz
    obtain ⟨q,vs,e1,e2,e3,e4,e5⟩:∃ (q:Addr) (vs:List Str),atI [V.ref a,V.ref p6,V.ref p9,V.ref p15] ((t:Nat):Int)=some (.ref q)/\H16 q=some (.lst (vs.map V.str))/\(∀ y∈vs,y∈S16)/\vs.length<=135/\opc vs<=64:=by
      have o1:opc (us.take i)+opc (us.drop i)=opc us:=by rw [<-AX,List.take_append_drop]
      have o2:opc (us.drop (i+1))<=opc (us.drop i):=by rw [<-List.drop_drop];exact Hk (List.drop_sublist ..)
      have o3:opc [z]<=1:=List.countP_le_length
      match t,ltt with
      | 0,_=>exact ⟨a,us,rfl,s16 _ _ (sH9 _ _ ha),hus,by omega,by omega⟩
      | 1,_=>exact ⟨p6,_,rfl,s16 _ _ (s69 _ _ g6),Bd (Bd (EB hus) z1) (EI hus),by rw [List.length_append,List.length_append];show _+1+_<=_;omega,by rw [AX,AX];omega⟩
      | 2,_=>exact ⟨p9,_,rfl,s16 _ _ g9,Bd (EB hus) (EI hus),by rw [List.length_append];omega,by rw [AX];omega⟩
      | 3,_=>exact ⟨p15,_,rfl,g15',Bd (Bd (EB hus) z1) (EI hus),by rw [List.length_append,List.length_append];show _+1+_<=_;omega,by rw [AX,AX];omega⟩
    refine Bm (SqL.of g16) e1 ?_;exact k H16 q vs (sH9.trans s16) e2 e3 e4 e5
theorem Ez {mx:Nat} {fits:Str->Bool} {ws:List Str} {i j:Nat} (h:i<=j) (e:rn fits mx (ws.take i)=none):rn fits mx (ws.take j)=none:=by
  obtain ⟨d,rfl⟩:∃ d,j=i+d:=⟨j - i,by omega⟩;unfold rn;rw [List.take_add,MFew.run_app,show MFew.run clS tms fits mx M0 (ws.take i)=none from e]
theorem Gj {mx:Nat} {fits:Str->Bool} {ws:List Str} {p:Nat} {s:MFew.Sm Str} (h1:1<=p) (h2:p<=ws.length) (hs:rn fits mx (ws.take (p - 1))=some s) (e:MFew.step clS tms fits mx s (ws.getD (p - 1) "")=none):rn fits mx (ws.take p)=none:=by
  have:=DT (show p - 1<ws.length by omega) hs;rw [show p - 1+1=p by omega] at this;rw [this,e]
theorem Ha {mx:Nat} {fits:Str->Bool} {ws out:List Str} {cn p:Nat} (h:rn fits mx ws=some ⟨[out],[],cn⟩) (hne:ws≠[]) (e:Bb fits mx ws p):False:=by
  rcases e with ⟨s,h1,h2,hs,e⟩ | ⟨_,s,hs,e⟩
  · have:=Ez h2 (Gj h1 h2 hs e);rw [List.take_length,h] at this;cases this
  · rw [h] at hs;cases hs;rcases e with e | e
    · exact e rfl
    · exact hne e
theorem Ld {mx:Nat} {fits:Str->Bool} {ws:List Str} {p q:Nat} (e:Bb fits mx ws p) (e':Bb fits mx ws q):p=q:=by
  have key:∀ {p q:Nat},Bb fits mx ws p->Bb fits mx ws q->q<p->False:=λ {p q} e e' hlt=>by
    rcases e' with ⟨s',g1,g2,hs',f⟩ | ⟨rfl,_⟩
    · have n:=Gj g1 g2 hs' f;rcases e with ⟨s,h1,h2,hs,_⟩ | ⟨_,s,hs,_⟩
      · have:=Ez (show q<=p - 1 by omega) n;rw [hs] at this;cases this
      · have:=Ez g2 n;rw [List.take_length,hs] at this;cases this
    · rcases e with ⟨s,h1,h2,_,_⟩ | ⟨h,_⟩ <;> omega
  rcases Nat.lt_trichotomy p q with h | h | h
  · exact (key e' e h).elim
  · exact h
  · exact (key e e' h).elim
def LC (fits:Str->Bool) (mx:Nat) (ws:List Str) (H H':Hp) (v:V):Prop:=(∃ out cn p,v= .ref p/\rn fits mx ws=some ⟨[out],[],cn⟩/\ws≠[]/\H p=none/\H' p=some (.lst (out.map V.str)))\/(∃ e,v=nV e/\Bb fits mx ws e)
theorem MF {H:Hp} {Q:VK} {E:XK} {a g:Addr} {ws gs:List Str} {mx:Nat} (ha:H a=some (.lst (ws.map V.str))) (hg:H g=some (.lst (gs.map V.str))) (L:Lw ws mx) (h:∀ v H',Same H H'->LC (Bt gs) mx ws H H' v->Q v H'):Ce [.ref a,nV mx, .ref g] H Q E:=
  ⟨a,ws,mx,g,gs,rfl,ha,hg,L,λ out cn H' p h1 h2 s h3 h4=>h _ H' s (.inl ⟨out,cn,p,rfl,h1,h2,h3,h4⟩),λ p H' e s=>h _ H' s (.inr ⟨p,rfl,e⟩)⟩
theorem Hb {ws:List Str} (h:∀ z∈ws,z∈S16):∀ z∈ws,z.length<=100:=λ z hz=>Nat.le_trans (E4 z (h z hz)).2 (by decide)
theorem Kl {K:PySem.W.Frag} {TT:Addr} {H:Hp} {Q:VK} {E:XK} {a g:Addr} {ws gs:List Str} {mx:Nat} (ha:H a=some (.lst (ws.map V.str))) (hg:H g=some (.lst (gs.map V.str))) (L:Lw ws mx) (hT:LamT H TT Fi) (h:∀ v H',SX TT H H'->LamT H' TT Fi->LC (Bt gs) mx ws H H' v->Q v H'):BZ K TT [.ref a,nV mx, .ref g] H Q E:=
  ⟨a,ws,mx,g,gs,rfl,ha,hg,Nat.le_trans L.len (by decide),Hb L.all,L.most,hT,λ out cn H' p h1 h2 s t h3 h4=>h _ H' s t (.inl ⟨out,cn,p,rfl,h1,h2,h3,h4⟩),λ p H' e s t=>h _ H' s t (.inr ⟨p,rfl,e⟩)⟩
theorem Kh:∀ z∈S16,z≠clS->Txt.endswith z opS=false->(Builtin.Str.occurrences "()" ⟨#[B7 z]⟩ 0 (Str.length "()") 1).isEmpty=true:=by decide +kernel
abbrev Iq:Stmt:=top 37
theorem sc_law:FnScope ["_law_script","_law_words","_law_whole","_law_most","_law_goods","_law_due_here","_law_handed","_law_turn","_law_told_here"] ["_law_script"] (Aj Iq):=⟨rfl,rfl,rfl,by decide +kernel,rfl,by decide +kernel,by decide +kernel⟩
theorem Mq {f:Addr} {fd:FuncData} (F:Fun K "law" "law" Iq f fd) (T:Txt K mg c) (c__law_word:CallF P w K mg base "_law_word" 2 ["_law_cell"] B1) (c__law_mixed:CallF P w K mg base "_law_mixed" 1 ["_law_cell","_law_k"] BF) (c__law_right:CallF P w K mg base "_law_right" 2 ["_law_words"] (CI K)) (c__law_bent:CallF P w K mg base "_law_bent" 3 ["_law_words","_law_number"] (C4 K)) (c__law_due:CallF P w K mg base "_law_due" 131 ["_law_words","_law_most","_law_goods"] Ce) (c__law_told:CallF P w K mg base "_law_told" 7 ["_law_words","_law_most","_law_goods"] (BZ K TT1)) (c__law_asked:CallF P w K mg base "_law_asked" 7 ["_law_words","_law_most","_law_goods"] (CD K TT2)):FnOk P w K mg base CX0 132 f fd ["_law_script"] (FP K [TT2,TT1]):=by
  refine F.ok sc_law (λ vs H Q E h=> ?_) (λ cdv A outer s H vs Q E hr h=> ?_)
  · obtain ⟨a,ns,rfl,_⟩:=h;rfl
  · obtain ⟨a,ns,rfl,sa,hl,hT,nd,k⟩:=h;have hu:=hr.units0;have hu1:=hr.units1;have t1:=hT TT1 (by simp);have t2:=hT TT2 (by simp);have nT:TT2≠TT1:=λ z=>by rw [z] at nd;simp at nd
    refine ⟨_,(Ad (Js (i:=1) sc_law.nd rfl (Or.inl rfl) (Hf (K:=K) (AE (Dz (K:=K)) (pv 0) AO (AN Ag))) (λ _ _ _ _=>GU) (λ _ _ _ _=>(Ao c__law_word (hr.mono (by decide)) (Aa (pv 0) Ac))))
      (Ad (An (i:=2) sc_law.nd rfl (Or.inl rfl) (Am AG (Ak (Qg (K:=K)) rfl (T.own _ (by decide)) boot_sum (Aa (pv 0) Ac)) (Ak (AL (K:=K)) rfl (T.own _ (by decide)) boot_len (Aa (pv 0) Ac))))
      (Ad (Ax (Al Ci (Am AS (Ao c__law_mixed (hr.mono (by decide)) (Aa (pv 2) (Aa Ag Ac))) Ag) Ag (Ap _)) (Ah (An (i:=1) sc_law.nd rfl (Or.inl rfl) (Ao c__law_bent (hr.mono (by decide)) (Aa (Ao c__law_right (hr.mono (by decide)) (Aa (pv 1) Ac)) (Aa (Ao c__law_mixed (hr.mono (by decide)) (Aa (pv 2) (Aa Ag Ac))) Ac))))) As)
      (Ad (An (i:=3) sc_law.nd rfl (Or.inl rfl) (A9 (Cr (K:=K)) (Av (Aa Ag (Aa Ag (Aa (Am AG Ag (Am AS (Ao c__law_mixed (hr.mono (by decide)) (Aa (pv 2) (Aa Ag Ac))) Ag)) (Aa (Am AG Ag (Am AS (Ao c__law_mixed (hr.mono (by decide)) (Aa (pv 2) (Aa Ag Ac))) Ag)) Ac))))) (Am AS (Ao c__law_mixed (hr.mono (by decide)) (Aa (pv 2) (Aa Ag Ac))) Ag) (λ _ _=>rfl)))
      (Ad (An (i:=4) sc_law.nd rfl (Or.inl rfl) (AE (Dz (K:=K)) (Av (Aa Af (Aa Af (Aa Af (Aa Af (Aa Af (Aa Af Ac))))))) AO (AN (Am AG Ag (Am AS (Ao c__law_mixed (hr.mono (by decide)) (Aa (pv 2) (Aa Ag Ac))) Ag)))))
      (Ad (An (i:=5) sc_law.nd rfl (Or.inl rfl) (Ao c__law_due hr (Aa (pv 1) (Aa (pv 3) (Aa (pv 4) Ac)))))
      (Ad (An (i:=6) sc_law.nd rfl (Or.inl rfl) (Bj (Kc (K:=K)) rfl (T.own _ (by decide)) Bo (Aa (pv 1) Ac)))
      (Ad (Gy PassesOwn.never rfl (HJ rfl (T.own _ (by decide)) (Aa Ag Ac)) (C6 (i:=7) sc_law.nd rfl (Or.inl rfl)) (Ad (An (i:=8) sc_law.nd rfl (Or.inl rfl) (Ao c__law_told (hr.mono (by decide)) (Aa (pv 6) (Aa (pv 3) (Aa (pv 4) Ac)))))
      (Ad (Ax (PW.pt (Dj (Al J8 (Ak (CP (K:=K)) rfl (T.own _ (by decide)) boot_isinstance (Aa (pv 8) (Aa (Dy rfl (T.own _ (by decide)) Bo) Ac))) (Ak (CP (K:=K)) rfl (T.own _ (by decide)) boot_isinstance (Aa (pv 5) (Aa (Dy rfl (T.own _ (by decide)) Bo) Ac))) (Ap _)) (Dj (Al (HW J8 (GZ hu (K:=K))) (pv 8) (pv 5) (Ap _)) (CM (Al (GZ hu (K:=K)) (pv 6) (pv 1) (Ap _)))))) (Ah (Aq Ju)) As)
      (Ah (Ax (AZ (Ak (CP (K:=K)) rfl (T.own _ (by decide)) boot_isinstance (Aa (pv 8) (Aa (Dy rfl (T.own _ (by decide)) Bo) Ac)))) (Ah (AM (Bl (K:=K) PySem.F.plainAttrs_list PySem.F.slot_list_append PySem.F.type_list_append AB (pv 8) (Aa Af Ac)))) As)))))
      (Ah (Aq (Bv (GX hu (K:=K)) (Eh (Hf (K:=K) (Ao c__law_asked (hr.mono (by decide)) (Aa (pv 6) (Aa (pv 3) (Aa (pv 4) Ac))))) (λ _ _ _ _=>(Fj (Al Do (A9 DZ (pv 0) (Am By (Ak (AL (K:=K)) rfl (T.own _ (by decide)) boot_len (Aa (pv 0) Ac)) Ag) (λ _ _=>rfl)) Af (by with_unfolding_all rfl)))) (λ _ _ _ _=>(pv 0))) (Av Ac) (Ap _)))))))))))),?_⟩
    walk_at "w";refine Ck sa ?_;have ec:Dv (ns.map V.int) none (some 200)=ns.map V.int:=by
      rw [Ji (by decide)];exact List.take_of_length_le (by rw [List.length_map];show ns.length<=200;omega)
    rw [ec];row_lines H x1;refine ⟨p1,rfl,⟨_,SqL.of g1⟩,λ D hD=> ?_⟩;refine E9 (xs:=ns.map V.int) (λ i ys H'=>∃ zs:List Str,ys=zs.map V.str/\zs.length=i/\(∀ z∈zs,z∈S16)/\Same H1 H'/\H' D=some (.lst ys)) ⟨[],rfl,rfl,by simp,Ae hD,Ab⟩ (λ i ys H' _ ⟨_,_,_,_,s,_⟩=>SqL.of (s _ _ g1)) ?_ ?_
    · rintro i x ys H2 hx ⟨zs,rfl,lz,hzs,s2,gD⟩;rw [List.getElem?_map] at hx;obtain ⟨n0,en,rfl⟩:=Option.map_eq_some_iff.mp hx;have hi:=(List.getElem?_eq_some_iff.mp en).1;refine ⟨(Kp.refl _).set rfl,?_⟩;walk_at "w";refine ⟨_,rfl,?_⟩;walk_at "w";refine ⟨n0,rfl,λ H3 z hz s3=> ?_⟩;have gD3:=s3 _ _ gD;exact ⟨gD3,by rw [List.length_map,sizeLine_eq];omega,zs++[z],by rw [List.map_append];rfl,by rw [List.length_append];show zs.length+1=i+1;omega,Bd hzs (λ y hy=>by rw [List.mem_singleton.mp hy];exact hz),BK (s2.trans s3) hD,Ab⟩
    rintro ys H2 ⟨zs,rfl,lz,hzs,s2,gD⟩;rw [List.length_map] at lz;have s12:=s1.trans s2;walk_at "w";refine MZ (s12.seq sa) ?_;walk_at "w";refine AI (s12.seq sa) ?_;walk_at "v";generalize ns.sum+((ns.map V.int).length:Int)=W;refine ifJ (λ σ' H'=>∃ (wp:Addr) (ws:List Str),σ'=[some (.ref a),some (.ref wp),some (.int W),none,none,none,none,none,none]/\Same H H'/\H' wp=some (.lst (ws.map V.str))/\(∀ z∈ws,z∈S16)/\ws.length<=135/\opc ws<=64) ?_ (λ key=> ?_);rotate_left
    · walk_at "w";refine ⟨W,2,rfl,⟨by decide,by decide⟩,?_⟩;walk_at "w";refine AH (by decide) ?_;walk_at "w";refine AJ (λ _=> ?_) (λ _=> ?_)
      · walk_at "w";refine ⟨D,zs,rfl,gD,hzs,by omega,λ H3 p us s3 hp gp hus hul hop=> ?_⟩;walk_at "w";refine ⟨W,3,rfl,⟨by decide,by decide⟩,?_⟩;walk_at "w";refine ⟨p,us,_,rfl,gp,hus,hul,hop,λ H4 q vs s4 gq hvs hvl hvo=> ?_⟩;exact key _ _ ⟨q,vs,rfl,s12.trans (s3.trans s4),gq,hvs,hvl,hvo⟩
      · exact key _ _ ⟨D,zs,rfl,s12,gD,hzs,by omega,by have:opc zs<=zs.length:=List.countP_le_length;omega⟩
    rintro _ H3 ⟨wp,ws,rfl,s3,gw,hws,hwl,hwo⟩;clear s12 gD s2 hD g1 n1 hzs lz;walk_at "w";refine ⟨W,4,rfl,⟨by decide,by decide⟩,?_⟩;walk_at "w";refine AH (by decide) ?_;walk_at "w";refine ⟨W,4,rfl,⟨by decide,by decide⟩,?_⟩;walk_at "w";refine AH (by decide) ?_;walk_at "w";obtain ⟨b1,eb1,lb1⟩:=FQ (Er W 4) (m:=60) (by decide);obtain ⟨b2,eb2,lb2⟩:=FQ (Er W 4) (m:=9) (by decide);obtain ⟨b3,eb3,lb3⟩:=FQ (Er W 5) (m:=4) (by decide);obtain ⟨b4,eb4,lb4⟩:=FQ (Er W 6) (m:=9) (by decide);rw [show Er W 4%60=((b1:Nat):Int) from eb1,show Er W 4%9=((b2:Nat):Int) from eb2];row_lines H3 x4;walk_at "w";refine ⟨W,5,rfl,⟨by decide,by decide⟩,?_⟩;walk_at "w";refine AH (by decide) ?_;rw [show Er W 5%4=((b3:Nat):Int) from eb3];obtain ⟨mx,em,lm⟩:∃ mx:Nat,atI [V.int 60,V.int 60,V.int (1+((b1:Nat):Int)),V.int (1+((b2:Nat):Int))] ((b3:Nat):Int)=some (nV mx)/\mx<=60:=by
      match b3,lb3 with
      | 0,_=>exact ⟨60,rfl,by decide⟩
      | 1,_=>exact ⟨60,rfl,by decide⟩
      | 2,_=>exact ⟨1+b1,by show some (V.int _)=some (V.int _);rw [Int.natCast_add];rfl,by omega⟩
      | 3,_=>exact ⟨1+b2,by show some (V.int _)=some (V.int _);rw [Int.natCast_add];rfl,by omega⟩
    refine Bm (SqL.of g4) em ?_;walk_at "w";row_lines H4 x5;walk_at "w";refine ⟨W,6,rfl,⟨by decide,by decide⟩,?_⟩;walk_at "w";refine AH (by decide) ?_;walk_at "w";rw [show Er W 6%9=((b4:Nat):Int) from eb4,show (3:Int)+((b4:Nat):Int)=((3+b4:Nat):Int) by omega];refine Ck (SqL.of g5) ?_;have eg:Dv [V.str "0",V.str "1",V.str "2",V.str "3",V.str "17",V.str "-"] none (some ((3+b4:Nat):Int))=((["0","1","2","3","17","-"]:List Str).take (3+b4)).map V.str:=CY (us:=["0","1","2","3","17","-"]);rw [eg];generalize (["0","1","2","3","17","-"]:List Str).take (3+b4)=gs;row_lines H5 x6;have s36:=s4.trans (s5.trans s6);have gw6:=s36 _ _ gw;have Lws:Lw ws mx:=⟨hws,by omega,lm,hwo⟩;walk_at "w";refine MF gw6 g6 Lws λ dv H7 s7 hdv=> ?_;have gw7:=s7 _ _ gw6;walk_at "w";refine ⟨wp,_,rfl, .inl (SqL.of gw7),?_⟩;row_lines H7 x8;walk_at "w";have t18:H8 TT1=some (.tbl #[]):=(s3.trans (s36.trans (s7.trans s8))) _ _ t1;have t28:H8 TT2=some (.tbl #[]):=(s3.trans (s36.trans (s7.trans s8))) _ _ t2;have gw8:=s8 _ _ gw7;have gg8:=(s7.trans s8) _ _ g6;have nt:∀ {y:Addr} {ys:List V},H8 y=some (.lst ys)->y≠TT1:=λ e z=>by rw [z,t18] at e;cases e
    refine ⟨_,rfl,by decide,by decide,EH (H0:=λ _=>none) (Ii (n:=2)) (λ i σ H'=>∃ x7 x8,σ=[some (.ref a),some (.ref wp),some (.int W),some (nV mx),some (.ref p6),some dv,some (.ref p8),x7,x8]/\SX TT1 H8 H'/\LamT H' TT1 Fi) ⟨_,_,rfl,SameX.of (Same.refl _),Fd t18⟩ (λ _ _ _ _ b o e=>by cases e) ?_ ?_⟩
    · rintro i σ H9 H10 hi ⟨x7,x8,rfl,X9,L9⟩ s10;have X10:=X9.trans (SameX.of s10);have L10:=L9.same s10;clear X9 L9 s10;have gh10:=X10.st _ _ g8 (nt g8);have gg10:=X10.st _ _ gg8 (nt gg8);walk_at "w";refine Kl gh10 gg10 Lws L10 λ tv H11 X11 L11 htv=> ?_;have X811:=X10.trans X11;have gh11:=X811.st _ _ g8 (nt g8);have gw11:=X811.st _ _ gw8 (nt gw8);walk_at "w";rcases hdv with ⟨out,cn,pd,rfl,hrn,hne,pd0,gd⟩ | ⟨e,rfl,he⟩
      · rcases htv with ⟨out',cn',pt,rfl,hrn',_,pt0,gt⟩ | ⟨e',rfl,he'⟩
        · rw [hrn] at hrn';cases hrn';have gd8:=s8 _ _ gd;have gd11:=X811.st _ _ gd8 (nt gd8);refine A2 (.lst gt) (kb (b:=true) (by decide +kernel)) ?_;walk_at "w";refine A2 (.lst gd11) (kb (b:=true) (by decide +kernel)) ?_;walk_at "w";refine CZ (λ q=>absurd rfl q) (λ _=> ?_);walk_at "w";refine Or.inr (C5 (SqL.of gt) (SqL.of gd11) ?_);walk_at "w";refine CZ (λ q=>absurd rfl q) (λ _=> ?_);walk_at "w";refine C5 (SqL.of gh11) (SqL.of gw11) ?_;walk_at "w";refine CZ (λ q=>absurd rfl q) (λ _=> ?_);walk_at "w";refine A2 (.lst gt) (kb (b:=true) (by decide +kernel)) ?_;walk_at "w";have ol:out.length<=60:=by
            have M:=Gu hrn;have:=M.sm;have:=M.mo;simp only [List.map_cons,List.sum_cons] at*;omega
          refine tyL (SqL.of gt) ?_;walk_at "w";refine AV gt (by rw [List.length_map];omega) ?_;exact ⟨_,_,rfl,G0 X811 (X10.free pt0),Ft L11 (Bk (SameX.of (Same.refl _))) gt⟩
        · exact (Ha hrn hne he').elim
      · rcases htv with ⟨out',cn',pt,rfl,hrn',hne',pt0,gt⟩ | ⟨e',rfl,he'⟩
        · exact (Ha hrn' hne' he).elim
        · have ee:=Ld he he';subst ee;refine A2 (.int _) (kb (b:=false) (by decide +kernel)) ?_;walk_at "w";refine A2 (.int _) (kb (b:=false) (by decide +kernel)) ?_;walk_at "w";refine CZ (λ q=>absurd rfl q) (λ _=> ?_);walk_at "w";refine Or.inl ⟨rfl,?_⟩;walk_at "w";refine CZ (λ q=>absurd rfl q) (λ _=> ?_);walk_at "w";refine C5 (SqL.of gh11) (SqL.of gw11) ?_;walk_at "w";refine CZ (λ q=>absurd rfl q) (λ _=> ?_);walk_at "w";refine A2 (.int _) (kb (b:=false) (by decide +kernel)) ?_;walk_at "w";exact ⟨_,_,rfl,X811,L11⟩
    · rintro σ H9 ⟨x7,x8,rfl,X9,L9⟩;have gh9:=X9.st _ _ g8 (nt g8);have gg9:=X9.st _ _ gg8 (nt gg8);have t29:=X9.st _ _ t28 nT;walk_at "w";refine ⟨p8,ws,mx,p6,gs,rfl,gh9,gg9,by omega,Hb hws,lm,Fd t29,λ l H10 q hl10 X10 L10 gq=> ?_⟩;walk_at "w";refine ⟨q,rfl,⟨_,SqL.of gq⟩,λ D hD=> ?_⟩;refine E9 (xs:=l.map V.str) (λ _ ys H'=>ys=[]/\H'=upd H10 D (.lst [])) ⟨rfl,rfl⟩ (λ i ys H' _ ⟨_,h⟩=>by rw [h];exact SqL.of (Ae hD _ _ gq)) ?_ ?_
      · rintro i x ys H11 hx ⟨rfl,rfl⟩;rw [List.getElem?_map] at hx;obtain ⟨z,en,rfl⟩:=Option.map_eq_some_iff.mp hx;obtain ⟨hz1,hz2,hz3⟩:=hl10.2 z (List.mem_of_getElem? en);have hz:=hws z hz1;obtain ⟨zl1,zl3⟩:=E4 z hz;have zll:z.cps.toList.length=z.length:=by simp [Str.length]
        refine ⟨(Kp.refl _).set rfl,?_⟩;walk_at "w";refine Bx (Nat.le_trans zl3 (by decide)) ?_;walk_at "w";rw [show ((z.length:Nat):Int) - 1=((z.length - 1:Nat):Int) by omega];refine Es (c:=B7 z) (Nat.le_trans zl3 (by decide)) (Bu (j:=z.length - 1) (by unfold B7;rw [List.getD_eq_getElem?_getD,List.getElem?_eq_getElem (by omega)];rfl)) ?_;walk_at "w";refine ⟨_,_,rfl,rfl,?_⟩;rw [Kh z hz hz2 hz3];walk_at "w";exact ⟨rfl,rfl⟩
      rintro ys H11 ⟨rfl,rfl⟩;have s11:=Ae (o:=HO.lst []) hD;have g11:upd H10 D (HO.lst []) D=_:=Ab;walk_at "w";intro p12 hp12;refine DQ (as:=[]) (bs:=[]) (SqL.of (Ae hp12 _ _ g11)) (SqL.of Ab) ?_;exact k _
end
end K02
namespace K02
open PySem L2 PySem.Spec PyProof.Rows
theorem all_mk {l:PySem.W.OpenLaw} {w:World} {K:PySem.W.Frag} {h:Heap} {mg:Str->Option Value} {fa:Addr} (X:K.In h) (G:h.Ns mainGlobals mg) (hfa:mg "law"=some (.ref fa))
    {C_LoomError C_BadRow C_BadWord C_TooMany C_NotPlain C_NotGrown C_BadDraft C_BadCloth C_OutOfPlace f0 f1 f2 f3 f4 f5 f6 f7 f8 f9 f10 f11 f12 f13 f14 f15 f16 f17 f18 f19:Addr} {d0 d1 d2 d3 d4 d5 d6 d7 d8 d9 d10 d11 d12 d13 d14 d15 d16 d17 d18 d19:FuncData}
    {cc1 TT1 cc2 TT2:Addr} {ts:List Addr}
    (T0:(∃ fi,HT.iniIn K C_BadWord fi=true)->Txt K mg ⟨C_LoomError,C_BadRow,C_BadWord,C_TooMany,C_NotPlain,C_NotGrown,C_BadDraft,C_BadCloth,C_OutOfPlace⟩)
    (D0:DefAt K mg "is_whole" CT ["thing"] f0 d0)
    (D1:DefAt K mg "is_among" CV ["thing","least","most"] f1 d1)
    (D2:DefAt K mg "number_of" Cq ["word"] f2 d2)
    (D3:DefAt K mg "times_of" CS ["word"] f3 d3)
    (D4:DefAt K mg "taken" Fv ["word","held","times"] f4 d4)
    (a5:PySem.W.findIn K (.ref C_BadWord) "__init__"=some (some (.ref f5)))
    (j5:MkI K C_BadWord f5)
    (D5:FnA K "__init__" "BadWord.__init__" AT ["self","place"] f5 d5)
    (D6:DefAt K mg "can_stand" Cu ["word","held","times","fits"] f6 d6)
    (D7:DefAt K mg "spread" EC ["words","most","fits"] f7 d7)
    (D8:DefAt K mg "_law_kinds" B2 ["_law_error"] f8 d8)
    (D9:DefAt K mg "_law_told" A8 ["_law_words","_law_most","_law_goods"] f9 d9)
    (D10:DefAt K mg "_law_asked" AW ["_law_words","_law_most","_law_goods"] f10 d10)
    (D11:DefAt K mg "_law_times" BR ["_law_word_here"] f11 d11)
    (D12:DefAt K mg "_law_group" Bg ["_law_state","_law_most","_law_goods","_law_times_here"] f12 d12)
    (D13:DefAt K mg "_law_level" Bh ["_law_state","_law_most","_law_goods","_law_is_open"] f13 d13)
    (D14:DefAt K mg "_law_due" CJ ["_law_words","_law_most","_law_goods"] f14 d14)
    (D15:DefAt K mg "_law_mixed" B0 ["_law_cell","_law_k"] f15 d15)
    (D16:DefAt K mg "_law_word" Cg ["_law_cell"] f16 d16)
    (D17:DefAt K mg "_law_right" BO ["_law_words"] f17 d17)
    (D18:DefAt K mg "_law_bent" Cp ["_law_words","_law_number"] f18 d18)
    (D19:DefAt K mg "law" Iq ["_law_script"] f19 d19)
    (hlb:∀ (s:Shared) (u:Value),BindsTo s d19 ⟨[u],[]⟩ [("_law_script",u)])
    (hts:ts=[TT2,TT1])
    (hcc1:d9.code= .ref cc1)
    (hhd1:PySem.W.codeHdIn K cc1 TT1=true)
    (hcc2:d10.code= .ref cc2)
    (hhd2:PySem.W.codeHdIn K cc2 TT2=true)
    : ∃ fd:FuncData,(∀ (s:Shared) (u:Value),BindsTo s fd ⟨[u],[]⟩ [("_law_script",u)])/\(∀ h':Heap,K.In h'->∀ T∈ts,∃ c,PySem.W.CodeHd h' c T)/\∀ base:Heap,K.In base->base.Ns mainGlobals mg->(∀ T∈ts,base.BuiltinsAt mg T)->FnOk l.prog w K mg base CX0 132 fa fd ["_law_script"] (FP K ts):=by
  subst hts;cases hfa.symm.trans D19.at';have T:=T0 ⟨_,j5.ini⟩;have hCd:∀ h':Heap,K.In h'->∀ T∈[TT2,TT1],∃ c,PySem.W.CodeHd h' c T:=by
    intro _ X2 T hT;rcases List.mem_cons.mp hT with z | hT
    · subst z;exact ⟨cc2,PySem.W.codeHd_of_K X2 hhd2⟩
    rcases List.mem_cons.mp hT with z | hT
    · subst z;exact ⟨cc1,PySem.W.codeHd_of_K X2 hhd1⟩
    cases hT
  exact ⟨_,hlb,hCd,λ base Xb _ hbt=>by
    have hd1:=PySem.W.codeHd_of_K Xb hhd1;have hd2:=PySem.W.codeHd_of_K Xb hhd2;have c_is_whole:=D0.call (Cm (P:=l.prog) (w:=w) (base:=base) D0.fn T);have c_is_among:=D1.call (B5 (P:=l.prog) (w:=w) (base:=base) D1.fn T c_is_whole);have c_number_of:=D2.call (BM (P:=l.prog) (w:=w) (base:=base) D2.fn T c_is_among);have c_times_of:=D3.call (Cj (P:=l.prog) (w:=w) (base:=base) D3.fn T c_number_of c_is_among);have c_taken:=D4.call (F4 (P:=l.prog) (w:=w) (base:=base) D4.fn T c_times_of);have m_BadWord:FC l.prog w K mg base "BadWord" C_BadWord 1 ["self","place"] _:=⟨_,_,T.g_BadWord,j5,Bc (P:=l.prog) (w:=w) (base:=base) D5.fn T,D5.bi⟩;have c_can_stand:(∃ fs,mg "can_stand"=some (.ref fs)/\PySem.W.keepIn K (.ref fs)=true)/\∀ (base':Heap) (fl:Addr) (sL:Sp),LamV l.prog w K mg base' 1 fl sL->CallF l.prog w K mg base' "can_stand" 5 ["word","held","times","fits"] (BC fl sL):=⟨⟨_,D6.at',D6.fn.kp⟩,λ base' fl sL lv=>by
      have c_is_whole:=D0.call (Cm (P:=l.prog) (w:=w) (base:=base') D0.fn T);have c_is_among:=D1.call (B5 (P:=l.prog) (w:=w) (base:=base') D1.fn T c_is_whole);have c_number_of:=D2.call (BM (P:=l.prog) (w:=w) (base:=base') D2.fn T c_is_among);have c_times_of:=D3.call (Cj (P:=l.prog) (w:=w) (base:=base') D3.fn T c_number_of c_is_among);have c_can_stand:=D6.call (Dd (P:=l.prog) (w:=w) (base:=base') lv D6.fn T c_times_of);exact c_can_stand⟩
    have c_spread:(∃ fs,mg "spread"=some (.ref fs)/\PySem.W.keepIn K (.ref fs)=true)/\∀ (base':Heap) (fl:Addr) (sL:Sp),LamV l.prog w K mg base' 1 fl sL->CallE l.prog w K mg base' "spread" 6 ["words","most","fits"] (BU K (⟨C_LoomError,C_BadRow,C_BadWord,C_TooMany,C_NotPlain,C_NotGrown,C_BadDraft,C_BadCloth,C_OutOfPlace⟩:Cs) fl sL):=⟨⟨_,D7.at',D7.fn.kp⟩,λ base' fl sL lv=>by
      have c_is_whole:=D0.call (Cm (P:=l.prog) (w:=w) (base:=base') D0.fn T);have c_is_among:=D1.call (B5 (P:=l.prog) (w:=w) (base:=base') D1.fn T c_is_whole);have c_number_of:=D2.call (BM (P:=l.prog) (w:=w) (base:=base') D2.fn T c_is_among);have c_times_of:=D3.call (Cj (P:=l.prog) (w:=w) (base:=base') D3.fn T c_number_of c_is_among);have c_can_stand:=D6.call (Dd (P:=l.prog) (w:=w) (base:=base') lv D6.fn T c_times_of);have c_taken:=D4.call (F4 (P:=l.prog) (w:=w) (base:=base') D4.fn T c_times_of);have m_BadWord:FC l.prog w K mg base' "BadWord" C_BadWord 1 ["self","place"] _:=⟨_,_,T.g_BadWord,j5,Bc (P:=l.prog) (w:=w) (base:=base') D5.fn T,D5.bi⟩;have c_spread:=D7.callE (Hq (P:=l.prog) (w:=w) (base:=base') lv D7.fn T c_can_stand c_taken m_BadWord);exact c_spread⟩
    have c__law_kinds:=D8.call (EL (P:=l.prog) (w:=w) (base:=base) D8.fn T);have c__law_told:=D9.call (FR (P:=l.prog) (w:=w) (base:=base) hcc1 hd1 (hbt _ (by simp)) D9.fn T c_spread c__law_kinds);have c__law_asked:=D10.call (EQ (P:=l.prog) (w:=w) (base:=base) hcc2 hd2 (hbt _ (by simp)) D10.fn T c_spread);have c__law_times:=D11.call (EO (P:=l.prog) (w:=w) (base:=base) D11.fn T);have c__law_due:=D14.call (Gk (P:=l.prog) (w:=w) (base:=base) D14.fn T (D13.call (Bs (P:=l.prog) (w:=w) (base:=base) D13 D12 T c__law_times 129).1));have c__law_mixed:=D15.call (EN (P:=l.prog) (w:=w) (base:=base) D15.fn T);have c__law_word:=D16.call (FS (P:=l.prog) (w:=w) (base:=base) D16.fn T c__law_mixed);have c__law_right:=D17.call (EJ (P:=l.prog) (w:=w) (base:=base) D17.fn T c__law_times);have c__law_bent:=D18.call (FB (P:=l.prog) (w:=w) (base:=base) D18.fn T c__law_word);exact Mq D19.fn T c__law_word c__law_mixed c__law_right c__law_bent c__law_due c__law_told c__law_asked
    ⟩
theorem walk {l:PySem.W.OpenLaw} {q:Program} {loose:List Str} {XP:(Str->Option Value)->Heap->Prop} {YP:World->Heap->Prop} {d:DefRec} {K:Params->PySem.W.Frag} (hn:l.most=some 63) (hdf:d.params.defaults=[])
    (hY:∀ (w:World) (h:Heap),YP w h->(K w.params).In h)
    {ts:List Addr} (hnd:ts.Nodup)
    (hYt:∀ (w:World) (h:Heap),YP w h->∀ P∈ts,h.get? P=some (PySem.W.tabObj #[])) (hnt:∀ w:World,PySem.W.noTabs (K w.params)=true)
    (F:∀ (w:World) (mg:Str->Option Value) (fa:Addr) (h:Heap),(K w.params).In h->h.Ns mainGlobals mg->mg d.name=some (.ref fa)->
      ∃ fd:FuncData,(∀ (s:Shared) (u:Value),BindsTo s fd ⟨[u],[]⟩ [("_law_script",u)])/\(∀ h':Heap,(K w.params).In h'->∀ T∈ts,∃ c,PySem.W.CodeHd h' c T)/\∀ base:Heap,(K w.params).In base->base.Ns mainGlobals mg->(∀ T∈ts,base.BuiltinsAt mg T)->FnOk l.prog w (K w.params) mg base CX0 132 fa fd ["_law_script"] (FP (K w.params) ts)):
    PySem.W.WalkO q loose XP YP l.row.toRowW d [] (λ f vs=>PySem.call f vs):=
  L2.walk_ofM (n:=63) (k:=132) (x:="_law_script") (CX:=λ _=>CX0) (sp:=λ w=>FP (K w.params) ts) hn (by decide) hdf ⟨rfl,by decide,by decide⟩ hY hYt hnt F (λ _ _ a ns hl _ hT hS=>⟨a,ns,rfl,hS,hl,hT,hnd,λ _=>rfl⟩) λ _ _ _ _ _ z=>z
end K02
open PySem PySem.W PyProof.Rows
set_option maxRecDepth 100000 in
set_option maxHeartbeats 0 in
theorem PySem.Challenge.cw_loomwright_k02_groups_told_over_holds : PySem.Challenge.rw_loomwright_k02_groups_told_over.Holds := by
  w_on
  refine PySem.W.holds_law (by first | k_qdec | decide +kernel) λ said=> ?_;refine PySem.W.holds_open (q:=K02.view) (loose:=[]) (Xt:=K02.Xt) (XP:=PySem.W.XL K02.view []) (Yf:=(PySem.W.kmHook K02.frag K02.addrs K02.addrs_eq K02.tabs).obs) (Ya:=(PySem.W.kmHook K02.frag K02.addrs K02.addrs_eq K02.tabs).val) (YP:=(PySem.W.kmHook K02.frag K02.addrs K02.addrs_eq K02.tabs).says) (N:=K02.fuel) K02.left (PySem.W.kmHook K02.frag K02.addrs K02.addrs_eq K02.tabs).of (PySem.W.kmHook K02.frag K02.addrs K02.addrs_eq K02.tabs).keeps (λ s e=>PySem.W.xl_of s (Bool.and_eq_true_iff.mp e).1) PySem.W.XL.keeps (by rfl) (by rfl) (by rfl) (λ s e=>PySem.W.recFacts_of (Bool.and_eq_true_iff.mp e).2) (by rfl) (by first | assumption | decide +kernel) (by first | k_qdec | decide +kernel) ⟨rfl,rfl,rfl,rfl,rfl,by decide +kernel⟩ ?hw ?hc
  (case hw=>w_witness2)
  k_fill
  refine K02.walk (l:=PySem.Challenge.rw_loomwright_k02_groups_told_over) rfl rfl (λ w h Y=>PySem.W.km_in_of Y) (by decide) (λ w h Y=>PySem.W.km_tabs_of Y) (λ w=>by kernel_rfl) ?F
  case F=>
    intro w mg fa h KX G hmg;refine' K02.all_mk (TT2:=273) (TT1:=266) (cc1:=270) (cc2:=277) KX G hmg ?T ?_ ?_ ?_ ?_ ?_ ?_ ?_ ?_ ?_ ?_ ?_ ?_ ?_ ?_ ?_ ?_ ?_ ?_ ?_ ?_ ?_ ?_ ?_ rfl ?_ ?_ ?_ ?_
    case T=>
      intros
      constructor
      all_goals try dsimp only
      all_goals try ((with_reducible refine' PySem.W.mg_of KX G ?_);k_is)
      all_goals first
        | ((with_reducible refine' L2.own_cons (PySem.W.mg_none_of KX G ?_) ?_) <;> (repeat' first | (with_reducible exact L2.own_nil) | (with_reducible refine' L2.own_cons (PySem.W.mg_none_of KX G ?_) ?_) | k_is))
        | ((with_reducible first | refine' L2.ci_mk (PySem.W.mg_of KX G ?_) | refine' L2.cs_mk (PySem.W.mg_of KX G ?_)) <;> first | k_is | skip)
        | with_reducible assumption
        | (refine' ⟨⟨?_,?_,?_,?_⟩,?_,?_,?_,?_⟩ <;> k_is)
        | ((with_reducible refine' L2.xk_mk (L2.exc_mk ?_ ?_ ?_ ?_ ?_ ?_ ?_ ?_) ?_) <;> k_is)
        | ((with_reducible refine' L2.exc_mk ?_ ?_ ?_ ?_ ?_ ?_ ?_ ?_) <;> k_is)
        | (refine' ⟨?_,?_,?_⟩ <;> first | k_is | kernel_rfl)
        | (unfold L2.NoAttr;k_is)
        | k_is | k_exc | kts_exm | kit_is
    all_goals first
      | (refine' L2.def_mk (PySem.W.mg_of KX G ?_) (L2.fun_mk ?_ ?_ ?_) ?_ <;> first | k_is | exact L2.arg1 λ _=>rfl | exact L2.arg2 λ _ _=>rfl | exact L2.arg3 λ _ _ _=>rfl | exact L2.arg4 λ _ _ _ _=>rfl | exact L2.arg5 λ _ _ _ _ _=>rfl | exact L2.arg6 λ _ _ _ _ _ _=>rfl | exact L2.arg7 λ _ _ _ _ _ _ _=>rfl | exact L2.arg8 λ _ _ _ _ _ _ _ _=>rfl | exact L2.arg9 λ _ _ _ _ _ _ _ _ _=>rfl | skip)
      | (refine' L2.fnA_mk (L2.fun_mk ?_ ?_ ?_) ?_ <;> first | k_is | exact L2.arg1 λ _=>rfl | exact L2.arg2 λ _ _=>rfl | exact L2.arg3 λ _ _ _=>rfl | exact L2.arg4 λ _ _ _ _=>rfl | exact L2.arg5 λ _ _ _ _ _=>rfl | exact L2.arg6 λ _ _ _ _ _ _=>rfl | exact L2.arg7 λ _ _ _ _ _ _ _=>rfl | exact L2.arg8 λ _ _ _ _ _ _ _ _=>rfl | exact L2.arg9 λ _ _ _ _ _ _ _ _ _=>rfl | skip)
      | (refine' ⟨?_,?_,?_,?_⟩;all_goals first | k_is | kernel_rfl | skip)
      | (refine' ⟨?_,?_,?_⟩;all_goals first | k_is | kernel_rfl | skip)
      | k_is
      | exact λ s u=> .of_eq rfl
      | rfl | kernel_rfl | exact List.mem_cons_self | decide | skip
