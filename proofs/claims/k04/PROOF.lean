import PyProof.Rows.All
import Wide.All
import OpenK.AllK
import Wide.FinOn
import Lean
import PyProof.EqAt
import PyProof.EqKinds
import PyProof.TupleCall
import PyProof.StrLawsChain
import KE.KIntText
import PyProof.EnumFor
import PyProof.EnumMake
import PyProof.ZipIter
import PyProof.LayNew
import KE.KTurns
import PyProof.Rows.Range3
import KE.KRevSl
import KE.KDictList
import PyProof.Draws
import PyProof.Rows.RuleM_int
import PyProof.Rows.BitMore
import PyProof.NeKinds
import KE.KRevIter
import PyProof.JoinWalk
import KE.KDictSum
import KE.KSortTup
import KE.KTryMore
import PyProof.ExcArgs
import OpenK.KOwn
import PyProof.ExcBaseAll.ValueError
import KE.KLam
import KE.KNestM
import PyProof.AttrMissHeap
import KE.KDictOf
import PyProof.TupleKey
import PyProof.DictRoadsH
import PyProof.MeetsDict
import KE.KItemsList
import KE.KUnpack
import PySem.Challenge.RW_loomwright_k04_drafts_made
set_option Elab.async false
set_option linter.all false
set_option maxRecDepth 100000
set_option maxHeartbeats 4000000
noncomputable section
namespace L2
open PySem
def AR (s:Stmt) (j:Nat):Stmt:=match s with
  | .ClassDef _ _ _ body _ _ _ _ _ _ _=>body.getD j (.Pass ⟨0,0,0,0⟩)
  | _=> .Pass ⟨0,0,0,0⟩
def EG (s:Stmt):Arguments:=match s with
  | .FunctionDef _ a _ _ _ _ _ _ _ _=>a
  | _=>{ posonlyargs:=[],args:=[],vararg:=none,kwonlyargs:=[],kw_defaults:=[],kwarg:=none,defaults:=[] }
def CA (s:Stmt):List Stmt:=match s with
  | .FunctionDef _ _ b _ _ _ _ _ _ _=>b
  | _=>[]
def Al (s:Stmt):Scope:=match s with
  | .FunctionDef _ _ _ _ _ _ sc _ _ _=>sc
  | _=>{ kind:= .function,names:=[],isGenerator:=false,isCoroutine:=false }
end L2
namespace K04
open PySem
def top (i:Nat):Stmt:=PySem.Challenge.pw_loomwright_k04_drafts_made.main.body.getD i (.Pass ⟨0,0,0,0⟩)
end K04
namespace HX
open PySem PySem.W PySem.Calls PyProof.Rows
def topT (tb:String->Option Builtin) (p:Program) (w:World) (n₀:Nat) (ann:Option Value):Nat->SharedT->Thread->Option SharedT
  | 0,_,_=>none
  | n+1,s,t=>match through t with
    | true=>some s
    | false=>match stepOk n₀ ann t with
      | false=>none
      | true=>match stepT (denote tb) p w s t with
        | some (s',t')=>topT tb p w n₀ ann n s' t'
        | none=>none
theorem topT_of {tb:String->Option Builtin} {p:Program} {w:World} {n₀:Nat} {ann:Option Value}:∀ {n:Nat} {s s':SharedT} {t:Thread},topT tb p w n₀ ann n s t=some s'->topRun tb p w n₀ ann n s.abs t=some s'.abs
  | 0,_,_,_,h=>by cases h
  | n+1,s,s',t,h=>by
    unfold topT at h;unfold topRun;cases ht:through t with
    | true=>rw [ht] at h;cases h;rfl
    | false=>
      rw [ht] at h;cases hk:stepOk n₀ ann t with
      | false=>rw [hk] at h;cases h
      | true=>
        rw [hk] at h;cases hs:stepT (denote tb) p w s t with
        | none=>rw [hs] at h;cases h
        | some x=>
          obtain ⟨s2,t2⟩:=x;rw [hs] at h;dsimp only;rw [stepT_spec hs];exact topT_of h
def ofL:List Obj->Nat->BT->BT
  | [],_,t=>t
  | o::r,i,t=>ofL r (i+1) (t.ins i o)
def bootT (P:Params):BT:=ofL (boot_heap P).objs.toList 0 .nil
def fn0 (name qual:Str) (a:Arguments) (b:List Stmt) (sc:Scope):FuncData:=
  { name,qualname:=qual,params:=a,body:= .stmts b,scope:=sc,globals:=0,closure:=[],defaults:= .none,kwdefaults:= .none }
theorem left_run {p q:Program} {loose:List Str} {Xt:Shared->Bool} {α:Type} {Yf:Shared->α} {Ya:World->α} {N:Nat} {g0:Bool}
    (e:opening p=plainProg p.main.scope.names) (hN:Nat.ble 600 N=true) (f:∀ s,fenceModules? p s=some s)
    (hb:∀ P:Params,(absHeap (bootT P) 11 {},boot_drawn,(boot_heap P).isNs mainGlobals,(boot_heap P).objs.size,(boot_heap P).nsMap mainGlobals "__annotations__")=(boot_heap P,boot_drawn,true,11,some (.ref 6)))
    (run:∀ (w:World) (os:OsState),∃ s:Shared,topRun treeTable p w 11 (some (.ref 6)) N (⟨bootT w.params,11,{},Array.mk [],boot_drawn,boot_toks,os⟩:SharedT).abs (topStub p)=some s/\((staticsOk (importedModules p.main.body) (boot_heap w.params) s.heap&&namesBound p s.heap&&gensDone s&&laidKept (boot_heap w.params) s.heap),openSeen q loose (importedModules p.main.body) Xt g0 s,Yf s)=(true,openGood q loose,Ya w)):LeftO p q loose Xt Yf Ya N g0:=λ w=>by
  obtain ⟨⟨h,gs,d,k,os⟩,e1,e'⟩:=Option.map_eq_some_iff.mp (boot_open (p:=p) (N:=N) e hN f w);obtain ⟨rfl,rfl,rfl,rfl⟩:h=boot_heap w.params/\gs=Array.mk []/\d=boot_drawn/\k=boot_toks:=by simpa using e'
  have hb':=hb w.params;simp only [Prod.mk.injEq] at hb';obtain ⟨b1,_,b2,b3,b4⟩:=hb';obtain ⟨s,r,l⟩:=run w os;obtain ⟨l1,l2,l3⟩:_/\_/\_:=by simpa only [Prod.mk.injEq] using l
  have b0:(⟨bootT w.params,11,{},Array.mk [],boot_drawn,boot_toks,os⟩:SharedT).abs=⟨boot_heap w.params,Array.mk [],boot_drawn,boot_toks,os⟩:=by
    show (⟨absHeap (bootT w.params) 11 {},_,_,_,_⟩:Shared)=_;rw [b1]
  rw [b0] at r;have t:topFrom treeTable p w N ⟨boot_heap w.params,Array.mk [],boot_drawn,boot_toks,os⟩=some s:=by
    unfold topFrom;dsimp only;rw [b2,b3,b4];show Option.bind (topRun treeTable p w 11 (some (.ref 6)) N ⟨boot_heap w.params,Array.mk [],boot_drawn,boot_toks,os⟩ (topStub p)) _=_;rw [r];show (match staticsOk (importedModules p.main.body) (boot_heap w.params) s.heap&&namesBound p s.heap&&gensDone s&&laidKept (boot_heap w.params) s.heap with | true=>_ | false=>_)=_;rw [l1]
  unfold openEnds;rw [e1];show (topFrom treeTable p w N _).map _=_;rw [t];exact congrArg some (Prod.ext l2 l3)
theorem three {α β γ:Type} {a a':α} {b b':β} {c c':γ} (h:(a,c)=(a',c')) (k:b=b'):(a,b,c)=(a',b',c'):=by
  cases h;cases k;rfl
theorem hb (P:Params):(absHeap (bootT P) 11 {},boot_drawn,(boot_heap P).isNs mainGlobals,(boot_heap P).objs.size,(boot_heap P).nsMap mainGlobals "__annotations__")=(boot_heap P,boot_drawn,true,11,some (.ref 6)):=by kernel_rfl
end HX
namespace K04
open PySem L2 PySem.W PySem.Calls PyProof.Rows
abbrev Ob:=Params->Obj
abbrev dE (P:Params) (s:Str) (t:Tok) (v:Value):DictEntry:=⟨PyData.keyHash P s, .str s t,v⟩
abbrev dR (P:Params) (s:Str) (t:Tok) (a:Addr):DictEntry:=⟨PyData.keyHash P s, .str s t, .ref a⟩
abbrev tu (xs:Array Value):Obj:=⟨.type "tuple",none, .seq xs 0, #[]⟩
abbrev di (es:Array DictEntry) (n:Nat):Obj:=⟨.type "dict",none, .dict es n, #[]⟩
abbrev f0 (n q:Str) (st:Stmt):FuncData:=HX.fn0 n q (EG st) (CA st) (Al st)
abbrev fo (n q:Str) (st:Stmt) (m:Str) (t:Tok) (c:Addr):Obj:=⟨.type "function",none, .func (fnOf n q (EG st) (CA st) (Al st) .none .none .none (.str m t) none (.ref c) .none), #[]⟩
abbrev co (n q:Str) (t:Tok) (l ac nl:Int) (a:Addr) (b:Bool) (r:Addr) (c d e:Value) (k:Int) (t4:Tok):Obj:=⟨.type "code",none, .fields #[.str n t, .str q (t+1), .str "/claim/cut.py" (t+2), .int l 0, .int ac 0, .int 0 0, .int 0 0, .int nl 0, .ref a, .bool b, .int 181 0, .ref r, .none,c,d,e, .int k 0, .int l 0, .str "/claim/cut.py" t4], #[]⟩
def o3:Ob:=λ P=>di #[dE P "__name__" 165 (.str "law_loomwright_k04_drafts_made" 523),dE P "__doc__" 166 .none,dE P "__package__" 167 .none,dE P "__loader__" 168 (.builtin "__main__.__loader__#opaque"),dE P "__spec__" 169 .none,dR P "__annotations__" 170 6,dR P "__builtins__" 171 4,dE P "__file__" 173 (.str "/claim/cut.py" 172),dE P "__cached__" 174 .none,dE P "MOST_SHAFTS" 188 (.int 16 187),dE P "MOST_TREADLES" 190 (.int 16 189),dE P "MOST_ENDS" 192 (.int 60 191),dE P "MOST_PICKS" 194 (.int 60 193),dR P "LoomError" 214 24,dR P "BadRow" 241 44,dR P "BadWord" 266 63,dR P "TooMany" 293 82,dR P "NotPlain" 320 101,dR P "NotGrown" 347 120,dR P "BadDraft" 363 132,dR P "BadCloth" 379 144,dR P "OutOfPlace" 395 156,dE P "COLOURS" 399 (.str "abcdefghijklmnopqrstuvwxyz" 398),dR P "is_whole" 406 165,dR P "is_among" 415 172,dR P "is_colour" 422 179,dR P "need" 432 186,dR P "is_list" 441 193,dR P "is_rising" 451 200,dR P "are_rising" 457 205,dR P "are_colours" 463 210,dR P "need_draft" 469 215,dR P "Draft" 522 249,dR P "_law_mixed" 532 260,dR P "_law_kinds" 538 265,dR P "_law_same" 544 270,dR P "_law_cells" 550 275,dR P "_law_numbers" 556 280,dR P "_law_draft" 562 285,dR P "_law_copied" 568 290,dR P "_law_spoilt" 576 297,dR P "_law_made" 590 304,dR P "_law_odd" 597 311,dR P "_law_wrong" 603 316,dR P "_law_refused" 612 323,dR P "_law_by_hand" 618 328,dR P "law" 632 335] 47
def o15:Ob:=λ P=>tu #[(.type "ValueError")]
def o22:Ob:=λ P=>tu #[]
def o23:Ob:=λ P=>di #[dE P "__module__" 204 (.str "loomwright.errors" 195),dE P "__firstlineno__" 208 (.int 6 207),dR P "__static_attributes__" 209 22,dR P "__weakref__" 211 25,dE P "__doc__" 212 .none] 3
def o24:Ob:=λ P=>⟨(.type "type"),none,(.cls ⟨"LoomError",[(.type "ValueError")],[(.ref 24),(.type "ValueError"),(.type "Exception"),(.type "BaseException"),(.type "object")],23,"LoomError",true,[],[(.ref 44),(.ref 63),(.ref 82),(.ref 101),(.ref 120),(.ref 132),(.ref 144),(.ref 156)],false,none,false⟩), #[(some (.ref 15)),none,(some (.str "LoomError" 197)),(some (.str "LoomError" 205)),(some (.builtin "ValueError.__new__")),(some (.bool true))]⟩
def o25:Ob:=λ P=>⟨(.type "getset_descriptor"),none,(.fields #[(.str "__weakref__" 210),(.ref 24),(.builtin "ExceptionGroup.__weakref__"), .none]), #[]⟩
def o28:Ob:=λ P=>tu #[(.ref 24)]
def o35:Ob:=λ P=>tu #[]
def o37:Ob:=λ P=>tu #[(.str "self" 230),(.str "row" 231),(.str "word" 232)]
def o38:Ob:=λ P=>tu #[]
def o40:Ob:=λ P=>co "__init__" "BadRow.__init__" 227 10 3 3 35 true 36 (.ref 37) (.ref 38) (.ref 39) 233 234
def o41:Ob:=λ P=>fo "__init__" "BadRow.__init__" (AR (top 6) 0) "loomwright.errors" 195 40
def o42:Ob:=λ P=>tu #[(.str "row" 236),(.str "word" 237)]
def o43:Ob:=λ P=>di #[dE P "__module__" 222 (.str "loomwright.errors" 195),dE P "__firstlineno__" 226 (.int 8 225),dR P "__init__" 235 41,dR P "__static_attributes__" 238 42,dE P "__doc__" 239 .none] 2
def o44:Ob:=λ P=>⟨(.type "type"),none,(.cls ⟨"BadRow",[(.ref 24)],[(.ref 44),(.ref 24),(.type "ValueError"),(.type "Exception"),(.type "BaseException"),(.type "object")],43,"BadRow",true,[],[],false,none,false⟩), #[(some (.ref 28)),none,(some (.str "BadRow" 215)),(some (.str "BadRow" 223)),(some (.builtin "ValueError.__new__")),(some (.bool true))]⟩
def o47:Ob:=λ P=>tu #[(.ref 24)]
def o54:Ob:=λ P=>tu #[]
def o56:Ob:=λ P=>tu #[(.str "self" 257),(.str "place" 258)]
def o57:Ob:=λ P=>tu #[]
def o59:Ob:=λ P=>co "__init__" "BadWord.__init__" 254 16 2 3 54 true 55 (.ref 56) (.ref 57) (.ref 58) 259 260
def o60:Ob:=λ P=>fo "__init__" "BadWord.__init__" (AR (top 7) 0) "loomwright.errors" 195 59
def o61:Ob:=λ P=>tu #[(.str "place" 262)]
def o62:Ob:=λ P=>di #[dE P "__module__" 249 (.str "loomwright.errors" 195),dE P "__firstlineno__" 253 (.int 14 252),dR P "__init__" 261 60,dR P "__static_attributes__" 263 61,dE P "__doc__" 264 .none] 2
def o63:Ob:=λ P=>⟨(.type "type"),none,(.cls ⟨"BadWord",[(.ref 24)],[(.ref 63),(.ref 24),(.type "ValueError"),(.type "Exception"),(.type "BaseException"),(.type "object")],62,"BadWord",true,[],[],false,none,false⟩), #[(some (.ref 47)),none,(some (.str "BadWord" 242)),(some (.str "BadWord" 250)),(some (.builtin "ValueError.__new__")),(some (.bool true))]⟩
def o66:Ob:=λ P=>tu #[(.ref 24)]
def o73:Ob:=λ P=>tu #[]
def o75:Ob:=λ P=>tu #[(.str "self" 282),(.str "what" 283),(.str "many" 284)]
def o76:Ob:=λ P=>tu #[]
def o78:Ob:=λ P=>co "__init__" "TooMany.__init__" 279 21 3 3 73 true 74 (.ref 75) (.ref 76) (.ref 77) 285 286
def o79:Ob:=λ P=>fo "__init__" "TooMany.__init__" (AR (top 8) 0) "loomwright.errors" 195 78
def o80:Ob:=λ P=>tu #[(.str "many" 288),(.str "what" 289)]
def o81:Ob:=λ P=>di #[dE P "__module__" 274 (.str "loomwright.errors" 195),dE P "__firstlineno__" 278 (.int 19 277),dR P "__init__" 287 79,dR P "__static_attributes__" 290 80,dE P "__doc__" 291 .none] 2
def o82:Ob:=λ P=>⟨(.type "type"),none,(.cls ⟨"TooMany",[(.ref 24)],[(.ref 82),(.ref 24),(.type "ValueError"),(.type "Exception"),(.type "BaseException"),(.type "object")],81,"TooMany",true,[],[],false,none,false⟩), #[(some (.ref 66)),none,(some (.str "TooMany" 267)),(some (.str "TooMany" 275)),(some (.builtin "ValueError.__new__")),(some (.bool true))]⟩
def o85:Ob:=λ P=>tu #[(.ref 24)]
def o92:Ob:=λ P=>tu #[]
def o94:Ob:=λ P=>tu #[(.str "self" 309),(.str "what" 310),(.str "number" 311)]
def o95:Ob:=λ P=>tu #[]
def o97:Ob:=λ P=>co "__init__" "NotPlain.__init__" 306 27 3 3 92 true 93 (.ref 94) (.ref 95) (.ref 96) 312 313
def o98:Ob:=λ P=>fo "__init__" "NotPlain.__init__" (AR (top 9) 0) "loomwright.errors" 195 97
def o99:Ob:=λ P=>tu #[(.str "number" 315),(.str "what" 316)]
def R1:Ob:=λ P=>di #[dE P "__module__" 301 (.str "loomwright.errors" 195),dE P "__firstlineno__" 305 (.int 25 304),dR P "__init__" 314 98,dR P "__static_attributes__" 317 99,dE P "__doc__" 318 .none] 2
def Tn:Ob:=λ P=>⟨(.type "type"),none,(.cls ⟨"NotPlain",[(.ref 24)],[(.ref 101),(.ref 24),(.type "ValueError"),(.type "Exception"),(.type "BaseException"),(.type "object")],100,"NotPlain",true,[],[],false,none,false⟩), #[(some (.ref 85)),none,(some (.str "NotPlain" 294)),(some (.str "NotPlain" 302)),(some (.builtin "ValueError.__new__")),(some (.bool true))]⟩
def Su:Ob:=λ P=>tu #[(.ref 24)]
def RL:Ob:=λ P=>tu #[]
def Tf:Ob:=λ P=>tu #[(.str "self" 336),(.str "row" 337),(.str "column" 338)]
def R3:Ob:=λ P=>tu #[]
def Sx:Ob:=λ P=>co "__init__" "NotGrown.__init__" 333 33 3 3 111 true 112 (.ref 113) (.ref 114) (.ref 115) 339 340
def Rf:Ob:=λ P=>fo "__init__" "NotGrown.__init__" (AR (top 10) 0) "loomwright.errors" 195 116
def RN:Ob:=λ P=>tu #[(.str "column" 342),(.str "row" 343)]
def Qn:Ob:=λ P=>di #[dE P "__module__" 328 (.str "loomwright.errors" 195),dE P "__firstlineno__" 332 (.int 31 331),dR P "__init__" 341 117,dR P "__static_attributes__" 344 118,dE P "__doc__" 345 .none] 2
def Te:Ob:=λ P=>⟨(.type "type"),none,(.cls ⟨"NotGrown",[(.ref 24)],[(.ref 120),(.ref 24),(.type "ValueError"),(.type "Exception"),(.type "BaseException"),(.type "object")],119,"NotGrown",true,[],[],false,none,false⟩), #[(some (.ref 104)),none,(some (.str "NotGrown" 321)),(some (.str "NotGrown" 329)),(some (.builtin "ValueError.__new__")),(some (.bool true))]⟩
def SH:Ob:=λ P=>tu #[(.ref 24)]
def SE:Ob:=λ P=>tu #[]
def Tq:Ob:=λ P=>di #[dE P "__module__" 355 (.str "loomwright.errors" 195),dE P "__firstlineno__" 359 (.int 37 358),dR P "__static_attributes__" 360 130,dE P "__doc__" 361 .none] 2
def SD:Ob:=λ P=>⟨(.type "type"),none,(.cls ⟨"BadDraft",[(.ref 24)],[(.ref 132),(.ref 24),(.type "ValueError"),(.type "Exception"),(.type "BaseException"),(.type "object")],131,"BadDraft",true,[],[],false,none,false⟩), #[(some (.ref 123)),none,(some (.str "BadDraft" 348)),(some (.str "BadDraft" 356)),(some (.builtin "ValueError.__new__")),(some (.bool true))]⟩
def SQ:Ob:=λ P=>tu #[(.ref 24)]
def Sh:Ob:=λ P=>tu #[]
def Rq:Ob:=λ P=>di #[dE P "__module__" 371 (.str "loomwright.errors" 195),dE P "__firstlineno__" 375 (.int 39 374),dR P "__static_attributes__" 376 142,dE P "__doc__" 377 .none] 2
def R5:Ob:=λ P=>⟨(.type "type"),none,(.cls ⟨"BadCloth",[(.ref 24)],[(.ref 144),(.ref 24),(.type "ValueError"),(.type "Exception"),(.type "BaseException"),(.type "object")],143,"BadCloth",true,[],[],false,none,false⟩), #[(some (.ref 135)),none,(some (.str "BadCloth" 364)),(some (.str "BadCloth" 372)),(some (.builtin "ValueError.__new__")),(some (.bool true))]⟩
def Rm:Ob:=λ P=>tu #[(.ref 24)]
def QC:Ob:=λ P=>tu #[]
def Qa:Ob:=λ P=>di #[dE P "__module__" 387 (.str "loomwright.errors" 195),dE P "__firstlineno__" 391 (.int 41 390),dR P "__static_attributes__" 392 154,dE P "__doc__" 393 .none] 2
def Q1:Ob:=λ P=>⟨(.type "type"),none,(.cls ⟨"OutOfPlace",[(.ref 24)],[(.ref 156),(.ref 24),(.type "ValueError"),(.type "Exception"),(.type "BaseException"),(.type "object")],155,"OutOfPlace",true,[],[],false,none,false⟩), #[(some (.ref 147)),none,(some (.str "OutOfPlace" 380)),(some (.str "OutOfPlace" 388)),(some (.builtin "ValueError.__new__")),(some (.bool true))]⟩
def Qr:Ob:=λ P=>tu #[]
def RT:Ob:=λ P=>tu #[(.str "thing" 403)]
def RE:Ob:=λ P=>tu #[]
def Q9:Ob:=λ P=>co "is_whole" "is_whole" 400 45 1 3 159 true 160 (.ref 161) (.ref 162) (.ref 163) 404 405
def Sa:Ob:=λ P=>fo "is_whole" "is_whole" (top 16) "loomwright.words" 396 164
def Q4:Ob:=λ P=>tu #[]
def RQ:Ob:=λ P=>tu #[(.str "thing" 410),(.str "least" 411),(.str "most" 412)]
def Sj:Ob:=λ P=>tu #[]
def P6:Ob:=λ P=>co "is_among" "is_among" 407 47 3 3 166 true 167 (.ref 168) (.ref 169) (.ref 170) 413 414
def RB:Ob:=λ P=>fo "is_among" "is_among" (top 17) "loomwright.words" 396 171
def RM:Ob:=λ P=>tu #[]
def Rv:Ob:=λ P=>tu #[(.str "thing" 419)]
def So:Ob:=λ P=>tu #[]
def QM:Ob:=λ P=>co "is_colour" "is_colour" 416 49 1 3 173 true 174 (.ref 175) (.ref 176) (.ref 177) 420 421
def Q0:Ob:=λ P=>fo "is_colour" "is_colour" (top 18) "loomwright.words" 396 178
def Qb:Ob:=λ P=>tu #[]
def R8:Ob:=λ P=>tu #[(.str "holds" 428),(.str "words" 429)]
def P9:Ob:=λ P=>tu #[]
def Sm:Ob:=λ P=>co "need" "need" 425 52 2 3 180 true 181 (.ref 182) (.ref 183) (.ref 184) 430 431
def Qz:Ob:=λ P=>fo "need" "need" (top 20) "loomwright.draft" 423 185
def SM:Ob:=λ P=>tu #[]
def Tp:Ob:=λ P=>tu #[(.str "thing" 436),(.str "least" 437),(.str "most" 438)]
def Qw:Ob:=λ P=>tu #[]
def RH:Ob:=λ P=>co "is_list" "is_list" 433 55 3 3 187 true 188 (.ref 189) (.ref 190) (.ref 191) 439 440
def RV:Ob:=λ P=>fo "is_list" "is_list" (top 21) "loomwright.draft" 423 192
def Sz:Ob:=λ P=>tu #[]
def S8:Ob:=λ P=>tu #[(.str "thing" 445),(.str "most" 446),(.str "last" 447),(.str "number" 448)]
def SI:Ob:=λ P=>tu #[]
def Qq:Ob:=λ P=>co "is_rising" "is_rising" 442 57 2 3 194 true 195 (.ref 196) (.ref 197) (.ref 198) 449 450
def Rt:Ob:=λ P=>fo "is_rising" "is_rising" (top 22) "loomwright.draft" 423 199
def S7:Ob:=λ P=>tu #[]
def S4:Ob:=λ P=>co "are_rising" "are_rising" 452 66 2 3 201 true 202 .none .none (.ref 203) 455 456
def Sn:Ob:=λ P=>fo "are_rising" "are_rising" (top 23) "loomwright.draft" 423 204
def Rl:Ob:=λ P=>tu #[]
def Sl:Ob:=λ P=>co "are_colours" "are_colours" 458 68 2 3 206 true 207 .none .none (.ref 208) 461 462
def Ss:Ob:=λ P=>fo "are_colours" "are_colours" (top 24) "loomwright.draft" 423 209
def Q6:Ob:=λ P=>tu #[]
def Tb:Ob:=λ P=>co "need_draft" "need_draft" 464 70 7 3 211 true 212 .none .none (.ref 213) 467 468
def P3:Ob:=λ P=>fo "need_draft" "need_draft" (top 25) "loomwright.draft" 423 214
def QF:Ob:=λ P=>tu #[]
def Tu:Ob:=λ P=>co "__init__" "Draft.__init__" 482 83 8 3 223 true 224 .none .none (.ref 225) 485 486
def SW:Ob:=λ P=>fo "__init__" "Draft.__init__" (AR (top 26) 0) "loomwright.draft" 423 226
def PV:Ob:=λ P=>tu #[]
def SJ:Ob:=λ P=>co "told" "Draft.told" 488 93 1 3 228 true 229 .none .none (.ref 230) 491 492
def P2:Ob:=λ P=>fo "told" "Draft.told" (AR (top 26) 1) "loomwright.draft" 423 231
def RI:Ob:=λ P=>tu #[]
def P1:Ob:=λ P=>tu #[(.str "self" 497)]
def SC:Ob:=λ P=>tu #[]
def Rk:Ob:=λ P=>co "ends" "Draft.ends" 494 96 1 3 233 true 234 (.ref 235) (.ref 236) (.ref 237) 498 499
def RS:Ob:=λ P=>fo "ends" "Draft.ends" (AR (top 26) 2) "loomwright.draft" 423 238
def Rr:Ob:=λ P=>tu #[]
def Tl:Ob:=λ P=>tu #[(.str "self" 504)]
def R6:Ob:=λ P=>tu #[]
def Qu:Ob:=λ P=>co "picks" "Draft.picks" 501 99 1 3 240 true 241 (.ref 242) (.ref 243) (.ref 244) 505 506
def QV:Ob:=λ P=>fo "picks" "Draft.picks" (AR (top 26) 3) "loomwright.draft" 423 245
def RU:Ob:=λ P=>tu #[(.str "shafts" 508),(.str "threading" 509),(.str "ties" 510),(.str "treading" 511),(.str "treadles" 512),(.str "warp" 513),(.str "weft" 514)]
def Sb:Ob:=λ P=>di #[dE P "__module__" 477 (.str "loomwright.draft" 423),dE P "__firstlineno__" 481 (.int 81 480),dR P "__init__" 487 227,dR P "told" 493 232,dR P "ends" 500 239,dR P "picks" 507 246,dR P "__static_attributes__" 515 247,dR P "__dict__" 517 250,dR P "__weakref__" 519 251,dE P "__doc__" 520 .none] 4
def Ri:Ob:=λ P=>⟨(.type "type"),none,(.cls ⟨"Draft",[(.type "object")],[(.ref 249),(.type "object")],248,"Draft",true,[],[],false,none,false⟩), #[none,none,(some (.str "Draft" 470)),(some (.str "Draft" 478)),(some (.builtin "object.__new__")),(some (.bool true))]⟩
def Rh:Ob:=λ P=>⟨(.type "getset_descriptor"),none,(.fields #[(.str "__dict__" 516),(.ref 249),(.builtin "function.__dict__"),(.builtin "function.__dict__#set")]), #[]⟩
def Qv:Ob:=λ P=>⟨(.type "getset_descriptor"),none,(.fields #[(.str "__weakref__" 518),(.ref 249),(.builtin "ExceptionGroup.__weakref__"), .none]), #[]⟩
def S6:Ob:=λ P=>tu #[]
def S9:Ob:=λ P=>tu #[(.str "_law_cell" 528),(.str "_law_k" 529)]
def RG:Ob:=λ P=>tu #[]
def QQ:Ob:=λ P=>co "_law_mixed" "_law_mixed" 525 102 2 3 254 true 255 (.ref 256) (.ref 257) (.ref 258) 530 531
def Qs:Ob:=λ P=>fo "_law_mixed" "_law_mixed" (top 28) "law_loomwright_k04_drafts_made" 523 259
def Ti:Ob:=λ P=>tu #[]
def Qt:Ob:=λ P=>co "_law_kinds" "_law_kinds" 533 105 1 3 261 true 262 .none .none (.ref 263) 536 537
def Qh:Ob:=λ P=>fo "_law_kinds" "_law_kinds" (top 29) "law_loomwright_k04_drafts_made" 523 264
def Sv:Ob:=λ P=>tu #[]
def Si:Ob:=λ P=>co "_law_same" "_law_same" 539 112 2 3 266 true 267 .none .none (.ref 268) 542 543
def QN:Ob:=λ P=>fo "_law_same" "_law_same" (top 30) "law_loomwright_k04_drafts_made" 523 269
def Tt:Ob:=λ P=>tu #[]
def RD:Ob:=λ P=>co "_law_cells" "_law_cells" 545 118 2 3 271 true 272 .none .none (.ref 273) 548 549
def Tv:Ob:=λ P=>fo "_law_cells" "_law_cells" (top 31) "law_loomwright_k04_drafts_made" 523 274
def R0:Ob:=λ P=>tu #[]
def SB:Ob:=λ P=>co "_law_numbers" "_law_numbers" 551 121 2 3 276 true 277 .none .none (.ref 278) 554 555
def Rj:Ob:=λ P=>fo "_law_numbers" "_law_numbers" (top 32) "law_loomwright_k04_drafts_made" 523 279
def RW:Ob:=λ P=>tu #[]
def SU:Ob:=λ P=>co "_law_draft" "_law_draft" 557 123 2 3 281 true 282 .none .none (.ref 283) 560 561
def R7:Ob:=λ P=>fo "_law_draft" "_law_draft" (top 33) "law_loomwright_k04_drafts_made" 523 284
def SO:Ob:=λ P=>tu #[]
def Rg:Ob:=λ P=>co "_law_copied" "_law_copied" 563 137 1 3 286 true 287 .none .none (.ref 288) 566 567
def Tj:Ob:=λ P=>fo "_law_copied" "_law_copied" (top 34) "law_loomwright_k04_drafts_made" 523 289
def Rc:Ob:=λ P=>tu #[]
def Sy:Ob:=λ P=>tu #[(.str "_law_told" 572),(.str "_law_one" 573)]
def QX:Ob:=λ P=>tu #[]
def S2:Ob:=λ P=>co "_law_spoilt" "_law_spoilt" 569 143 1 3 291 true 292 (.ref 293) (.ref 294) (.ref 295) 574 575
def QI:Ob:=λ P=>fo "_law_spoilt" "_law_spoilt" (top 35) "law_loomwright_k04_drafts_made" 523 296
def QH:Ob:=λ P=>tu #[]
def Tr:Ob:=λ P=>tu #[(.str "_law_parts" 580),(.str "_law_shafts" 581),(.str "_law_treadles" 582),(.str "_law_threading" 583),(.str "_law_ties" 584),(.str "_law_treading" 585),(.str "_law_warp" 586),(.str "_law_weft" 587)]
def RO:Ob:=λ P=>tu #[]
def QU:Ob:=λ P=>co "_law_made" "_law_made" 577 149 1 3 298 true 299 (.ref 300) (.ref 301) (.ref 302) 588 589
def Q2:Ob:=λ P=>fo "_law_made" "_law_made" (top 36) "law_loomwright_k04_drafts_made" 523 303
def Q5:Ob:=λ P=>tu #[]
def To:Ob:=λ P=>tu #[(.str "_law_number" 594)]
def Rz:Ob:=λ P=>tu #[]
def Rb:Ob:=λ P=>co "_law_odd" "_law_odd" 591 152 1 3 305 true 306 (.ref 307) (.ref 308) (.ref 309) 595 596
def Ry:Ob:=λ P=>fo "_law_odd" "_law_odd" (top 37) "law_loomwright_k04_drafts_made" 523 310
def SN:Ob:=λ P=>tu #[]
def S5:Ob:=λ P=>co "_law_wrong" "_law_wrong" 598 154 2 3 312 true 313 .none .none (.ref 314) 601 602
def QG:Ob:=λ P=>fo "_law_wrong" "_law_wrong" (top 38) "law_loomwright_k04_drafts_made" 523 315
def Qp:Ob:=λ P=>tu #[]
def Ra:Ob:=λ P=>tu #[(.str "_law_parts" 607),(.str "_law_wrong_here" 608),(.str "e" 609)]
def SZ:Ob:=λ P=>tu #[]
def RC:Ob:=λ P=>co "_law_refused" "_law_refused" 604 177 1 3 317 true 318 (.ref 319) (.ref 320) (.ref 321) 610 611
def P5:Ob:=λ P=>fo "_law_refused" "_law_refused" (top 39) "law_loomwright_k04_drafts_made" 523 322
def RZ:Ob:=λ P=>tu #[]
def Sg:Ob:=λ P=>co "_law_by_hand" "_law_by_hand" 613 184 1 3 324 true 325 .none .none (.ref 326) 616 617
def Ro:Ob:=λ P=>fo "_law_by_hand" "_law_by_hand" (top 40) "law_loomwright_k04_drafts_made" 523 327
def SG:Ob:=λ P=>tu #[]
def Ru:Ob:=λ P=>tu #[(.str "_law_script" 622),(.str "_law_due" 623),(.str "_law_handed" 624),(.str "_law_draft_here" 625),(.str "_law_turn" 626),(.str "_law_told" 627),(.str "_law_whole" 628),(.str "_law_number" 629)]
def S1:Ob:=λ P=>tu #[]
def SK:Ob:=λ P=>co "law" "law" 619 197 1 3 329 true 330 (.ref 331) (.ref 332) (.ref 333) 630 631
def SS:Ob:=λ P=>fo "law" "law" (top 41) "law_loomwright_k04_drafts_made" 523 334
def TF (P:Params):List Obj:=RC P::P5 P::RZ P::Sg P::Ro P::SG P::Ru P::S1 P::SK P::SS P::[]
def TV (P:Params):List Obj:=Q2 P::Q5 P::To P::Rz P::Rb P::Ry P::SN P::S5 P::QG P::Qp P::Ra P::SZ P::TF P
def Tx (P:Params):List Obj:=SO P::Rg P::Tj P::Rc P::Sy P::QX P::S2 P::QI P::QH P::Tr P::RO P::QU P::TV P
def TB (P:Params):List Obj:=Sv P::Si P::QN P::Tt P::RD P::Tv P::R0 P::SB P::Rj P::RW P::SU P::R7 P::Tx P
def TQ (P:Params):List Obj:=Sb P::Ri P::Rh P::Qv P::S6 P::S9 P::RG P::QQ P::Qs P::Ti P::Qt P::Qh P::TB P
def ob9 (P:Params):List Obj:=P2 P::RI P::P1 P::SC P::Rk P::RS P::Rr P::Tl P::R6 P::Qu P::QV P::RU P::TQ P
def ob8 (P:Params):List Obj:=Sn P::Rl P::Sl P::Ss P::Q6 P::Tb P::P3 P::QF P::Tu P::SW P::PV P::SJ P::ob9 P
def ob7 (P:Params):List Obj:=SM P::Tp P::Qw P::RH P::RV P::Sz P::S8 P::SI P::Qq P::Rt P::S7 P::S4 P::ob8 P
def ob6 (P:Params):List Obj:=P6 P::RB P::RM P::Rv P::So P::QM P::Q0 P::Qb P::R8 P::P9 P::Sm P::Qz P::ob7 P
def ob5 (P:Params):List Obj:=Rm P::QC P::Qa P::Q1 P::Qr P::RT P::RE P::Q9 P::Sa P::Q4 P::RQ P::Sj P::ob6 P
def ob4 (P:Params):List Obj:=Rf P::RN P::Qn P::Te P::SH P::SE P::Tq P::SD P::SQ P::Sh P::Rq P::R5 P::ob5 P
def ob3 (P:Params):List Obj:=o94 P::o95 P::o97 P::o98 P::o99 P::R1 P::Tn P::Su P::RL P::Tf P::R3 P::Sx P::ob4 P
def ob2 (P:Params):List Obj:=o63 P::o66 P::o73 P::o75 P::o76 P::o78 P::o79 P::o80 P::o81 P::o82 P::o85 P::o92 P::ob3 P
def ob1 (P:Params):List Obj:=o41 P::o42 P::o43 P::o44 P::o47 P::o54 P::o56 P::o57 P::o59 P::o60 P::o61 P::o62 P::ob2 P
def ob0 (P:Params):List Obj:=boot_o_2 P::o3 P::o15 P::o22 P::o23 P::o24 P::o25 P::o28 P::o35 P::o37 P::o38 P::o40 P::ob1 P
def frag (P:Params):Frag:=(nat_lit 2,boot_o_2 P)::(nat_lit 3,o3 P)::(nat_lit 15,o15 P)::(nat_lit 22,o22 P)::(nat_lit 23,o23 P)::(nat_lit 24,o24 P)::(nat_lit 25,o25 P)::(nat_lit 28,o28 P)::(nat_lit 35,o35 P)::(nat_lit 37,o37 P)::(nat_lit 38,o38 P)::(nat_lit 40,o40 P)::(nat_lit 41,o41 P)::(nat_lit 42,o42 P)::(nat_lit 43,o43 P)::(nat_lit 44,o44 P)::(nat_lit 47,o47 P)::(nat_lit 54,o54 P)::(nat_lit 56,o56 P)::(nat_lit 57,o57 P)::(nat_lit 59,o59 P)::(nat_lit 60,o60 P)::(nat_lit 61,o61 P)::(nat_lit 62,o62 P)::(nat_lit 63,o63 P)::(nat_lit 66,o66 P)::(nat_lit 73,o73 P)::(nat_lit 75,o75 P)::(nat_lit 76,o76 P)::(nat_lit 78,o78 P)::(nat_lit 79,o79 P)::(nat_lit 80,o80 P)::(nat_lit 81,o81 P)::(nat_lit 82,o82 P)::(nat_lit 85,o85 P)::(nat_lit 92,o92 P)::(nat_lit 94,o94 P)::(nat_lit 95,o95 P)::(nat_lit 97,o97 P)::(nat_lit 98,o98 P)::(nat_lit 99,o99 P)::(nat_lit 100,R1 P)::(nat_lit 101,Tn P)::(nat_lit 104,Su P)::(nat_lit 111,RL P)::(nat_lit 113,Tf P)::(nat_lit 114,R3 P)::(nat_lit 116,Sx P)::(nat_lit 117,Rf P)::(nat_lit 118,RN P)::(nat_lit 119,Qn P)::(nat_lit 120,Te P)::(nat_lit 123,SH P)::(nat_lit 130,SE P)::(nat_lit 131,Tq P)::(nat_lit 132,SD P)::(nat_lit 135,SQ P)::(nat_lit 142,Sh P)::(nat_lit 143,Rq P)::(nat_lit 144,R5 P)::(nat_lit 147,Rm P)::(nat_lit 154,QC P)::(nat_lit 155,Qa P)::(nat_lit 156,Q1 P)::(nat_lit 159,Qr P)::(nat_lit 161,RT P)::(nat_lit 162,RE P)::(nat_lit 164,Q9 P)::(nat_lit 165,Sa P)::(nat_lit 166,Q4 P)::(nat_lit 168,RQ P)::(nat_lit 169,Sj P)::(nat_lit 171,P6 P)::(nat_lit 172,RB P)::(nat_lit 173,RM P)::(nat_lit 175,Rv P)::(nat_lit 176,So P)::(nat_lit 178,QM P)::(nat_lit 179,Q0 P)::(nat_lit 180,Qb P)::(nat_lit 182,R8 P)::(nat_lit 183,P9 P)::(nat_lit 185,Sm P)::(nat_lit 186,Qz P)::(nat_lit 187,SM P)::(nat_lit 189,Tp P)::(nat_lit 190,Qw P)::(nat_lit 192,RH P)::(nat_lit 193,RV P)::(nat_lit 194,Sz P)::(nat_lit 196,S8 P)::(nat_lit 197,SI P)::(nat_lit 199,Qq P)::(nat_lit 200,Rt P)::(nat_lit 201,S7 P)::(nat_lit 204,S4 P)::(nat_lit 205,Sn P)::(nat_lit 206,Rl P)::(nat_lit 209,Sl P)::(nat_lit 210,Ss P)::(nat_lit 211,Q6 P)::(nat_lit 214,Tb P)::(nat_lit 215,P3 P)::(nat_lit 223,QF P)::(nat_lit 226,Tu P)::(nat_lit 227,SW P)::(nat_lit 228,PV P)::(nat_lit 231,SJ P)::(nat_lit 232,P2 P)::(nat_lit 233,RI P)::(nat_lit 235,P1 P)::(nat_lit 236,SC P)::(nat_lit 238,Rk P)::(nat_lit 239,RS P)::(nat_lit 240,Rr P)::(nat_lit 242,Tl P)::(nat_lit 243,R6 P)::(nat_lit 245,Qu P)::(nat_lit 246,QV P)::(nat_lit 247,RU P)::(nat_lit 248,Sb P)::(nat_lit 249,Ri P)::(nat_lit 250,Rh P)::(nat_lit 251,Qv P)::(nat_lit 254,S6 P)::(nat_lit 256,S9 P)::(nat_lit 257,RG P)::(nat_lit 259,QQ P)::(nat_lit 260,Qs P)::(nat_lit 261,Ti P)::(nat_lit 264,Qt P)::(nat_lit 265,Qh P)::(nat_lit 266,Sv P)::(nat_lit 269,Si P)::(nat_lit 270,QN P)::(nat_lit 271,Tt P)::(nat_lit 274,RD P)::(nat_lit 275,Tv P)::(nat_lit 276,R0 P)::(nat_lit 279,SB P)::(nat_lit 280,Rj P)::(nat_lit 281,RW P)::(nat_lit 284,SU P)::(nat_lit 285,R7 P)::(nat_lit 286,SO P)::(nat_lit 289,Rg P)::(nat_lit 290,Tj P)::(nat_lit 291,Rc P)::(nat_lit 293,Sy P)::(nat_lit 294,QX P)::(nat_lit 296,S2 P)::(nat_lit 297,QI P)::(nat_lit 298,QH P)::(nat_lit 300,Tr P)::(nat_lit 301,RO P)::(nat_lit 303,QU P)::(nat_lit 304,Q2 P)::(nat_lit 305,Q5 P)::(nat_lit 307,To P)::(nat_lit 308,Rz P)::(nat_lit 310,Rb P)::(nat_lit 311,Ry P)::(nat_lit 312,SN P)::(nat_lit 315,S5 P)::(nat_lit 316,QG P)::(nat_lit 317,Qp P)::(nat_lit 319,Ra P)::(nat_lit 320,SZ P)::(nat_lit 322,RC P)::(nat_lit 323,P5 P)::(nat_lit 324,RZ P)::(nat_lit 327,Sg P)::(nat_lit 328,Ro P)::(nat_lit 329,SG P)::(nat_lit 331,Ru P)::(nat_lit 332,S1 P)::(nat_lit 334,SK P)::(nat_lit 335,SS P)::[]
def addrs:List Addr:=[2,3,15,22,23,24,25,28,35,37,38,40,41,42,43,44,47,54,56,57,59,60,61,62,63,66,73,75,76,78,79,80,81,82,85,92,94,95,97,98,99,100,101,104,111,113,114,116,117,118,119,120,123,130,131,132,135,142,143,144,147,154,155,156,159,161,162,164,165,166,168,169,171,172,173,175,176,178,179,180,182,183,185,186,187,189,190,192,193,194,196,197,199,200,201,204,205,206,209,210,211,214,215,223,226,227,228,231,232,233,235,236,238,239,240,242,243,245,246,247,248,249,250,251,254,256,257,259,260,261,264,265,266,269,270,271,274,275,276,279,280,281,284,285,286,289,290,291,293,294,296,297,298,300,301,303,304,305,307,308,310,311,312,315,316,317,319,320,322,323,324,327,328,329,331,332,334,335]
def fr0 (P:Params):Frag:=addrs.zip (ob0 P)
theorem Ny (P:Params):frag P=fr0 P:=by kernel_rfl
def view:Program:={ PySem.Challenge.pw_loomwright_k04_drafts_made with main:={ PySem.Challenge.pw_loomwright_k04_drafts_made.main with body:=[top 0,top 1,top 2,top 3,top 5,top 6,top 7,top 8,top 9,top 10,top 11,top 12,top 13,top 15,top 16,top 17,top 18,top 20,top 21,top 22,top 23,top 24,top 25,top 26,top 28,top 29,top 30,top 31,top 32,top 33,top 34,top 35,top 36,top 37,top 38,top 39,top 40,top 41] } }
abbrev Xt:Shared->Bool:=λ s=>xlAt view [] s&&recOk (RowW.records PySem.Challenge.rw_loomwright_k04_drafts_made.row.toRowW) s
theorem addrs_eq:∀ P:Params,addrs=(frag P).map (·.1):=λ _=>by kernel_rfl
abbrev hook:Hook:=kHook frag addrs addrs_eq
abbrev fuel:Nat:=6352
theorem Re:(λ _=>true) (HX.topT treeTable view (aWorld 1) 0 none,view,fr0,PySem.Challenge.rw_loomwright_k04_drafts_made)=true:=by k_qdec
theorem TX (w:World) (os:OsState):(HX.topT treeTable PySem.Challenge.pw_loomwright_k04_drafts_made w 11 (some (.ref 6)) fuel ⟨HX.bootT w.params,11,{},Array.mk [],boot_drawn,boot_toks,os⟩ (topStub PySem.Challenge.pw_loomwright_k04_drafts_made)).map (λ s=>((staticsOk (importedModules PySem.Challenge.pw_loomwright_k04_drafts_made.main.body) (boot_heap w.params) s.abs.heap&&namesBound PySem.Challenge.pw_loomwright_k04_drafts_made s.abs.heap&&gensDone s.abs&&laidKept (boot_heap w.params) s.abs.heap),addrs.map s.abs.heap.get?))=some (true,((fr0 w.params).map λ p=>some p.2)):=by
  have _tw:=Re;rw [PySem.W.Fast.te5923862056798008813,PySem.W.Fast.te11545195325837349924,PySem.W.Fast.te14364793385576792824,PySem.W.Fast.te9621378704136392807,PySem.W.Fast.te15904479906886735306];kernel_rfl
theorem T2 (w:World) (os:OsState):(HX.topT treeTable PySem.Challenge.pw_loomwright_k04_drafts_made w 11 (some (.ref 6)) fuel ⟨HX.bootT w.params,11,{},Array.mk [],boot_drawn,boot_toks,os⟩ (topStub PySem.Challenge.pw_loomwright_k04_drafts_made)).map (λ s=>(openSeen view [] (importedModules PySem.Challenge.pw_loomwright_k04_drafts_made.main.body) Xt true s.abs))=some (openGood view []):=by
  unfold Xt;rw [PySem.W.Fast.te5923862056798008813,PySem.W.Fast.te4187177175401517315,PySem.W.Fast.te2368527892694137696,PySem.W.Fast.te15452994122370485629,PySem.W.Fast.te2163578797613793149,PySem.W.Fast.te14364793385576792824,PySem.W.Fast.te9621378704136392807,PySem.W.Fast.te15904479906886735306];kernel_rfl
theorem left:LeftO PySem.Challenge.pw_loomwright_k04_drafts_made view [] Xt hook.obs hook.val fuel:=HX.left_run (by kernel_rfl) (by decide) (λ s=>by kernel_rfl) HX.hb λ w os=>by
  obtain ⟨s,r,l⟩:=Option.map_eq_some_iff.mp (TX w os);obtain ⟨s2,r2,l2⟩:=Option.map_eq_some_iff.mp (T2 w os);cases r.symm.trans r2;rw [<-Ny] at l;exact ⟨s.abs,HX.topT_of r,HX.three l l2⟩
end K04
namespace L2
open PySem PySem.Spec PyProof.Rows
abbrev Key:=Sum Int Str
def GA:Key->Value->Bool
  | .inl k,v=>Value.isInt k v
  | .inr x,v=>Value.isStrOf x v
def TH (w:World):Key->Int
  | .inl k=>hashInt k
  | .inr x=>hashStr w x
theorem AW:∀ {k:Key} {v:Value},GA k v=true->(∃ i t,k=Sum.inl i/\v=Value.int i t)\/(∃ x t,k=Sum.inr x/\v=Value.str x t)
  | .inl i,v,h=>by
    obtain ⟨t,e⟩:=Value.isInt_shape (k:=i) (v:=v) h;exact .inl ⟨i,t,rfl,e⟩
  | .inr x,v,h=>by
    obtain ⟨t,e⟩:=Value.isStrOf_shape (x:=x) (v:=v) h;exact .inr ⟨x,t,rfl,e⟩
theorem Kx (i:Int) (t:Tok):GA (.inl i) (.int i t)=true:=by simp [GA,Value.isInt]
theorem KJ (x:Str) (t:Tok):GA (.inr x) (.str x t)=true:=by simp [GA,Value.isStrOf]
theorem PB (a b:Int):decide ((Sum.inl a:Key)=Sum.inl b)=(a == b):=by
  by_cases e:a=b
  · subst e;simp
  · have h:¬ (Sum.inl a:Key)=Sum.inl b:=λ q=>e (Sum.inl.inj q);rw [decide_eq_false h];exact (beq_eq_false_iff_ne.mpr e).symm
theorem Py (a b:Str):decide ((Sum.inr a:Key)=Sum.inr b)=decide (a=b):=by
  by_cases e:a=b
  · subst e;simp
  · have h:¬ (Sum.inr a:Key)=Sum.inr b:=λ q=>e (Sum.inr.inj q);rw [decide_eq_false h,decide_eq_false e]
theorem Pa (a:Int) (b:Str):decide ((Sum.inl a:Key)=Sum.inr b)=false:=decide_eq_false (λ q=>nomatch q)
theorem PN (a:Str) (b:Int):decide ((Sum.inr a:Key)=Sum.inl b)=false:=decide_eq_false (λ q=>nomatch q)
def AV (prog:Program) (w:World):PySem.KeyKind prog w Key where
  is:=GA
  hash:=TH w
  inj:=λ v a b ha hb=>by
    rcases AW ha with ⟨i,t,rfl,rfl⟩ | ⟨x,t,rfl,rfl⟩
    · rcases AW hb with ⟨j,u,rfl,e⟩ | ⟨y,u,rfl,e⟩
      · injection e with e1 _;rw [e1]
      · exact nomatch e
    · rcases AW hb with ⟨j,u,rfl,e⟩ | ⟨y,u,rfl,e⟩
      · exact nomatch e
      · injection e with e1 _;rw [e1]
  byValue:=λ k v h=>by
    rcases AW h with ⟨i,t,rfl,rfl⟩ | ⟨x,t,rfl,rfl⟩ <;> rfl
  pyHash:=λ hv h=>by
    rcases AW hv with ⟨i,t,rfl,rfl⟩ | ⟨x,t,rfl,rfl⟩
    · exact wpAny_pyHash_int h
    · exact wpAny_pyHash_str h
  eqBool:=λ hu hv h=>by
    rcases AW hu with ⟨i,t,rfl,rfl⟩ | ⟨x,t,rfl,rfl⟩
    · rcases AW hv with ⟨j,u,rfl,rfl⟩ | ⟨y,u,rfl,rfl⟩
      · rw [PB] at h;exact wpAny_eqBool_int h
      · rw [Pa] at h;exact SeqAt.EqAt.int_str i t y u _ _ _ _ h
    · rcases AW hv with ⟨j,u,rfl,rfl⟩ | ⟨y,u,rfl,rfl⟩
      · rw [PN] at h;exact SeqAt.EqAt.str_int x t j u _ _ _ _ h
      · rw [Py] at h;exact wpAny_eqBool_str h
  «strs» := λ k x t v h=>by
    rcases AW h with ⟨i,u,rfl,e⟩ | ⟨y,u,rfl,e⟩
    · exact nomatch e
    · injection e with e1 _;subst e1;cases v <;> rfl
theorem HW (prog:Program) (w:World) (i:Int) (t:Tok):(AV prog w).is (.inl i) (.int i t)=true:=Kx i t
theorem Iz (prog:Program) (w:World) (x:Str) (t:Tok):(AV prog w).is (.inr x) (.str x t)=true:=KJ x t
inductive V where
  | non | bl (b:Bool) | int (i:Int) | str (x:Str) | byt (b:Array UInt8) | flt (b:UInt64) | ref (a:Addr) | ty (n:String)
  deriving DecidableEq
def RelV:V->Value->Prop
  | .non,u=>u=Value.none
  | .bl b,u=>u=Value.bool b
  | .int i,u=>∃ t,u=Value.int i t
  | .str x,u=>∃ t,u=Value.str x t
  | .byt b,u=>∃ t,u=Value.bytes b t
  | .flt b,u=>∃ t,u=Value.float b t
  | .ref a,u=>u=Value.ref a
  | .ty n,u=>u=Value.type n
abbrev Vals:List V->List Value->Prop:=Paired RelV
theorem Vals.length {xs:List V} {us:List Value} (r:Vals xs us):xs.length=us.length:=Paired.length r
theorem Vals.get:∀ {xs:List V} {us:List Value} {i:Nat} {x:V},Vals xs us->xs[i]?=some x->∃ u,us[i]?=some u/\RelV x u
  | _,_,_,_, .nil,e=>by simp at e
  | _,_,0,_, .cons r _,e=>by simp at e;subst e;exact ⟨_,rfl,r⟩
  | _,_,i+1,x, .cons _ t,e=>by
    obtain ⟨u,h1,h2⟩:=Vals.get (i:=i) (x:=x) t (by simpa using e);exact ⟨u,by simpa using h1,h2⟩
theorem Vals.set {x:V} {u:Value} (r:RelV x u):∀ {xs:List V} {us:List Value} (i:Nat),Vals xs us->Vals (xs.set i x) (us.set i u)
  | _,_,_, .nil=> .nil
  | _,_,0, .cons _ t=> .cons r t
  | _,_,i+1, .cons q t=> .cons q (Vals.set r i t)
theorem Vals.append:∀ {xs ys:List V} {us ws:List Value},Vals xs us->Vals ys ws->Vals (xs++ys) (us++ws)
  | _,_,_,_, .nil,s=>s
  | _,_,_,_, .cons r t,s=> .cons r (Vals.append t s)
theorem Vals.take:∀ {xs:List V} {us:List Value} (n:Nat),Vals xs us->Vals (xs.take n) (us.take n)
  | _,_,0,_=> .nil
  | _,_,_+1, .nil=> .nil
  | _,_,n+1, .cons r t=> .cons r (Vals.take n t)
theorem Vals.drop:∀ {xs:List V} {us:List Value} (n:Nat),Vals xs us->Vals (xs.drop n) (us.drop n)
  | _,_,0,r=>r
  | _,_,_+1, .nil=> .nil
  | _,_,n+1, .cons _ t=>Vals.drop n t
def RelO:Option V->Option Value->Prop
  | some v,some u=>RelV v u
  | none,none=>True
  | _,_=>False
def KV {κ:Type}:List (κ × V)->List (κ × Value)->Prop:=Paired λ (p:κ × V) (q:κ × Value)=>p.1=q.1/\RelV p.2 q.2
def kV:Key->V
  | .inl i=> .int i
  | .inr x=> .str x
inductive HO where
  | lst (xs:List V)
  | tup (xs:List V)
  | dK (kvs:List (Key × V)) | dT (kvs:List (List Key × V))
  | set (S:Int->Bool) (n:Nat)
  | ins (C dx:Addr) (fs:List (Str × V))
  | own (x:Addr)
  | xd (fs:List (Str × V))
  | met (f x:Addr)
  | rng (lo hi:Int)
  | frz (o:Obj) (u:HO)
  | tbl (ps:Array Value)
  | ext (φ:Heap->Prop)
abbrev Hp:=Addr->Option HO
def upd (H:Hp) (a:Addr) (o:HO):Hp:=λ b=>if b=a then some o else H b
theorem Ac {H:Hp} {a:Addr} {o:HO}:upd H a o a=some o:=by unfold upd;rw [if_pos rfl]
theorem Af {H:Hp} {a b:Addr} {o:HO} (h:b≠a):upd H a o b=H b:=by unfold upd;rw [if_neg h]
theorem EJ {H:Hp} {a b:Addr} {o u:HO} (h:H a=some o) (h':H b=some u) (d:o≠u):a≠b:=by
  intro e;subst e;rw [h] at h';exact d (Option.some.inj h')
theorem AB {H:Hp} {a b:Addr} {o:HO} (h:H a=some o) (h':H b=none):a≠b:=by
  intro e;subst e;rw [h] at h';cases h'
section
variable (P:Program) (w:World)
def ObjOk (H:Hp) (h:Heap) (a:Addr):HO->Prop
  | .lst xs=>xs.length<=sizeLine/\∃ (its:List Value) (n:Nat),Vals xs its/\h.get? a=some { cls:= .type "list",data:= .seq its.toArray n }
  | .tup xs=>xs.length<=sizeLine/\∃ its:List Value,Vals xs its/\IsTup h a its.toArray
  | .dK kvs=>kvs.length<=sizeLine/\(a == sysModules)=false/\∃ vs,KV kvs vs/\h.DictOf (AV P w) a vs
  | .dT kvs=>kvs.length<=sizeLine/\(a == sysModules)=false/\∃ xs:List (List Key × Addr × Value),
      Paired (λ (p:List Key × V) (q:List Key × Addr × Value)=>p.1=q.1/\H q.2.1=some (.tup (p.1.map kV))/\RelV p.2 q.2.2) kvs xs/\
      ∃ o es ep,h.get? a=some o/\o.ExactDict/\o.data= .dict es ep/\es.toList=xs.map (entryOfKey (tupleKind (AV P w)))/\(xs.map (·.1)).Nodup
  | .set S n=>h.SetOf (intKind P w) a S n
  | .ins C dx fs=>H dx=some (.own a)/\fs.length<=1000/\dx≠a/\h.get? a=some (PySem.W.instObj C dx)/\
      ∃ mA,h.Ns1 dx mA/\(∀ f,RelO (fs.lookup f) (mA f))/\PySem.Within mA (fs.map (·.1))
  | .own _=>∃ o,h.get? a=some o
  | .xd fs=>∃ mA,h.Ns1 a mA/\∀ f,RelO (fs.lookup f) (mA f)
  | .rng lo hi=>∃ t u v,h.get? a=some { cls:= .type "range",data:= .fields #[.int lo t, .int hi u, .int 1 v] }
  | .frz o u=>h.get? a=some o/\ObjOk H h a u
  | .tbl ps=>h.get? a=some { cls:= .none,data:= .fields ps }
  | .met f x=>h.get? a=some (PySem.W.methodObj (.ref f) (.ref x))
  | .ext φ=>φ h/\(∃ o,h.get? a=some o)/\∀ h1 h2:Heap,φ h1->(∀ o,h1.get? a=some o->h2.get? a=some o)->φ h2
def HOk (H:Hp) (h:Heap):Prop:=∀ a o,H a=some o->ObjOk P w H h a o
end
section
variable {P:Program} {w:World} {H H':Hp} {h h':Heap} {a:Addr} {o:HO}
theorem ObjOk.lt (x:ObjOk P w H h a o):a<h.objs.size:=by
  cases o with
  | lst xs=>obtain ⟨_,_,_,_,e⟩:=x;exact Heap.lt_size e
  | tup xs=>obtain ⟨_,_,_,p⟩:=x;exact p.lt
  | dK kvs=>obtain ⟨_,_,_,_,o,_,_,e,_⟩:=x;exact Heap.lt_size e
  | dT kvs=>obtain ⟨_,_,_,_,o,_,_,e,_⟩:=x;exact Heap.lt_size e
  | set S n=>obtain ⟨o,_,_,_,e,_⟩:=x;exact Heap.lt_size e
  | ins C dx fs=>obtain ⟨_,_,_,e,_⟩:=x;exact Heap.lt_size e
  | own y=>obtain ⟨_,e⟩:=x;exact Heap.lt_size e
  | xd fs=>obtain ⟨_,⟨_,_,_,e,_⟩,_⟩:=x;exact Heap.lt_size e
  | rng lo hi=>obtain ⟨_,_,_,e⟩:=x;exact Heap.lt_size e
  | frz ob u=>obtain ⟨e,_⟩:=x;exact Heap.lt_size e
  | tbl ps=>exact Heap.lt_size (show h.get? a=some _ from x)
  | met f y=>exact Heap.lt_size (show h.get? a=some _ from x)
  | ext φ=>obtain ⟨_,⟨_,e⟩,_⟩:=x;exact Heap.lt_size e
theorem Paired.mapP {α β:Type} {F G:α->β->Prop}:∀ {l₁:List α} {l₂:List β},Paired F l₁ l₂->(∀ a b,F a b->G a b)->Paired G l₁ l₂
  | _,_, .nil,_=> .nil
  | _,_, .cons r t,f=> .cons (f _ _ r) (Paired.mapP t f)
theorem ObjOk.stay (x:ObjOk P w H h a o) (k:∀ b u,(b=a\/H b=some (.own a))->h.get? b=some u->h'.get? b=some u)
    (ho:∀ b,H b=some (.own a)->H' b=some (.own a)) (ht:∀ b xs,H b=some (.tup xs)->H' b=some (.tup xs)):ObjOk P w H' h' a o:=by
  induction o with
  | lst xs=>obtain ⟨z,its,n,r,e⟩:=x;exact ⟨z,its,n,r,k _ _ (.inl rfl) e⟩
  | tup xs=>obtain ⟨z,its,r,ob,e,c⟩:=x;exact ⟨z,its,r,ob,k _ _ (.inl rfl) e,c⟩
  | dK kvs=>obtain ⟨z,y,vs,r,ob,es,ep,e,c⟩:=x;exact ⟨z,y,vs,r,ob,es,ep,k _ _ (.inl rfl) e,c⟩
  | dT kvs=>
    obtain ⟨z,y,xs,r,ob,es,ep,e,c⟩:=x;exact ⟨z,y,xs,Paired.mapP r λ p q z=>⟨z.1,ht _ _ z.2.1,z.2.2⟩,ob,es,ep,k _ _ (.inl rfl) e,c⟩
  | set S n=>obtain ⟨ob,es,ep,t,e,c⟩:=x;exact ⟨ob,es,ep,t,k _ _ (.inl rfl) e,c⟩
  | ins C dx fs=>
    obtain ⟨d,z,ne,e,mA,⟨od,es,ep,e2,c⟩,r⟩:=x;exact ⟨ho _ d,z,ne,k _ _ (.inl rfl) e,mA,⟨od,es,ep,k _ _ (.inr d) e2,c⟩,r⟩
  | own y=>obtain ⟨ob,e⟩:=x;exact ⟨ob,k _ _ (.inl rfl) e⟩
  | xd fs=>obtain ⟨mA,⟨od,es,ep,e,c⟩,r⟩:=x;exact ⟨mA,⟨od,es,ep,k _ _ (.inl rfl) e,c⟩,r⟩
  | rng lo hi=>obtain ⟨t,u,v,e⟩:=x;exact ⟨t,u,v,k _ _ (.inl rfl) e⟩
  | frz ob u ih=>obtain ⟨e,q⟩:=x;exact ⟨k _ _ (.inl rfl) e,ih q⟩
  | tbl ps=>
    have e:h.get? a=some { cls:= .none,data:= .fields ps }:=x;show h'.get? a=some { cls:= .none,data:= .fields ps };exact k a _ (.inl rfl) e
  | met f y=>
    have e:h.get? a=some (PySem.W.methodObj (.ref f) (.ref y)):=x;show h'.get? a=some (PySem.W.methodObj (.ref f) (.ref y));exact k a _ (.inl rfl) e
  | ext φ=>obtain ⟨p,⟨o,e⟩,st⟩:=x;exact ⟨st _ _ p λ o q=>k _ _ (.inl rfl) q,⟨o,k _ _ (.inl rfl) e⟩,st⟩
theorem HOk.lt (x:HOk P w H h) (e:H a=some o):a<h.objs.size:=(x a o e).lt
theorem HOk.fresh (x:HOk P w H h) (e:h.objs.size<=a):H a=none:=by
  cases q:H a with
  | none=>rfl
  | some u=>exact absurd (Nat.lt_of_lt_of_le (x.lt q) e) (Nat.lt_irrefl _)
theorem HOk.kept (x:HOk P w H h) (k:∀ b u,h.get? b=some u->h'.get? b=some u):HOk P w H h':=λ a o e=>
  (x a o e).stay (λ b u _ q=>k b u q) (λ _ q=>q) λ _ _ q=>q
theorem HOk.laid (x:HOk P w H h) (k:∀ b u,h.get? b=some u->h'.get? b=some u) (hp:h.objs.size<=a) (new:ObjOk P w (upd H a o) h' a o):HOk P w (upd H a o) h':=λ b u e=>by
  have hn:=x.fresh hp;by_cases hb:b=a
  · subst hb;rw [Ac] at e;cases e;exact new
  · rw [Af hb] at e;exact (x b u e).stay (λ c v _ q=>k c v q) (λ c q=>by rw [Af (AB q hn)];exact q) λ c xs q=>by rw [Af (AB q hn)];exact q
end
def Rd (H:Hp) (a:Addr) (u:HO):Prop:=H a=some u\/∃ o,H a=some (.frz o u)
theorem Rd.ok {P:Program} {w:World} {H:Hp} {h:Heap} {a:Addr} {u:HO} (r:Rd H a u) (x:HOk P w H h):ObjOk P w H h a u:=by
  rcases r with r | ⟨o,r⟩
  · exact x a u r
  · obtain ⟨_,q⟩:=x a _ r;exact q
def Mut:Option HO->Prop
  | some (.lst _)=>True
  | some (.dK _)=>True
  | some (.dT _)=>True
  | some (.set _ _)=>True
  | some (.ins _ _ _)=>True
  | some (.ext _)=>True
  | _=>False
section
variable {P:Program} {w:World} {H:Hp} {h h':Heap} {x e:Addr} {o':HO}
theorem HOk.write (ok:HOk P w H h) (mu:Mut (H x)) (he:e=x\/H e=some (.own x)) (k:∀ b u,b≠e->h.get? b=some u->h'.get? b=some u) (heo:∃ u,h'.get? e=some u)
    (new:ObjOk P w (upd H x o') h' x o'):HOk P w (upd H x o') h':=λ b u q=>by
  have nown:∀ c y,H c=some (.own y)->c≠x:=λ c y r z=>by subst z;rw [r] at mu;exact mu
  have ntup:∀ c xs,H c=some (.tup xs)->c≠x:=λ c xs r z=>by subst z;rw [r] at mu;exact mu
  by_cases hb:b=x
  · subst hb;rw [Ac] at q;cases q;exact new
  · rw [Af hb] at q;by_cases hbe:b=e
    · have q':H b=some (.own x):=by
        rcases he with z | z
        · exact absurd (hbe.trans z) hb
        · rw [hbe];exact z
      rw [q] at q';cases q';obtain ⟨v,hv⟩:=heo;exact ⟨v,by rw [hbe];exact hv⟩
    · refine (ok b u q).stay (λ c v hc r=>k c v ?_ r) (λ c r=>by rw [Af (nown c b r)];exact r) λ c xs r=>by rw [Af (ntup c xs r)];exact r
      rcases hc with rfl | hc
      · exact hbe
      · rintro rfl;rcases he with z | z
        · exact nown c b hc z
        · rw [hc] at z;cases z;exact hb rfl
end
structure Un (fs ex:List Addr) (H H':Hp) (h h':Heap):Prop where
  keep:∀ b o,h.get? b=some o->H b=none->b∉fs->b∉ex->h'.get? b=some o
  slot:∀ b o,h.get? b=some o->H b=none->b∈fs->b∉ex->∃ sl,h'.get? b=some { o with slots:=sl }
  free:∀ b o,h.get? b=some o->H b=none->b∉ex->H' b=none
  there:∀ b o,h.get? b=some o->b∉ex->∃ o',h'.get? b=some o'
  tups:∀ b xs,H b=some (.tup xs)->H' b=some (.tup xs)
  frzs:∀ b o u,H b=some (.frz o u)->H' b=some (.frz o u)
  tbls:∀ b ps,H b=some (.tbl ps)->∃ more,H' b=some (.tbl (ps++more))
section
variable {fs fs' ex ex':List Addr} {H H1 H2:Hp} {h h1 h2 h':Heap} {a x e:Addr} {o:HO}
theorem Un.any (u:Un fs ex H H1 h h1) {b:Addr} {ob:Obj} (q:h.get? b=some ob) (n:H b=none) (hx:b∉ex):∃ sl,h1.get? b=some { ob with slots:=sl }:=by
  by_cases hb:b∈fs
  · exact u.slot b ob q n hb hx
  · exact ⟨ob.slots,u.keep b ob q n hb hx⟩
theorem Un.trans (a:Un fs ex H H1 h h1) (b:Un fs ex H1 H2 h1 h2):Un fs ex H H2 h h2 where
  keep:=λ c ob q n hc hx=>b.keep c ob (a.keep c ob q n hc hx) (a.free c ob q n hx) hc hx
  slot:=λ c ob q n hc hx=>by
    obtain ⟨sl,e1⟩:=a.slot c ob q n hc hx;obtain ⟨sl',e2⟩:=b.slot c _ e1 (a.free c ob q n hx) hc hx;exact ⟨sl',e2⟩
  free:=λ c ob q n hx=>by
    obtain ⟨o',e1⟩:=a.there c ob q hx;exact b.free c o' e1 (a.free c ob q n hx) hx
  there:=λ c ob q hx=>by
    obtain ⟨o',e1⟩:=a.there c ob q hx;exact b.there c o' e1 hx
  tups:=λ c xs q=>b.tups c xs (a.tups c xs q)
  frzs:=λ c ob xs q=>b.frzs c ob xs (a.frzs c ob xs q)
  tbls:=λ c ps q=>by
    obtain ⟨m1,e1⟩:=a.tbls c ps q;obtain ⟨m2,e2⟩:=b.tbls c _ e1;exact ⟨m1++m2,by rw [e2,Array.append_assoc]⟩
theorem Un.kept (k:∀ b u,h.get? b=some u->h'.get? b=some u):Un fs ex H H h h':=
  ⟨λ b ob q _ _ _=>k b ob q,λ b ob q _ _ _=>⟨ob.slots,k b ob q⟩,λ _ _ _ n _=>n,λ b ob q _=>⟨ob,k b ob q⟩,λ _ _ q=>q,λ _ _ _ q=>q,λ _ ps q=>⟨#[],by rw [q];simp⟩⟩
theorem Un.refl:Un fs ex H H h h:=Un.kept λ _ _ q=>q
theorem Un.laid (k:∀ b u,h.get? b=some u->h'.get? b=some u) (hp:h.objs.size<=a) (hn:H a=none):Un fs ex H (upd H a o) h h' where
  keep:=λ b u q _ _ _=>k b u q
  slot:=λ b u q _ _ _=>⟨u.slots,k b u q⟩
  free:=λ b u q n _=>by rw [Af (Nat.ne_of_lt (Nat.lt_of_lt_of_le (Heap.lt_size q) hp))];exact n
  there:=λ b u q _=>⟨u,k b u q⟩
  tups:=λ b xs q=>by rw [Af (AB q hn)];exact q
  frzs:=λ b u xs q=>by rw [Af (AB q hn)];exact q
  tbls:=λ b ps q=>⟨#[],by rw [Af (AB q hn),q];simp⟩
theorem Un.write (mu:Mut (H x)) (he:e=x\/H e=some (.own x)) (k:∀ b u,b≠e->h.get? b=some u->h'.get? b=some u) (heo:∃ u,h'.get? e=some u):Un fs ex H (upd H x o) h h':=by
  have hx:∀ b,H b=none->b≠x:=λ b n z=>by subst z;rw [n] at mu;exact mu
  have hb:∀ b,H b=none->b≠e:=λ b n z=>by
    subst z;rcases he with r | r
    · exact hx b n r
    · rw [n] at r;cases r
  have hm:∀ b u,H b=some u->¬ Mut (some u)->b≠x:=λ b u q nm z=>by subst z;rw [q] at mu;exact nm mu
  refine ⟨λ b u q n _ _=>k b u (hb b n) q,λ b u q n _ _=>⟨u.slots,k b u (hb b n) q⟩,λ b u q n _=>by rw [Af (hx b n)];exact n,λ b u q _=> ?_,
    λ b xs q=>by rw [Af (hm b _ q λ z=>z)];exact q,λ b u xs q=>by rw [Af (hm b _ q λ z=>z)];exact q,λ b ps q=>⟨#[],by rw [Af (hm b _ q λ z=>z),q];simp⟩⟩
  by_cases hbe:b=e
  · subst hbe;exact heo
  · exact ⟨u,k b u hbe q⟩
end
def trk (h:Heap) (H:Hp):List Addr:=(List.range h.objs.size).filter λ a=>(H a).isSome
def Hd (h:Heap) (H:Hp):Heap:=PySem.W.hideAll h (trk h H)
theorem KL (h:Heap) (H:Hp):(Hd h H).objs.size=h.objs.size:=PySem.W.hideAll_size _ _
theorem LD {h:Heap} {H:Hp} {b:Addr} {o:Obj} (e:h.get? b=some o) (n:H b=none):(Hd h H).get? b=some o:=
  PySem.W.hideAll_get _ e λ hm=>by
    have q:(H b).isSome=true:=(List.mem_filter.mp hm).2;rw [n] at q;simp at q
theorem NN {h:Heap} {H:Hp} {b:Addr} {o:Obj} (e:(Hd h H).get? b=some o):h.get? b=some o/\H b=none:=by
  have e':h.get? b=some o:=PySem.W.of_hideAll (trk h H) e;refine ⟨e',?_⟩;cases q:H b with
  | none=>rfl
  | some x=>
    have hm:b∈trk h H:=List.mem_filter.mpr ⟨List.mem_range.mpr (Heap.lt_size e'),by simp [q]⟩;have z:(Hd h H).get? b=none:=PySem.W.hideAll_none (trk h H) hm;rw [z] at e;cases e
def Nq (g h:Heap) (L:Addr):List (Addr × Obj):=(List.range h.objs.size).filterMap λ a=>if a=L\/(g.get? a).isSome=true then none else (h.get? a).map λ o=>(a,o)
def rest (g h:Heap) (L d:Addr):List (Addr × Obj):=(Nq g h L).filter λ p=>decide (p.1≠d)
structure Mod (K:PySem.W.Frag) (mg:Str->Option Value) (base:Heap):Prop where
  kin:K.In base
  glob:base.Ns mainGlobals mg
  blt:∃ mb,base.Ns builtinsNs mb/\∀ x:Str,x≠"__name__"->mb x=bootBuiltins x
  nolimit:base.NoLimit
structure Cx where
  prog:Program
  w:World
  K:PySem.W.Frag
  mg:Str->Option Value
  base:Heap
  A:Around
  N:List Str
  s₀:Shared
  H₀:Hp
  env:Env
  outer:List Env
  stack:List Env
  ex:List Addr
  fn:Str->Bool
  calm:Bool
  pn:List (Addr × Obj)
  xe:Value->Shared->Prop
def frs (l:List Env):List Addr:=l.filterMap (·.frame)
abbrev Cx.fs (X:Cx):List Addr:=frs X.outer
def Vis (sc:Scope) (x:Str):Prop:=sc.names.lookup x=some .local\/sc.names.lookup x=some .cell\/sc.names.lookup x=some .free
def Loc (sc:Scope) (x:Str):Prop:=sc.names.lookup x=some .local\/sc.names.lookup x=some .cell
def Tz (env:Env) (h:Heap) (m:Str->Option Value) (x:Str) (u:Value):Prop:=
  (env.kindOf x=some .local/\m x=some u)\/((env.kindOf x=some .cell\/env.kindOf x=some .free)/\∃ c,env.cells.lookup x=some c/\h.IsCell c (some u))
structure Cx.Ok (X:Cx):Prop where
  mod:Mod X.K X.mg X.base
  kind:X.env.scope.kind= .function
  glob:X.env.globals=mainGlobals
  blt:X.env.builtins=builtinsNs
  above:X.s₀.heap.objs.size<=X.env.locals
  inj:∀ x y c,X.env.cells.lookup x=some c->X.env.cells.lookup y=some c->x=y
  has:∀ x,(X.env.kindOf x=some .cell\/X.env.kindOf x=some .free)->∃ c,X.env.cells.lookup x=some c
  cab:∀ x c,X.fn x=true->X.env.cells.lookup x=some c->X.s₀.heap.objs.size<=c
  hd:X.calm=true->X.A.handled=none
  frames:X.A.frames=some X.stack
  stk:X.stack=X.outer\/(X.stack=X.env::X.outer/\X.env.frame=some X.env.locals)
  exf:∀ b∈X.ex,b≠X.env.locals/\∀ x c,X.env.cells.lookup x=some c->c≠b
  bs:∀ b o,X.base.get? b=some o->X.s₀.heap.get? b=some o/\X.H₀ b=none
  bsz:X.base.objs.size<=X.s₀.heap.objs.size
  noex:∀ b o,X.base.get? b=some o->b∉X.ex
  exfs:∀ b∈X.ex,b∉X.fs
  funs:X.s₀.heap.FunFrames X.base X.outer
  frf:∀ b∈X.fs,X.H₀ b=none
structure Inv (X:Cx) (pins:List (Addr × Obj)) (σ:List (Option V)) (H:Hp) (s:Shared):Prop where
  ok:X.Ok
  os:s.os=X.s₀.os
  bare:AllBare s.gens
  base:Un X.fs X.ex X.H₀ H X.s₀.heap s.heap
  loc:∃ m,s.heap.Ns X.env.locals m/\∀ (i:Nat) (x:Str) (v:V),X.N[i]?=some x->σ[i]?=some (some v)->Vis X.env.scope x->∃ u,RelV v u/\Tz X.env s.heap m x u
  cell:∀ x c,X.env.cells.lookup x=some c->∃ v,s.heap.IsCell c v
  free:H X.env.locals=none
  freeC:∀ x c,X.env.cells.lookup x=some c->H c=none
  pin:∀ p∈X.pn++pins,s.heap.get? p.1=some p.2/\H p.1=none/\p.1≠X.env.locals/\p.1∉X.fs/\∀ v,p.2.data≠ .cell v
  hok:HOk X.prog X.w H s.heap
  len:σ.length=X.N.length
section
variable {X:Cx} {pins:List (Addr × Obj)} {σ:List (Option V)} {H H':Hp} {s:Shared} {h':Heap}
theorem Cx.Ok.nofr (ok:X.Ok) {b:Addr} {o:Obj} (e:X.base.get? b=some o):b∉X.fs:=λ hb=>by
  have:=(ok.funs.mem hb).1;rw [e] at this;cases this
theorem Inv.bs (I:Inv X pins σ H s):∀ b o,X.base.get? b=some o->s.heap.get? b=some o/\H b=none:=λ b o e=>
  ⟨I.base.keep b o (I.ok.bs b o e).1 (I.ok.bs b o e).2 (I.ok.nofr e) (I.ok.noex b o e),I.base.free b o (I.ok.bs b o e).1 (I.ok.bs b o e).2 (I.ok.noex b o e)⟩
theorem Inv.bk (I:Inv X pins σ H s):∀ b o,X.base.get? b=some o->s.heap.get? b=some o:=λ b o e=>(I.bs b o e).1
theorem Inv.mod (I:Inv X pins σ H s):Mod X.K X.mg X.base:=I.ok.mod
theorem Inv.kIn (I:Inv X pins σ H s):X.K.In s.heap:=I.ok.mod.kin.keeps I.bk
theorem Inv.fr (I:Inv X pins σ H s):∃ m,Fr X.base X.env.locals s.heap m:=
  let ⟨m,hn,_⟩:=I.loc
  ⟨m,hn,I.bk,Nat.le_trans I.ok.bsz I.ok.above⟩
theorem Inv.lt (I:Inv X pins σ H s):X.env.locals<s.heap.objs.size:=let ⟨_,hn,_⟩:=I.loc;hn.lt
theorem Inv.sz (I:Inv X pins σ H s):X.s₀.heap.objs.size<=s.heap.objs.size:=Nat.le_trans I.ok.above (Nat.le_of_lt I.lt)
theorem Inv.nofs (I:Inv X pins σ H s) {a:Addr} (h:s.heap.objs.size<=a):a∉X.fs:=λ hb=>by
  obtain ⟨_,o,ho,_⟩:=I.ok.funs.mem hb;exact absurd (Nat.lt_of_lt_of_le (Heap.lt_size ho) (Nat.le_trans I.sz h)) (Nat.lt_irrefl _)
theorem Inv.cne (I:Inv X pins σ H s):∀ x c,X.env.cells.lookup x=some c->c≠X.env.locals:=λ x c e z=>by
  obtain ⟨v,o,ho,hd⟩:=I.cell x c e;obtain ⟨m,⟨o',es,ep,ho',hd',_⟩,_⟩:=I.loc;rw [z,ho'] at ho;cases ho;rw [hd'] at hd;cases hd
theorem Inv.funs (I:Inv X pins σ H s):s.heap.FunFrames X.base X.outer:=by
  have all:∀ (l:List Env),(∀ b∈frs l,b∈X.fs)->X.s₀.heap.FunFrames X.base l->s.heap.FunFrames X.base l:=by
    intro l
    induction l with
    | nil=>intro _ _;trivial
    | cons env r ih=>
      intro hs hl;obtain ⟨hk,⟨L,o,hf,hn,ho,hd⟩,hr⟩:=hl;have hL:L∈X.fs:=hs L (by unfold frs;rw [List.filterMap_cons,hf];exact List.mem_cons_self);obtain ⟨sl,e⟩:=I.base.slot L o ho (I.ok.frf L hL) hL λ z=>I.ok.exfs L z hL;exact ⟨hk,⟨L,_,hf,hn,e,hd⟩,ih (λ b hb=>hs b (by unfold frs;rw [List.filterMap_cons,hf];exact List.mem_cons_of_mem _ hb)) hr⟩
  exact all X.outer (λ _ hb=>hb) I.ok.funs
theorem Inv.stack (I:Inv X pins σ H s):s.heap.FunFrames X.base X.stack:=by
  rcases I.ok.stk with e | ⟨e,hf⟩
  · rw [e];exact I.funs
  · rw [e];obtain ⟨m,hn,_⟩:=I.loc;refine .cons (by rw [I.ok.kind];decide) hf hn ?_ I.funs;exact Heap.get?_none_of_le (Nat.le_trans I.ok.bsz I.ok.above)
theorem Inv.stkSub (I:Inv X pins σ H s):∀ b∈frs X.stack,b∈X.env.locals::X.fs:=λ b hb=>by
  rcases I.ok.stk with e | ⟨e,hf⟩
  · rw [e] at hb;exact List.mem_cons_of_mem _ hb
  · rw [e] at hb;unfold frs at hb;rw [List.filterMap_cons,hf] at hb;exact hb
theorem Inv.stkFree (I:Inv X pins σ H s):∀ b∈frs X.stack,H b=none:=λ b hb=>by
  rcases List.mem_cons.mp (I.stkSub b hb) with e | hb
  · rw [e];exact I.free
  · obtain ⟨_,o,ho,_⟩:=I.ok.funs.mem hb;exact I.base.free b o ho (I.ok.frf b hb) λ z=>I.ok.exfs b z hb
theorem Inv.step {g':Array GenState} {t':Nat} {d':Drawn} {ch:List Addr} (I:Inv X pins σ H s)
    (hch:∀ b∈ch,(b∈X.ex\/X.s₀.heap.objs.size<=b)/\b≠X.env.locals/\(∀ x c,X.env.cells.lookup x=some c->c≠b)/\∀ p∈X.pn++pins,p.1≠b)
    (keep:∀ b o,b≠X.env.locals->b∉X.fs->b∉ch->s.heap.get? b=some o->H b=none->h'.get? b=some o)
    (slot:∀ b o,b≠X.env.locals->b∈X.fs->b∉ch->s.heap.get? b=some o->H b=none->∃ sl,h'.get? b=some { o with slots:=sl }) (free:∀ b o,b∉ch->s.heap.get? b=some o->H b=none->H' b=none)
    (there:∀ b o,b∉ch->s.heap.get? b=some o->∃ o',h'.get? b=some o')
    (tups:∀ b xs,H b=some (.tup xs)->H' b=some (.tup xs)) (frzs:∀ b o u,H b=some (.frz o u)->H' b=some (.frz o u)) (tbls:∀ b ps,H b=some (.tbl ps)->∃ more,H' b=some (.tbl (ps++more)))
    (ns:∀ m,s.heap.Ns X.env.locals m->h'.Ns X.env.locals m) (hok:HOk X.prog X.w H' h') (hg:AllBare g'):
    Inv X pins σ H' { s with heap:=h',gens:=g',drawn:=d',toks:=t' }:=by
  have neL:∀ b o,X.s₀.heap.get? b=some o->b≠X.env.locals:=λ b o e=>Nat.ne_of_lt (Nat.lt_of_lt_of_le (Heap.lt_size e) I.ok.above);have neC:∀ b o,X.s₀.heap.get? b=some o->b∉X.ex->b∉ch:=λ b o e hx hb=>by
    rcases (hch b hb).1 with z | z
    · exact hx z
    · exact absurd (Nat.lt_of_lt_of_le (Heap.lt_size e) z) (Nat.lt_irrefl _)
  have cellK:∀ x c,X.env.cells.lookup x=some c->∀ v,s.heap.IsCell c v->h'.IsCell c v:=λ x c e v ⟨o,ho,hd⟩=>by
    have nch:c∉ch:=λ z=>(hch c z).2.2.1 x c e rfl;by_cases hc:c∈X.fs
    · obtain ⟨sl,q⟩:=slot c o (I.cne x c e) hc nch ho (I.freeC x c e);exact ⟨_,q,hd⟩
    · exact ⟨o,keep c o (I.cne x c e) hc nch ho (I.freeC x c e),hd⟩
  refine ⟨I.ok,I.os,hg,⟨λ b o e n hb hx=> ?_,λ b o e n hb hx=> ?_,λ b o e n hx=> ?_,λ b o e hx=> ?_,λ b xs e=>tups b xs (I.base.tups b xs e),λ b o xs e=>frzs b o xs (I.base.frzs b o xs e),λ b ps e=> ?_⟩,?_,λ x c e=> ?_,?_,λ x c e=> ?_,λ p hp=> ?_,hok,I.len⟩
  · exact keep b o (neL b o e) hb (neC b o e hx) (I.base.keep b o e n hb hx) (I.base.free b o e n hx)
  · obtain ⟨sl,e1⟩:=I.base.slot b o e n hb hx;obtain ⟨sl',e2⟩:=slot b _ (neL b o e) hb (neC b o e hx) e1 (I.base.free b o e n hx);exact ⟨sl',e2⟩
  · obtain ⟨o',e1⟩:=I.base.there b o e hx;exact free b o' (neC b o e hx) e1 (I.base.free b o e n hx)
  · obtain ⟨o',e1⟩:=I.base.there b o e hx;exact there b o' (neC b o e hx) e1
  · obtain ⟨m1,e1⟩:=I.base.tbls b ps e;obtain ⟨m2,e2⟩:=tbls b _ e1;exact ⟨m1++m2,by rw [e2,Array.append_assoc]⟩
  · obtain ⟨m,hn,hl⟩:=I.loc;refine ⟨m,ns m hn,λ i x v e1 e2 e3=> ?_⟩;obtain ⟨u,r,l⟩:=hl i x v e1 e2 e3;refine ⟨u,r,?_⟩;rcases l with l | ⟨k,c,e,z⟩
    · exact .inl l
    · exact .inr ⟨k,c,e,cellK x c e _ z⟩
  · obtain ⟨v,z⟩:=I.cell x c e;exact ⟨v,cellK x c e v z⟩
  · obtain ⟨m,⟨o,_,_,ho,_⟩,_⟩:=I.loc;exact free _ o (λ z=>(hch _ z).2.1 rfl) ho I.free
  · obtain ⟨v,o,ho,hd⟩:=I.cell x c e;exact free c o (λ z=>(hch c z).2.2.1 x c e rfl) ho (I.freeC x c e)
  · obtain ⟨e,n,ne,nf,d⟩:=I.pin p hp;have nch:p.1∉ch:=λ z=>(hch p.1 z).2.2.2 p hp rfl;exact ⟨keep p.1 p.2 ne nf nch e n,free p.1 p.2 nch e n,ne,nf,d⟩
theorem Inv.un {t':Nat} (I:Inv X pins σ H s) (u:Un X.fs [] H H' s.heap h') (hok:HOk X.prog X.w H' h'):Inv X pins σ H' { s with heap:=h',toks:=t' }:=by
  obtain ⟨m,⟨o,es,ep,ho,r⟩,_⟩:=id I.loc;obtain ⟨sl,hL⟩:=u.any ho I.free (by simp);exact I.step (g':=s.gens) (d':=s.drawn) (ch:=[]) (λ _ z=>nomatch z) (λ b o _ hb _ e n=>u.keep b o e n hb (by simp)) (λ b o _ hb _ e n=>u.slot b o e n hb (by simp)) (λ b o _ e n=>u.free b o e n (by simp)) (λ b o _ e=>u.there b o e (by simp)) u.tups u.frzs u.tbls (λ m' hm=>by
    obtain ⟨o',es',ep',ho',r'⟩:=hm;rw [ho] at ho';cases ho';exact ⟨_,es',ep',hL,r'⟩) hok I.bare
theorem Inv.call {g':Array GenState} {t':Nat} {d':Drawn} {ch:List Addr} (I:Inv X pins σ H s) (u:Un (frs X.stack) ch H H' s.heap h') (hok:HOk X.prog X.w H' h') (hg:AllBare g')
    (hch:∀ b∈ch,(b∈X.ex\/X.s₀.heap.objs.size<=b)/\b≠X.env.locals/\(∀ x c,X.env.cells.lookup x=some c->c≠b)/\∀ p∈X.pn++pins,p.1≠b):
    Inv X pins σ H' { s with heap:=h',gens:=g',drawn:=d',toks:=t' }:=by
  obtain ⟨m,⟨o,es,ep,ho,r⟩,_⟩:=id I.loc;obtain ⟨sl,hL⟩:=u.any ho I.free λ z=>(hch _ z).2.1 rfl;exact I.step (ch:=ch) hch (λ b o hL hb hc e n=>u.keep b o e n (λ z=>(List.mem_cons.mp (I.stkSub b z)).elim hL hb) hc) (λ b o _ _ hc e n=>u.any e n hc) (λ b o hc e n=>u.free b o e n hc) (λ b o hc e=>u.there b o e hc) u.tups u.frzs u.tbls (λ m' hm=>by
    obtain ⟨o',es',ep',ho',r'⟩:=hm;rw [ho] at ho';cases ho';exact ⟨_,es',ep',hL,r'⟩) hok hg
theorem Inv.turned {t':Nat} {it:Addr} (I:Inv X pins σ H s) (k:∀ b o,b≠it->s.heap.get? b=some o->h'.get? b=some o) (hn:H it=none) (hL:it≠X.env.locals)
    (h1:it∈X.ex\/X.s₀.heap.objs.size<=it) (h2:∀ x c,X.env.cells.lookup x=some c->c≠it) (h3:∀ p∈X.pn++pins,p.1≠it):Inv X pins σ H { s with heap:=h',toks:=t' }:=by
  have nit:∀ b u,H b=some u->b≠it:=λ b u e z=>by rw [z,hn] at e;cases e
  refine I.step (g':=s.gens) (d':=s.drawn) (ch:=[it]) (λ b hb=> ?_) (λ b o _ _ hc e _=>k b o (λ z=>hc (by simp [z])) e) (λ b o _ _ hc e _=>⟨o.slots,k b o (λ z=>hc (by simp [z])) e⟩) (λ _ _ _ _ n=>n)
    (λ b o hc e=>⟨o,k b o (λ z=>hc (by simp [z])) e⟩) (λ _ _ e=>e) (λ _ _ _ e=>e) (λ b ps e=>⟨#[],by rw [e];simp⟩) (λ m hm=> ?_) (λ b u e=> ?_) I.bare
  · have e:b=it:=by simpa using hb
    subst e;exact ⟨h1,hL,h2,h3⟩
  · obtain ⟨o,es,ep,ho,r⟩:=hm;exact ⟨o,es,ep,k _ o (Ne.symm hL) ho,r⟩
  · refine (I.hok b u e).stay (λ c v hc q=>k c v ?_ q) (λ _ q=>q) λ _ _ q=>q;rcases hc with z | z
    · rw [z];exact nit b u e
    · exact nit c _ z
theorem Inv.tok (I:Inv X pins σ H s) (t:Nat):Inv X pins σ H { s with toks:=t }:=I.un (h':=s.heap) (t':=t) Un.refl I.hok
theorem Inv.kept {t':Nat} (I:Inv X pins σ H s) (k:∀ b u,s.heap.get? b=some u->h'.get? b=some u):Inv X pins σ H { s with heap:=h',toks:=t' }:=I.un (Un.kept k) (I.hok.kept k)
theorem Inv.laid {a:Addr} {o:HO} {t':Nat} (I:Inv X pins σ H s) (k:∀ b u,s.heap.get? b=some u->h'.get? b=some u) (hp:s.heap.objs.size<=a) (new:ObjOk X.prog X.w (upd H a o) h' a o):
    Inv X pins σ (upd H a o) { s with heap:=h',toks:=t' }:=I.un (Un.laid k hp (I.hok.fresh hp)) (I.hok.laid k hp new)
theorem Inv.write {x e:Addr} {o:HO} {t':Nat} (I:Inv X pins σ H s) (mu:Mut (H x)) (he:e=x\/H e=some (.own x)) (k:∀ b u,b≠e->s.heap.get? b=some u->h'.get? b=some u) (heo:∃ u,h'.get? e=some u)
    (new:ObjOk X.prog X.w (upd H x o) h' x o):Inv X pins σ (upd H x o) { s with heap:=h',toks:=t' }:=I.un (Un.write mu he k heo) (I.hok.write mu he k heo new)
theorem Inv.weak {σ':List (Option V)} (I:Inv X pins σ H s) (hl:σ'.length=σ.length) (w:∀ (i:Nat) v,σ'[i]?=some (some v)->σ[i]?=some (some v)):Inv X pins σ' H s:=
  ⟨I.ok,I.os,I.bare,I.base,let ⟨m,hn,hl'⟩:=I.loc;⟨m,hn,λ i x v e1 e2 e3=>hl' i x v e1 (w i v e2) e3⟩,I.cell,I.free,I.freeC,I.pin,I.hok,hl.trans I.len⟩
theorem Inv.pins_of {pins':List (Addr × Obj)} (I:Inv X pins σ H s) (h:∀ p∈pins',s.heap.get? p.1=some p.2/\H p.1=none/\p.1≠X.env.locals/\p.1∉X.fs/\∀ v,p.2.data≠ .cell v):Inv X pins' σ H s:=
  ⟨I.ok,I.os,I.bare,I.base,I.loc,I.cell,I.free,I.freeC,λ p hp=>(List.mem_append.mp hp).elim (λ z=>I.pin p (List.mem_append_left _ z)) (h p),I.hok,I.len⟩
theorem Fv {N:List Str} (hN:N.Nodup) {i j:Nat} {x:Str} (a:N[i]?=some x) (b:N[j]?=some x):i=j:=by
  obtain ⟨h1,e1⟩:=List.getElem?_eq_some_iff.mp a;obtain ⟨h2,e2⟩:=List.getElem?_eq_some_iff.mp b;exact (List.getElem_inj hN).mp (e1.trans e2.symm)
theorem Kr {M:Model} {A:Around} {E:Value->Shared->Prop} {i:Nat} {x:Str} {v:V} {u:Value} {Q:Unit->Shared->Prop} (I:Inv X pins σ H s) (hN:X.N.Nodup) (hi:X.N[i]?=some x) (hx:Loc X.env.scope x) (r:RelV v u)
    (h:∀ s',Inv X pins (σ.set i (some v)) H s'->(∃ a,Heap.SameBut a s.heap s'.heap/\(a=X.env.locals\/X.env.cells.lookup x=some a))->Q () s') (hf:X.fn x=true\/X.env.scope.names.lookup x=some .local:=by first | exact .inl rfl | exact .inr rfl | assumption):wpAny M A (storeName X.env x u) Q E s:=by
  obtain ⟨m,hn,hl⟩:=id I.loc;have hcls:(X.env.scope.kind == .class||(X.env.scope.kind == .module&&X.env.locals != X.env.globals))=false:=by rw [I.ok.kind];rfl
  have hiσ:i<σ.length:=by rw [I.len];exact (List.getElem?_eq_some_iff.mp hi).1
  have cne:=I.cne;have tracked:∀ {a:Addr} {h':Heap},(∃ o,s.heap.get? a=some o/\H a=none)->Heap.SameBut a s.heap h'->HOk X.prog X.w H h':=λ {a h'} ha hs b ob e=>by
    obtain ⟨_,_,hfree⟩:=ha;refine (I.hok b ob e).stay (λ c w' hc q=>(hs.2 c ?_).trans q) (λ _ q=>q) λ _ _ q=>q;rintro rfl;rcases hc with rfl | hc
    · rw [hfree] at e;cases e
    · rw [hfree] at hc;cases hc
  rcases hx with hk | hk
  · refine wpAny_storeName_local hk hn (λ h' hn' hs=> ?_) hcls;obtain ⟨oL,_,_,hoL,_⟩:=id hn;refine h _ ⟨I.ok,I.os,I.bare,⟨λ b o e n hb hx=> ?_,λ b o e n hb hx=> ?_,I.base.free,λ b o e hx=> ?_,I.base.tups,I.base.frzs,I.base.tbls⟩,⟨_,hn',λ j y v' e1 e2 e3=> ?_⟩,λ y c e=> ?_,I.free,I.freeC,λ p hp=> ?_,tracked ⟨oL,hoL,I.free⟩ hs,by simpa using I.len⟩ ⟨_,hs, .inl rfl⟩
    · exact (hs.2 b (Nat.ne_of_lt (Nat.lt_of_lt_of_le (Heap.lt_size e) I.ok.above))).trans (I.base.keep b o e n hb hx)
    · obtain ⟨sl,e1⟩:=I.base.slot b o e n hb hx;exact ⟨sl,(hs.2 b (Nat.ne_of_lt (Nat.lt_of_lt_of_le (Heap.lt_size e) I.ok.above))).trans e1⟩
    · obtain ⟨o',e1⟩:=I.base.there b o e hx;exact ⟨o',(hs.2 b (Nat.ne_of_lt (Nat.lt_of_lt_of_le (Heap.lt_size e) I.ok.above))).trans e1⟩
    · by_cases hj:j=i
      · subst hj;rw [hi] at e1;cases e1;rw [List.getElem?_set_self hiσ] at e2;cases e2;exact ⟨u,r, .inl ⟨hk,by simp⟩⟩
      · rw [List.getElem?_set_ne (Ne.symm hj)] at e2;obtain ⟨u',r',q⟩:=hl j y v' e1 e2 e3;refine ⟨u',r',?_⟩;rcases q with ⟨k,e⟩ | ⟨k,c,e,z⟩
        · refine .inl ⟨k,?_⟩;have:y≠x:=λ e=>hj (Fv hN e1 (e▸hi));simp [this,e]
        · exact .inr ⟨k,c,e,z.sameBut hs (cne y c e)⟩
    · obtain ⟨w',z⟩:=I.cell y c e;exact ⟨w',z.sameBut hs (cne y c e)⟩
    · obtain ⟨e,n,ne,nf,d⟩:=I.pin p hp;exact ⟨(hs.2 p.1 ne).trans e,n,ne,nf,d⟩
  · have hfn:X.fn x=true:=by
      rcases hf with z | z
      · exact z
      · rw [z] at hk;cases hk
    obtain ⟨c,hc⟩:=I.ok.has x (.inl hk);obtain ⟨w',z⟩:=I.cell x c hc;refine wpAny_storeName_cell I.ok.kind hk hc z (λ h' hc' hs=> ?_);obtain ⟨oc,hoc,hocd⟩:=id z;refine h { s with heap:=h' } ⟨I.ok,I.os,I.bare,⟨λ b o e n hb hx=> ?_,λ b o e n hb hx=> ?_,I.base.free,λ b o e hx=> ?_,I.base.tups,I.base.frzs,I.base.tbls⟩,⟨m,hn.sameBut hs (Ne.symm (cne x c hc)),λ j y v' e1 e2 e3=> ?_⟩,λ y c' e=> ?_,I.free,I.freeC,λ p hp=> ?_,tracked ⟨oc,hoc,I.freeC x c hc⟩ hs,by simpa using I.len⟩ ⟨c,hs, .inr hc⟩
    · exact (hs.2 b (Nat.ne_of_lt (Nat.lt_of_lt_of_le (Heap.lt_size e) (I.ok.cab x c hfn hc)))).trans (I.base.keep b o e n hb hx)
    · obtain ⟨sl,e1⟩:=I.base.slot b o e n hb hx;exact ⟨sl,(hs.2 b (Nat.ne_of_lt (Nat.lt_of_lt_of_le (Heap.lt_size e) (I.ok.cab x c hfn hc)))).trans e1⟩
    · obtain ⟨o',e1⟩:=I.base.there b o e hx;exact ⟨o',(hs.2 b (Nat.ne_of_lt (Nat.lt_of_lt_of_le (Heap.lt_size e) (I.ok.cab x c hfn hc)))).trans e1⟩
    · by_cases hj:j=i
      · subst hj;rw [hi] at e1;cases e1;rw [List.getElem?_set_self hiσ] at e2;cases e2;exact ⟨u,r, .inr ⟨.inl hk,c,hc,hc'⟩⟩
      · rw [List.getElem?_set_ne (Ne.symm hj)] at e2;obtain ⟨u',r',q⟩:=hl j y v' e1 e2 e3;refine ⟨u',r',?_⟩;rcases q with q | ⟨k,c',e,z'⟩
        · exact .inl q
        · refine .inr ⟨k,c',e,z'.sameBut hs ?_⟩;rintro rfl;exact hj (Fv hN e1 (I.ok.inj _ _ _ e hc▸hi))
    · by_cases hcc:c'=c
      · subst hcc;exact ⟨_,hc'⟩
      · obtain ⟨w2,z2⟩:=I.cell y c' e;exact ⟨w2,z2.sameBut hs hcc⟩
    · obtain ⟨e,n,ne,nf,d⟩:=I.pin p hp;refine ⟨(hs.2 p.1 ?_).trans e,n,ne,nf,d⟩;intro q;rw [q,hoc] at e;have q':oc=p.2:=Option.some.inj e;exact d w' (by rw [<-q'];exact hocd)
theorem BS {M:Model} {A:Around} {E:Value->Shared->Prop} {i:Nat} {x:Str} {v:V} {u:Value} {Q:Unit->Shared->Prop} (I:Inv X pins σ H s) (hN:X.N.Nodup) (hi:X.N[i]?=some x) (hx:Loc X.env.scope x) (r:RelV v u)
    (h:∀ s',Inv X pins (σ.set i (some v)) H s'->Q () s') (hf:X.fn x=true\/X.env.scope.names.lookup x=some .local:=by first | exact .inl rfl | exact .inr rfl | assumption):wpAny M A (storeName X.env x u) Q E s:=
  Kr I hN hi hx r (λ s' I' _=>h s' I') hf
theorem Inv.call' {s':Shared} {ch:List Addr} (I:Inv X pins σ H s) (ho:s'.os=s.os) (u:Un (frs X.stack) ch H H' s.heap s'.heap) (hok:HOk X.prog X.w H' s'.heap) (hg:AllBare s'.gens)
    (hch:∀ b∈ch,(b∈X.ex\/X.s₀.heap.objs.size<=b)/\b≠X.env.locals/\(∀ x c,X.env.cells.lookup x=some c->c≠b)/\∀ p∈X.pn++pins,p.1≠b):Inv X pins σ H' s':=by
  obtain ⟨h',g',d',t',o'⟩:=s';have e:o'=s.os:=ho;subst e;exact I.call (g':=g') (t':=t') (d':=d') u hok hg hch
end
abbrev XK:=Value->Option Addr->Hp->Prop
abbrev St:=List (Option V)
abbrev VK:=V->Hp->Prop
abbrev TE:=St->Hp->VK->Prop
abbrev TT:=St->Hp->(Bool->Hp->Prop)->Prop
abbrev TA:=St->Hp->(List V->Hp->Prop)->Prop
structure Ends where
  nx:St->Hp->Prop
  rt:VK
  bk:St->Hp->Prop:=λ _ _=>False
  ct:St->Hp->Prop:=λ _ _=>False
abbrev TS:=Ends->St->Hp->Prop
def EP (X:Cx) (pins:List (Addr × Obj)) (σ:St) (Q:VK) (u:Value) (s':Shared):Prop:=∃ v H',Inv X pins σ H' s'/\RelV v u/\Q v H'
def TP (X:Cx) (pins:List (Addr × Obj)) (σ:St) (Q:Bool->Hp->Prop) (b:Bool) (s':Shared):Prop:=∃ H',Inv X pins σ H' s'/\Q b H'
def AP (X:Cx) (pins:List (Addr × Obj)) (σ:St) (Q:List V->Hp->Prop) (us:List Value) (s':Shared):Prop:=∃ vs H',Inv X pins σ H' s'/\Vals vs us/\Q vs H'
def SP (X:Cx) (pins:List (Addr × Obj)) (D:Ends) (f:Flow) (s':Shared):Prop:=
  match f with
  | .next=>∃ σ' H',Inv X pins σ' H' s'/\D.nx σ' H'
  | .brk=>∃ σ' H',Inv X pins σ' H' s'/\D.bk σ' H'
  | .cont=>∃ σ' H',Inv X pins σ' H' s'/\D.ct σ' H'
  | .ret u=>∃ v σ' H',Inv X pins σ' H' s'/\RelV v u/\D.rt v H'
def PE (X:Cx) (e:Expr) (t:TE):Prop:=
  ∀ (pins:List (Addr × Obj)) (s:Shared) (σ:St) (H:Hp) (Q:VK),Inv X pins σ H s->t σ H Q->wpAny (model X.prog X.w) X.A (eval e X.env) (EP X pins σ Q) X.xe s
def PT (X:Cx) (e:Expr) (t:TT):Prop:=
  ∀ (pins:List (Addr × Obj)) (s:Shared) (σ:St) (H:Hp) (Q:Bool->Hp->Prop),Inv X pins σ H s->t σ H Q->wpAny (model X.prog X.w) X.A (isTrue e X.env (eval e X.env)) (TP X pins σ Q) X.xe s
def PW (X:Cx) (e:Expr) (t:TT):Prop:=
  ∀ (whole:Sem Value) (pins:List (Addr × Obj)) (s:Shared) (σ:St) (H:Hp) (Q:Bool->Hp->Prop),Inv X pins σ H s->t σ H Q->wpAny (model X.prog X.w) X.A (isTrue e X.env whole) (TP X pins σ Q) X.xe s
theorem PW.pt {X:Cx} {e:Expr} {t:TT} (h:PW X e t):PT X e t:=h _
def PA (X:Cx) (es:List Expr) (t:TA):Prop:=
  ∀ (pos:Pos) (pins:List (Addr × Obj)) (s:Shared) (σ:St) (H:Hp) (Q:List V->Hp->Prop),Inv X pins σ H s->t σ H Q->wpAny (model X.prog X.w) X.A (spliced (backTo pos (starEach es X.env))) (AP X pins σ Q) X.xe s
def PS (X:Cx) (st:Stmt) (t:TS):Prop:=
  ∀ (pins:List (Addr × Obj)) (s:Shared) (σ:St) (H:Hp) (D:Ends),Inv X pins σ H s->t D σ H->wpAny (model X.prog X.w) X.A (exec st X.env) (SP X pins D) X.xe s
def PSs (X:Cx) (st:List Stmt) (t:TS):Prop:=
  ∀ (pins:List (Addr × Obj)) (s:Shared) (σ:St) (H:Hp) (D:Ends),Inv X pins σ H s->t D σ H->wpAny (model X.prog X.w) X.A (execs st X.env) (SP X pins D) X.xe s
theorem thn {α:Type} {t:Sem α} {Q Q':α->Shared->Prop} {M:Model} {A:Around} {E:Value->Shared->Prop} {s:Shared} (h:wpAny M A t Q E s) (hQ:∀ a s,Q a s->Q' a s):wpAny M A t Q' E s:=wpAny_mono h hQ λ _ _ x=>x
section
variable {X:Cx}
theorem bin {a b:Expr} {ta tb:TE} (ha:PE X a ta) (hb:PE X b tb) {pins:List (Addr × Obj)} {s:Shared} {σ:St} {H:Hp} {R:V->V->Hp->Prop} (I:Inv X pins σ H s) (h:ta σ H λ x H1=>tb σ H1 λ y H2=>R x y H2)
    {α:Type} {Q:α->Shared->Prop} {f:Value->Value->Sem α}
    (hf:∀ v u s2 x y H2,Inv X pins σ H2 s2->RelV x v->RelV y u->R x y H2->wpAny (model X.prog X.w) X.A (f v u) Q X.xe s2):
    wpAny (model X.prog X.w) X.A (eval a X.env) (λ v s₁=>wpAny (model X.prog X.w) X.A (eval b X.env) (λ u s₂=>wpAny (model X.prog X.w) X.A (f v u) Q X.xe s₂) X.xe s₁) X.xe s:=by
  refine thn (ha pins s σ H _ I h) λ v s1 ⟨x,H1,I1,r1,q1⟩=> ?_;refine thn (hb pins s1 σ H1 _ I1 q1) λ u s2 ⟨y,H2,I2,r2,q2⟩=> ?_;exact hf v u s2 x y H2 I2 r1 r2 q2
def Mr (i:Nat):TE:=λ σ H Q=>∃ v,σ[i]?=some (some v)/\Q v H
def tC (v:V):TE:=λ _ H Q=>Q v H
theorem OX {i:Nat} {x:Str} {pos:Pos} (hN:X.N[i]?=some x) (hv:Vis X.env.scope x) (hd:(x == ("__debug__":Str))=false:=by decide) (hcd:(x == ("__classdict__":Str))=false:=by decide):PE X (.Name x pos) (Mr i):=by
  intro pins s σ H Q I h;obtain ⟨v,e,h⟩:=h;obtain ⟨m,hn,hl⟩:=I.loc;obtain ⟨u,r,l⟩:=hl i x v hN e hv;have fin:EP X pins σ Q u s:=⟨v,H,I,r,h⟩;rcases l with ⟨hk,hm⟩ | ⟨hk,c,hc,hcell⟩
  · exact wpAny_Name (wpAny_loadName_local I.ok.kind hk hn hm fin) hd
  · rcases hk with hk | hk
    · exact wpAny_Name (wpAny_loadName_cell I.ok.kind hk hc hcell fin) hd
    · exact wpAny_Name (wpAny_loadName_free I.ok.kind hk hc hcell fin hcd) hd
theorem Ae {i j pos}:PE X (.Constant (.int i) j pos) (tC (.int i)):=λ _ _ _ H _ I h=>wpAny_Constant_int ⟨.int i,H,I.tok _,⟨_,rfl⟩,h⟩
theorem B7 {b j pos}:PE X (.Constant (.bool b) j pos) (tC (.bl b)):=λ _ _ _ H _ I h=>Constant_bool ⟨.bl b,H,I,rfl,h⟩
theorem Cy {j pos}:PE X (.Constant .none j pos) (tC .non):=λ _ _ _ H _ I h=>Constant_none ⟨.non,H,I,rfl,h⟩
theorem An {x j pos}:PE X (.Constant (.str x) j pos) (tC (.str x)):=λ _ _ _ H _ I h=>Calls.Constant_str ⟨.str x,H,I.tok _,⟨_,rfl⟩,h⟩
def Gl (X:Cx) (x:Str):Prop:=X.env.kindOf x=some .globalImplicit
theorem Cz {E:Value->Shared->Prop} {pins:List (Addr × Obj)} {s:Shared} {σ:St} {H:Hp} {x:Str} {u:Value} {pos:Pos} {Q:Value->Shared->Prop} (I:Inv X pins σ H s) (hg:Gl X x) (hm:X.mg x=some u) (h:Q u s)
    (hd:(x == ("__debug__":Str))=false:=by decide):wpAny (model X.prog X.w) X.A (eval (.Name x pos) X.env) Q E s:=
  Calls.Name_function_global I.ok.kind hg (Calls.loadGlobal_global (by rw [I.ok.glob];exact I.mod.glob.keeps I.bk) hm h) hd
theorem C5 {E:Value->Shared->Prop} {pins:List (Addr × Obj)} {s:Shared} {σ:St} {H:Hp} {x:Str} {u:Value} {pos:Pos} {Q:Value->Shared->Prop} (I:Inv X pins σ H s) (hg:Gl X x) (hm:X.mg x=none) (hv:bootBuiltins x=some u) (h:Q u s)
    (hn:x≠"__name__":=by decide) (hd:(x == ("__debug__":Str))=false:=by decide):wpAny (model X.prog X.w) X.A (eval (.Name x pos) X.env) Q E s:=by
  obtain ⟨mb,h1,h2⟩:=I.mod.blt;exact Calls.Name_function_global I.ok.kind hg (Calls.loadGlobal_builtin (by rw [I.ok.glob];exact I.mod.glob.keeps I.bk) hm (by rw [I.ok.blt];exact h1.keeps I.bk) ((h2 x hn).trans hv) h) hd
theorem G3 {x:Str} {v:V} {u:Value} {pos:Pos} (hg:Gl X x) (hm:X.mg x=some u) (r:RelV v u) (hd:(x == ("__debug__":Str))=false:=by decide):PE X (.Name x pos) (tC v):=
  λ _ _ _ H _ I h=>Cz I hg hm ⟨v,H,I,r,h⟩ hd
theorem MU {x:Str} {v:V} {u:Value} {pos:Pos} (hg:Gl X x) (hm:X.mg x=none) (hv:bootBuiltins x=some u) (r:RelV v u) (hn:x≠"__name__":=by decide) (hd:(x == ("__debug__":Str))=false:=by decide):PE X (.Name x pos) (tC v):=
  λ _ _ _ H _ I h=>C5 I hg hm hv ⟨v,H,I,r,h⟩ hn hd
variable {a b:Expr} {ta tb:TE} {pos:Pos}
def PC (X:Cx) (op:CmpOp) (a b:Expr) (t:TE):Prop:=
  ∀ (pins:List (Addr × Obj)) (s:Shared) (σ:St) (H:Hp) (Q:VK),Inv X pins σ H s->t σ H Q->
    wpAny (model X.prog X.w) X.A (eval a X.env) (λ v s₁=>wpAny (model X.prog X.w) X.A (eval b X.env) (λ u s₂=>wpAny (model X.prog X.w) X.A (compareOp op v u) (EP X pins σ Q) X.xe s₂) X.xe s₁) X.xe s
theorem Mv (b:Expr) {op:CmpOp} (h:op≠ .In) (h2:op≠ .NotIn):behindInMarks op b=false:=by
  have e1:(op == CmpOp.In)=false:=by cases op <;> first | rfl | exact absurd rfl h
  have e2:(op == CmpOp.NotIn)=false:=by cases op <;> first | rfl | exact absurd rfl h2
  cases b <;> simp [behindInMarks,e1,e2]
def tB (t:TE):TT:=λ σ H Q=>t σ H λ x H1=>∃ c,x= .bl c/\Q c H1
theorem TN {op:CmpOp} {t:TE} (h:PC X op a b t) (h1:behindInMarks op b=false:=by first | exact Mv _ (by decide) (by decide) | rfl):PT X (.Compare a [op] [b] pos) (tB t):=by
  intro pins s σ H Q I hw;refine wpAny_isTrue_Compare1 (thn (h pins s σ H _ I hw) λ v s1 h1=>thn h1 λ u s2 h2=>thn h2 λ c s3 ⟨x,H1,I1,r1,q1⟩=> ?_) h1;obtain ⟨d,rfl,q⟩:=q1;cases r1;exact wpAny_truthy_bool ⟨H1,I1,q⟩
theorem By {e:Expr} {t:TE} (h:PE X e t) (he:∀ whole,isTrue e X.env whole=(do let v <-whole;standAt e.pos;holding [v] (truthy v)):=by intro _;rfl):PT X e (tB t):=by
  intro pins s σ H Q I hw;refine isTrue_plain (thn (h pins s σ H _ I hw) λ v s1 ⟨x,H1,I1,r1,q1⟩=> ?_) (he _);obtain ⟨d,rfl,q⟩:=q1;cases r1;exact wpAny_truthy_bool ⟨H1,I1,q⟩
variable {tA tB':TT} {rest:List Expr}
def SA (t u:TT):TT:=λ σ H Q=>t σ H λ c H1=>if c=true then u σ H1 Q else Q false H1
def tOr (t u:TT):TT:=λ σ H Q=>t σ H λ c H1=>if c=true then Q true H1 else u σ H1 Q
def P8 (t:TT):TT:=λ σ H Q=>t σ H λ c H1=>Q (!c) H1
theorem NO (ha:PT X a tA):PW X (.BoolOp .And [a] pos) tA:=by
  intro wh pins s σ H Q I h;refine isTrue_and (thn (ha pins s σ H Q I h) λ c s1 e=> ?_);cases c with
  | true=>exact isTrue_and_nil e
  | false=>exact e
theorem Fq (ha:PT X a tA):PW X (.BoolOp .Or [a] pos) tA:=by
  intro wh pins s σ H Q I h;refine isTrue_or (thn (ha pins s σ H Q I h) λ c s1 e=> ?_);cases c with
  | false=>exact isTrue_or_nil e
  | true=>exact e
theorem OG (ha:PT X a tA) (hb:PW X (.BoolOp .And (b::rest) pos) tB'):PW X (.BoolOp .And (a::b::rest) pos) (SA tA tB'):=by
  intro wh pins s σ H Q I h;refine isTrue_and (thn (ha pins s σ H _ I h) λ c s1 ⟨H1,I1,q1⟩=> ?_);cases c with
  | true=>exact hb wh pins s1 σ H1 Q I1 q1
  | false=>exact ⟨H1,I1,q1⟩
theorem GD (ha:PT X a tA) (hb:PW X (.BoolOp .Or (b::rest) pos) tB'):PW X (.BoolOp .Or (a::b::rest) pos) (tOr tA tB'):=by
  intro wh pins s σ H Q I h;refine isTrue_or (thn (ha pins s σ H _ I h) λ c s1 ⟨H1,I1,q1⟩=> ?_);cases c with
  | true=>exact ⟨H1,I1,q1⟩
  | false=>exact hb wh pins s1 σ H1 Q I1 q1
theorem Fn (ha:PT X a tA):PT X (.UnaryOp .Not a pos) (P8 tA):=by
  intro pins s σ H Q I h;exact isTrue_not (ha pins s σ H (λ c H1=>Q (!c) H1) I h)
def N1 (ta tb:TE):TE:=λ σ H Q=>ta σ H λ x H1=>∃ c,x= .bl c/\if c=true then tb σ H1 Q else Q (.bl false) H1
def N5 (ta:TE):TE:=λ σ H Q=>ta σ H λ x H1=>∃ c,x= .bl c/\Q (.bl (!c)) H1
theorem CK {op} {t:TE} (h:PE X a t):PE X (.BoolOp op [a] pos) t:=λ pins s σ H Q I hw=>BoolOp_one (h pins s σ H Q I hw)
theorem B1 (ha:PE X a ta) (hb:PE X (.BoolOp .And (b::rest) pos) tb):PE X (.BoolOp .And (a::b::rest) pos) (N1 ta tb):=by
  intro pins s σ H Q I h;refine BoolOp_and (thn (ha pins s σ H _ I h) λ v s1 ⟨x,H1,I1,r1,q1⟩=> ?_);obtain ⟨c,rfl,q1⟩:=q1;cases r1;refine wpAny_truthy_bool ?_;cases c with
  | true=>exact hb pins s1 σ H1 Q I1 q1
  | false=>exact ⟨.bl false,H1,I1,rfl,q1⟩
theorem Ml (ha:PE X a ta):PE X (.UnaryOp .Not a pos) (N5 ta):=by
  intro pins s σ H Q I h;refine UnaryOp_ (thn (ha pins s σ H _ I h) λ v s1 ⟨x,H1,I1,r1,q1⟩=> ?_);obtain ⟨c,rfl,q1⟩:=q1;cases r1;exact not_of (wpAny_truthy_bool ⟨.bl (!c),H1,I1,rfl,q1⟩)
def tIf (t:TT) (ta tb:TE):TE:=λ σ H Q=>t σ H λ c H1=>if c=true then ta σ H1 Q else tb σ H1 Q
theorem Li {c:Expr} (hc:PT X c tA) (ha:PE X a ta) (hb:PE X b tb):PE X (.IfExp c a b pos) (tIf tA ta tb):=by
  intro pins s σ H Q I h;refine wpAny_IfExp (thn (hc pins s σ H _ I h) λ d s1 ⟨H1,I1,q1⟩=> ?_);cases d with
  | true=>exact ha pins s1 σ H1 Q I1 q1
  | false=>exact hb pins s1 σ H1 Q I1 q1
end
def SqL (K:PySem.W.Frag) (H:Hp) (a:Addr) (xs:List V):Prop:=
  Rd H a (.lst xs)\/
    ∃ (o:Obj) (its:Array Value) (n:Nat),K.lookup a=some o/\o.cls= .type "list"/\o.dict=none/\o.data= .seq its n/\its.size<=sizeLine/\Vals xs its.toList
def SqT (K:PySem.W.Frag) (H:Hp) (a:Addr) (xs:List V):Prop:=
  Rd H a (.tup xs)\/
    ∃ (o:Obj) (its:Array Value) (n:Nat),K.lookup a=some o/\o.cls= .type "tuple"/\o.data= .seq its n/\its.size<=sizeLine/\Vals xs its.toList
def TY:Value->Option V
  | .none=>some .non
  | .bool b=>some (.bl b)
  | .int i _=>some (.int i)
  | .str x _=>some (.str x)
  | .bytes b _=>some (.byt b)
  | .float b _=>some (.flt b)
  | .ref a=>some (.ref a)
  | .type n=>some (.ty n)
  | _=>none
theorem RelV.abs {x:V} {u:Value} (r:RelV x u):TY u=some x:=by
  cases x with
  | non=>cases r;rfl
  | bl _=>cases r;rfl
  | int _=>obtain ⟨t,rfl⟩:=r;rfl
  | str _=>obtain ⟨t,rfl⟩:=r;rfl
  | byt _=>obtain ⟨t,rfl⟩:=r;rfl
  | flt _=>obtain ⟨t,rfl⟩:=r;rfl
  | ref _=>cases r;rfl
  | ty _=>cases r;rfl
theorem RelV.inj {x y:V} {u:Value} (r:RelV x u) (q:RelV y u):x=y:=Option.some.inj (r.abs.symm.trans q.abs)
theorem Vals.inj:∀ {xs ys:List V} {us:List Value},Vals xs us->Vals ys us->xs=ys
  | _,_,_, .nil, .nil=>rfl
  | _,_,_, .cons r t, .cons r' t'=>by rw [r.inj r',Vals.inj t t']
section
variable {X:Cx} {pins:List (Addr × Obj)} {σ:St} {H:Hp} {s:Shared} {a:Addr} {xs ys:List V}
theorem SqL.of {K:PySem.W.Frag} (h:H a=some (.lst xs)):SqL K H a xs:= .inl (.inl h)
theorem SqT.of {K:PySem.W.Frag} (h:H a=some (.tup xs)):SqT K H a xs:= .inl (.inl h)
theorem Inv.list (I:Inv X pins σ H s) (h:SqL X.K H a xs):∃ its:List Value,Vals xs its/\PlainL s.heap a its.toArray/\xs.length<=sizeLine:=by
  rcases h with h | ⟨o,its,n,hk,hc,hd,hs,hz,r⟩
  · obtain ⟨z,its,n,r,e⟩:=h.ok I.hok;exact ⟨its,r,⟨_,n,e,rfl,rfl,rfl⟩,z⟩
  · refine ⟨its.toList,r,⟨o,n,I.kIn a o hk,hc,hd,by simpa using hs⟩,?_⟩;have e:=r.length;simp only [Array.length_toList] at e;omega
theorem Inv.tuple (I:Inv X pins σ H s) (h:SqT X.K H a xs):∃ its:List Value,Vals xs its/\IsTup s.heap a its.toArray/\xs.length<=sizeLine:=by
  rcases h with h | ⟨o,its,n,hk,hc,hs,hz,r⟩
  · obtain ⟨z,its,r,p⟩:=h.ok I.hok;exact ⟨its,r,p,z⟩
  · refine ⟨its.toList,r,⟨o,I.kIn a o hk,hc,n,by simpa using hs⟩,?_⟩;have e:=r.length;simp only [Array.length_toList] at e;omega
theorem Inv.list_inj (I:Inv X pins σ H s) (h:SqL X.K H a xs) (h':SqL X.K H a ys):xs=ys:=by
  obtain ⟨its,r,⟨o,n,e,_,_,d⟩,_⟩:=I.list h;obtain ⟨its',r',⟨o',n',e',_,_,d'⟩,_⟩:=I.list h';rw [e] at e';cases e';rw [d] at d';injection d' with d1 _;have:its=its':=by simpa using congrArg Array.toList d1
  subst this;exact r.inj r'
theorem Inv.tuple_inj (I:Inv X pins σ H s) (h:SqT X.K H a xs) (h':SqT X.K H a ys):xs=ys:=by
  obtain ⟨its,r,⟨o,e,_,n,d⟩,_⟩:=I.tuple h;obtain ⟨its',r',⟨o',e',_,n',d'⟩,_⟩:=I.tuple h';rw [e] at e';cases e';rw [d] at d';injection d' with d1 _;have:its=its':=by simpa using congrArg Array.toList d1
  subst this;exact r.inj r'
end
abbrev Cx.wish (X:Cx) (E:Value->Shared->Prop):Cx:={ X with xe:=E }
abbrev Cx.nox (X:Cx):Cx:=X.wish λ _ _=>False
theorem Cx.Ok.wish {X:Cx} (ok:X.Ok) (E:Value->Shared->Prop):(X.wish E).Ok:=
  ⟨ok.mod,ok.kind,ok.glob,ok.blt,ok.above,ok.inj,ok.has,ok.cab,ok.hd,ok.frames,ok.stk,ok.exf,ok.bs,ok.bsz,ok.noex,ok.exfs,ok.funs,ok.frf⟩
theorem Cx.Ok.unwish {X:Cx} {E:Value->Shared->Prop} (ok:(X.wish E).Ok):X.Ok:=
  ⟨ok.mod,ok.kind,ok.glob,ok.blt,ok.above,ok.inj,ok.has,ok.cab,ok.hd,ok.frames,ok.stk,ok.exf,ok.bs,ok.bsz,ok.noex,ok.exfs,ok.funs,ok.frf⟩
section
variable {X:Cx} {pins:List (Addr × Obj)} {σ:St} {H:Hp} {s:Shared} {E:Value->Shared->Prop}
theorem Inv.wish (I:Inv X pins σ H s) (E:Value->Shared->Prop):Inv (X.wish E) pins σ H s:=⟨I.ok.wish E,I.os,I.bare,I.base,I.loc,I.cell,I.free,I.freeC,I.pin,I.hok,I.len⟩
theorem Inv.unwish (I:Inv (X.wish E) pins σ H s):Inv X pins σ H s:=⟨I.ok.unwish,I.os,I.bare,I.base,I.loc,I.cell,I.free,I.freeC,I.pin,I.hok,I.len⟩
theorem SP.unwish {D:Ends} {f:Flow} {s':Shared} (h:SP (X.wish E) pins D f s'):SP X pins D f s':=by
  cases f with
  | next=>obtain ⟨σ',H',I,q⟩:=h;exact ⟨σ',H',I.unwish,q⟩
  | brk=>obtain ⟨σ',H',I,q⟩:=h;exact ⟨σ',H',I.unwish,q⟩
  | cont=>obtain ⟨σ',H',I,q⟩:=h;exact ⟨σ',H',I.unwish,q⟩
  | ret u=>obtain ⟨v,σ',H',I,r,q⟩:=h;exact ⟨v,σ',H',I.unwish,r,q⟩
theorem PSs.nox {st:List Stmt} {t:TS} (h:PSs X.nox st t):PSs X st t:=λ pins s σ H D I hw=>
  wpAny_mono (h pins s σ H D (I.wish _) hw) (λ _ _ q=>q.unwish) λ _ _ z=>False.elim z
end
section
variable {X:Cx} {st:Stmt} {rest:List Stmt} {t u:TS} {e:Expr} {te:TE} {pos:Pos}
def Ox:TS:=λ D σ H=>D.nx σ H
def Qg (t u:TS):TS:=λ D σ H=>t { D with nx:=u D } σ H
theorem AL:PSs X [] Ox:=λ _ _ σ H _ I h=>wpAny_execs_nil ⟨σ,H,I,h⟩
theorem Ad (h1:PS X st t) (h2:PSs X rest u):PSs X (st::rest) (Qg t u):=by
  intro pins s σ H D I h;refine wpAny_execs_cons (thn (h1 pins s σ H { D with nx:=u D } I h) λ f s1 q=> ?_);cases f with
  | next=>
    obtain ⟨σ',H',I',q⟩:=q;exact h2 pins s1 σ' H' D I' q
  | ret v=>exact q
  | brk=>exact q
  | cont=>exact q
theorem Ai (h1:PS X st t):PSs X [st] t:=by
  intro pins s σ H D I h;refine wpAny_execs_cons (thn (h1 pins s σ H D I h) λ f s1 q=> ?_);cases f with
  | next=>exact wpAny_execs_nil q
  | ret v=>exact q
  | brk=>exact q
  | cont=>exact q
theorem Inv.quiet {pins:List (Addr × Obj)} {σ:St} {H:Hp} {s:Shared} (I:Inv X pins σ H s):interactive X.env=false:=by simp [interactive,I.ok.kind]
def L5 (te:TE):TS:=λ D σ H=>te σ H λ _ H1=>D.nx σ H1
theorem AF (he:PE X e te) (hs:swapsWith e none pos.line X.env=pure false:=by rfl):PS X (.Expr e pos) (L5 te):=by
  intro pins s σ H D I h;exact wpAny_Expr_any (thn (he pins s σ H _ I h) λ v s1 ⟨x,H1,I1,r1,q1⟩=>⟨σ,H1,I1,q1⟩) I.quiet hs
def Ta (te:TE):TS:=λ D σ H=>te σ H D.rt
theorem Au (he:PE X e te):PS X (.Return (some e) pos) (Ta te):=by
  intro pins s σ H D I h;exact wpAny_Return_some (thn (he pins s σ H _ I h) λ v s1 ⟨x,H1,I1,r1,q1⟩=>⟨x,σ,H1,I1,r1,q1⟩)
def Ky (c:TT) (t u:TS):TS:=λ D σ H=>c σ H λ b H1=>if b=true then t D σ H1 else u D σ H1
theorem Bn {c:Expr} {a b:List Stmt} {tc:TT} (hc:PT X c tc) (ha:PSs X a t) (hb:PSs X b u):PS X (.If c a b pos) (Ky tc t u):=by
  intro pins s σ H D I h;refine wpAny_If (thn (hc pins s σ H _ I h) λ d s1 ⟨H1,I1,q1⟩=> ?_);cases d with
  | true=>exact ha pins s1 σ H1 D I1 q1
  | false=>exact hb pins s1 σ H1 D I1 q1
end
abbrev TG:=V->St->Hp->(St->Hp->Prop)->Prop
abbrev TGs:=List V->St->Hp->(St->Hp->Prop)->Prop
def PG (X:Cx) (target:Expr) (t:TG):Prop:=
  ∀ (pins:List (Addr × Obj)) (s:Shared) (σ:St) (H:Hp) (v:V) (u:Value) (Q:St->Hp->Prop),Inv X pins σ H s->RelV v u->t v σ H Q->
    wpAny (model X.prog X.w) X.A (assign target X.env u) (λ _ s'=>∃ σ' H',Inv X pins σ' H' s'/\Q σ' H') X.xe s
def PGs (X:Cx) (ts:List Expr) (t:TGs):Prop:=
  ∀ (pins:List (Addr × Obj)) (s:Shared) (σ:St) (H:Hp) (vs:List V) (us:List Value) (Q:St->Hp->Prop),Inv X pins σ H s->Vals vs us->t vs σ H Q->
    wpAny (model X.prog X.w) X.A (assignInOrder ((assignEach ts X.env).map (·.2)) us) (λ _ s'=>∃ σ' H',Inv X pins σ' H' s'/\Q σ' H') X.xe s
abbrev Nm:=V->V->V->Hp->(Hp->Prop)->Prop
def PX (X:Cx) (t:Nm):Prop:=
  ∀ (pins:List (Addr × Obj)) (s:Shared) (σ:St) (H:Hp) (o i v:V) (ov iv u:Value) (Q:Hp->Prop),Inv X pins σ H s->RelV o ov->RelV i iv->RelV v u->t o i v H Q->
    wpAny (model X.prog X.w) X.A (setItem ov iv u) (λ _ s'=>∃ H',Inv X pins σ H' s'/\Q H') X.xe s
abbrev TIp:=V->V->Hp->VK->Prop
section
variable {X:Cx} {pos:Pos}
def AU (i:Nat):TG:=λ v σ H Q=>Q (σ.set i (some v)) H
theorem Bj {i:Nat} {x:Str} (hN:X.N.Nodup) (hi:X.N[i]?=some x) (hx:Loc X.env.scope x) (hf:X.fn x=true\/X.env.scope.names.lookup x=some .local:=by first | exact .inl rfl | exact .inr rfl | assumption):PG X (.Name x pos) (AU i):=by
  intro pins s σ H v u Q I r h;exact wpAny_assign_Name (BS I hN hi hx r (λ s' I'=>⟨_,H,I',h⟩) hf)
def Je:TGs:=λ vs σ H Q=>vs=[]/\Q σ H
def CV (t:TG) (u:TGs):TGs:=λ vs σ H Q=>∃ v r,vs=v::r/\t v σ H λ σ' H'=>u r σ' H' Q
theorem J1:PGs X [] Je:=by
  intro pins s σ H vs us Q I r h;obtain ⟨e,h⟩:=h;subst e;cases r;exact assignInOrder_nil ⟨σ,H,I,h⟩
theorem Br {e:Expr} {es:List Expr} {t:TG} {u:TGs} (h1:PG X e t) (h2:PGs X es u)
    (hs:(assignEach (e::es) X.env).map (·.2)=assign e X.env::(assignEach es X.env).map (·.2):=by rfl):PGs X (e::es) (CV t u):=by
  intro pins s σ H vs us Q I r h;obtain ⟨v,vr,e1,h⟩:=h;subst e1;cases r with
  | cons r rr=>
    rw [hs];refine assignInOrder_cons (thn (h1 pins s σ H _ _ _ I r h) λ _ s1 ⟨σ1,H1,I1,q1⟩=> ?_);exact h2 pins s1 σ1 H1 _ _ Q I1 rr q1
def Kn (K:PySem.W.Frag) (n:Nat) (t:TGs):TG:=λ v σ H Q=>∃ a xs,v= .ref a/\SqT K H a xs/\xs.length=n/\t xs σ H Q
theorem PJ {es:List Expr} {k:Nat} {t:TGs} {n:Nat} (hc:X.calm=true) (h:PGs X es t)
    (hn:(assignEach es X.env).length=n:=by rfl) (hst:(assignEach es X.env).findIdx? (·.1)=none:=by rfl):PG X (.Tuple es k pos) (Kn X.K n t):=by
  intro pins s σ H v u Q I r hw;obtain ⟨a,xs,e1,hq,hl,hw⟩:=hw;subst e1;cases r;obtain ⟨its,rv,ht,hz⟩:=I.tuple hq;refine assign_Tuple_tuple (I.ok.hd hc) ht (by simp [hn, <-hl,rv.length]) hst λ h' hx=> ?_;have I1:Inv X pins σ H { s with heap:=h' }:=I.kept (t':=s.toks) λ b o e=>hx b o (Nat.ne_of_lt (Heap.lt_size e)) e;exact h pins _ σ H xs _ Q I1 (by simpa using rv) hw
def Qc (to ti:TE) (t:Nm):TG:=λ v σ H Q=>to σ H λ o H1=>ti σ H1 λ i H2=>t o i v H2 λ H3=>Q σ H3
theorem FR {o i:Expr} {to ti:TE} {t:Nm} (ho:PE X o to) (hi:PE X i ti) (hs:PX X t)
    (ha:∀ v,assign (.Subscript o i pos) X.env v=(do
      let ov <-holding [v] (eval o X.env);let iv <-holding [v,ov] (eval i X.env)
      standAt pos
      holding [v,ov,iv] (setItem ov iv v)
      release [v,ov,iv] []):=by intro _;rfl):PG X (.Subscript o i pos) (Qc to ti t):=by
  intro pins s σ H v u Q I r h;rw [ha];refine wpAny_bind (wpAny_holding (thn (ho pins s σ H _ I h) λ ov s1 ⟨x,H1,I1,r1,q1⟩=> ?_));refine wpAny_bind (wpAny_holding (thn (hi pins s1 σ H1 _ I1 q1) λ iv s2 ⟨y,H2,I2,r2,q2⟩=> ?_));refine wpAny_bind (wpAny_standAt (wpAny_bind (wpAny_holding (thn (hs pins s2 σ H2 x y v ov iv u _ I2 r1 r2 r q2) λ _ s3 ⟨H3,I3,q3⟩=> ?_))));exact wpAny_release ⟨σ,H3,I3,q3⟩
def Lu (te:TE) (g:TG):TS:=λ D σ H=>te σ H λ x H1=>g x σ H1 D.nx
theorem EU {tg e:Expr} {te:TE} {g:TG} (he:PE X e te) (hg:PG X tg g) (hs:swapsWithSole [tg] e pos.line X.env=pure false:=by rfl) (hw:swappedStores [tg] e X.env=pure none:=by rfl)
    (h1:(assignEach [tg] X.env).map (·.2)=[assign tg X.env]:=by rfl):PS X (.Assign [tg] e pos) (Lu te g):=by
  intro pins s σ H D I h;refine wpAny_Assign_stores (thn (he pins s σ H _ I h) λ v s1 ⟨x,H1,I1,r1,q1⟩=> ?_) hs hw;rw [h1];exact thn (hg pins s1 σ H1 x v _ I1 r1 q1) λ _ s2 q=>q
theorem Aw {i:Nat} {x:Str} {e:Expr} {te:TE} {pos':Pos} (hN:X.N.Nodup) (hi:X.N[i]?=some x) (hx:Loc X.env.scope x) (he:PE X e te) (hs:swapsWith e (some (.Name x pos')) pos.line X.env=pure false:=by rfl) (hf:X.fn x=true\/X.env.scope.names.lookup x=some .local:=by first | exact .inl rfl | exact .inr rfl | assumption):
    PS X (.Assign [.Name x pos'] e pos) (Lu te (AU i)):=by
  intro pins s σ H D I h;refine wpAny_Assign_Name (thn (he pins s σ H _ I h) λ v s1 ⟨y,H1,I1,r1,q1⟩=> ?_) hs;exact BS I1 hN hi hx r1 (λ s2 I2=>⟨_,H1,I2,q1⟩) hf
def RX (i j:Nat) (ta:TA):TS:=λ D σ H=>ta σ H λ vs H1=>∃ v w,vs=[v,w]/\D.nx ((σ.set i (some v)).set j (some w)) H1
theorem O1 {i j:Nat} {x y:Str} {a b:Expr} {ta:TA} {px py pt:Pos} {kt k2 pt2} (hc:X.calm=true) (hN:X.N.Nodup) (hi:X.N[i]?=some x) (hj:X.N[j]?=some y) (hij:i≠j)
    (hx:X.env.scope.names.lookup x=some .local) (hy:X.env.scope.names.lookup y=some .local) (ha:PA X [a,b] ta)
    (hw:swappedStores [.Tuple [.Name x px, .Name y py] kt pt] (.Tuple [a,b] k2 pt2) X.env=pure (some [x,y]))
    (hs:swapsWithSole [.Tuple [.Name x px, .Name y py] kt pt] (.Tuple [a,b] k2 pt2) pos.line X.env=pure false:=by rfl):
    PS X (.Assign [.Tuple [.Name x px, .Name y py] kt pt] (.Tuple [a,b] k2 pt2) pos) (RX i j ta):=by
  intro pins s σ H D I h;rw [exec_Assign_arm];refine wpAny_bind (wpAny_standAt ?_);rw [hs];refine wpAny_bind (wpAny_pure ?_);rw [if_neg (by decide)];refine wpAny_bind (Tuple_ (thn (ha _ pins s σ H _ I h) λ us s1 ⟨vs,H1,I1,r1,q1⟩=> ?_));obtain ⟨v,w,e1,q1⟩:=q1;subst e1;obtain ⟨u1,u2,rfl,rv,rw'⟩:∃ u1 u2,us=[u1,u2]/\RelV v u1/\RelV w u2:=by
    cases r1 with
    | cons p q=>
      cases q with
      | cons p' q'=>
        cases q';exact ⟨_,_,rfl,p,p'⟩
  refine wpAny_newObj_type ?_ (by show 2<=sizeLine;decide);have I2:Inv X pins σ H1 { s1 with heap:=s1.heap.push { cls:= .type "tuple",data:= .seq [u1,u2].toArray } }:=I1.kept (t':=s1.toks) λ b o e=>Heap.get?_push_of_some _ e;rw [hw];refine wpAny_bind (wpAny_pure ?_);show wpAny (model X.prog X.w) X.A (do rule "assign.swapped-stores";let items <-unpackItems (.ref s1.heap.objs.size) 2 none;assignInOrder [λ v=>bindName X.env y v,λ v=>bindName X.env x v] items.reverse;pure Flow.next) _ _ _;refine wpAny_bind (wpAny_rule (wpAny_bind (unpackItems_tuple (items:= #[u1,u2]) (I.ok.hd hc) (IsTup.new s1.heap _) λ h' hx'=> ?_)));have I3:=I2.kept (h':=h') (t':=s1.toks) λ b o e=>hx' b o (Nat.ne_of_lt (Heap.lt_size e)) e;show wpAny _ _ (assignInOrder [λ v=>bindName X.env y v,λ v=>bindName X.env x v] [u2,u1] >>= λ _=>pure Flow.next) _ _ _;refine wpAny_bind (assignInOrder_cons (wpAny_bindName (BS I3 hN hj (.inl hy) rw' (λ s2 I4=> ?_) (.inr hy))));refine assignInOrder_cons (wpAny_bindName (BS I4 hN hi (.inl hx) rv (λ s3 I5=>assignInOrder_nil (wpAny_pure ?_)) (.inr hx)));rw [List.set_comm _ _ (Ne.symm hij)] at I5;exact ⟨_,H1,I5,q1⟩
end
section
variable {X:Cx} {pos:Pos}
end
structure It where
  go:Nat->Hp->Prop
  yld:Nat->Hp->V->Hp->Prop
  stop:Nat->Hp->Prop
def DQ (X:Cx) (pins:List (Addr × Obj)) (H:Hp) (b:Addr):Prop:=
  H b=none/\b≠X.env.locals/\b∉X.fs/\(b∈X.ex\/X.s₀.heap.objs.size<=b)/\(∀ x c,X.env.cells.lookup x=some c->c≠b)/\∀ p∈X.pn++pins,p.1≠b
theorem Inv.fpOk {X:Cx} {pins:List (Addr × Obj)} {σ:St} {H H':Hp} {s:Shared} {b:Addr} (I:Inv X pins σ H s) (hb:s.heap.objs.size<=b) (hn:H' b=none):DQ X pins H' b:=by
  refine ⟨hn,Nat.ne_of_gt (Nat.lt_of_lt_of_le I.lt hb),I.nofs hb, .inr (Nat.le_trans I.sz hb),λ x c e z=> ?_,λ p hp z=> ?_⟩
  · obtain ⟨v,q⟩:=I.cell x c e;exact absurd (Nat.lt_of_lt_of_le q.lt (by rw [z];exact hb)) (Nat.lt_irrefl _)
  · exact absurd (Nat.lt_of_lt_of_le (Heap.lt_size (I.pin p hp).1) (by rw [z];exact hb)) (Nat.lt_irrefl _)
structure Turn (P:Program) (w:World) (K:PySem.W.Frag) (tg:Expr) (J:It) (fp:List Addr) (it:Addr) (tn:Nat->Heap->Prop):Prop where
  mem:it∈fp
  obj:∀ i h,tn i h->∀ b∈fp,∃ o,h.get? b=some o/\∀ v,o.data≠ .cell v
  keep:∀ i h h',tn i h->(∀ b∈fp,∀ o,h.get? b=some o->h'.get? b=some o)->tn i h'
  item:∀ (X:Cx),X.prog=P->X.w=w->X.K=K->X.calm=true->∀ (i:Nat) (pins:List (Addr × Obj)) (s:Shared) (σ:St) (H:Hp) (E:Value->Shared->Prop),Inv X pins σ H s->(∀ b∈fp,DQ X pins H b)->tn i s.heap->J.go i H->
    wpAny (model P w) X.A (pyNext (.ref it)) (λ r s1=>∃ u,r=some u/\
      wpAny (model P w) X.A (letOwnedTupleGo tg (.ref it) u) (λ _ s2=>∃ x H',Inv X pins σ H' s2/\RelV x u/\J.yld i H x H'/\tn (i+1) s2.heap/\∀ b∈fp,H' b=none) E s1) E s
  done:∀ (X:Cx),X.prog=P->X.w=w->X.K=K->X.calm=true->∀ (i:Nat) (pins:List (Addr × Obj)) (s:Shared) (σ:St) (H:Hp) (E:Value->Shared->Prop),Inv X pins σ H s->(∀ b∈fp,DQ X pins H b)->tn i s.heap->J.stop i H->
    wpAny (model P w) X.A (pyNext (.ref it)) (λ r s1=>r=none/\Inv X pins σ H s1) E s
  self:∀ (A:Around) (i:Nat) (s:Shared) (Q:Value->Shared->Prop) (E:Value->Shared->Prop),tn i s.heap->Q (.ref it) s->wpAny (model P w) A (pyIter (.ref it)) Q E s
abbrev TI:=St->Hp->(It->Hp->Prop)->Prop
def PIE (X:Cx) (pins:List (Addr × Obj)) (σ:St) (tg:Expr) (R:It->Hp->Prop) (itv:Value) (s2:Shared):Prop:=
  ∃ (it:Addr) (fp:List Addr) (tn:Nat->Heap->Prop) (J:It) (H':Hp),itv= .ref it/\Inv X pins σ H' s2/\Turn X.prog X.w X.K tg J fp it tn/\tn 0 s2.heap/\(∀ b∈fp,DQ X pins H' b)/\R J H'
def PI (X:Cx) (tg iter:Expr) (wi:TI):Prop:=
  ∀ (pins:List (Addr × Obj)) (s:Shared) (σ:St) (H:Hp) (R:It->Hp->Prop),Inv X pins σ H s->wi σ H R->
    wpAny (model X.prog X.w) X.A (eval iter X.env) (λ v s1=>wpAny (model X.prog X.w) X.A (pyIter v) (PIE X pins σ tg R) X.xe s1) X.xe s
theorem JP {M:Model} {A:Around} {E:Value->Shared->Prop} {s:Shared} {tg:Expr} {it:Addr} {u:Value} {o:Obj} {n:String} {vs:Array Value} {Q:Unit->Shared->Prop} (ho:s.heap.get? it=some o) (hc:o.cls= .type n) (hd:o.data= .fields vs)
    (hn:["enumerate","zip","dict_itemiterator","dict_reverseitemiterator","odict_iterator","itertools.zip_longest","itertools.pairwise"].contains n=false) (hQ:Q () s):wpAny M A (letOwnedTupleGo tg (.ref it) u) Q E s:=by
  unfold letOwnedTupleGo;cases tg <;> first
    | exact wpAny_pure hQ
    | (cases u <;> first
        | exact wpAny_pure hQ
        | (refine wpAny_bind (wpAny_load ho ?_)
           rw [hc,hd];show wpAny M A (if (["enumerate","zip","dict_itemiterator","dict_reverseitemiterator","odict_iterator","itertools.zip_longest","itertools.pairwise"].contains n&&vs[0]? == some (rawInt _))=true then _ else _) Q E s;rw [if_neg (by intro h;rw [hn,Bool.false_and] at h;cases h)];exact wpAny_pure hQ))
def Itl (K:PySem.W.Frag) (a:Addr):It:=
  ⟨λ i H=>∃ xs x,SqL K H a xs/\xs[i]?=some x,λ i H x H'=>H'=H/\∀ xs,SqL K H a xs->xs[i]?=some x,λ i H=>∃ xs,SqL K H a xs/\xs.length<=i⟩
def Itt (K:PySem.W.Frag) (a:Addr):It:=
  ⟨λ i H=>∃ xs x,SqT K H a xs/\xs[i]?=some x,λ i H x H'=>H'=H/\∀ xs,SqT K H a xs->xs[i]?=some x,λ i H=>∃ xs,SqT K H a xs/\xs.length<=i⟩
def Itr (lo:Int) (n:Nat):It:=⟨λ i _=>i<n,λ i H x H'=>H'=H/\x= .int (lo+i),λ i _=>n<=i⟩
theorem KO {P:Program} {w:World} {K:PySem.W.Frag} {tg:Expr} (a it:Addr):Turn P w K tg (Itl K a) [it] it (λ i h=>h.IsListIter it a i) where
  mem:=by simp
  obj:=λ i h st b hb=>by
    have e:b=it:=by simpa using hb
    subst e;obtain ⟨o,e,c,d⟩:=st;exact ⟨o,e,λ v z=>by rw [d] at z;cases z⟩
  keep:=λ i h h' st k=>st.at λ o e=>k it (by simp) o e
  item:=by
    intro X hP hw hK hc i pins s σ H E I hf st hg;subst hP hw hK;obtain ⟨xs,x,hq,hx⟩:=hg;obtain ⟨its,rv,p,hz⟩:=I.list hq;obtain ⟨u,hu,ru⟩:=rv.get hx;obtain ⟨f0,f1,f2,f3,f4,f5⟩:=hf it (by simp);refine wpAny_pyNext_list_item st p.isList (x:=u) (by simpa using hu) λ h' st' sb=> ?_;have I1:Inv X pins σ H { s with heap:=h' }:=I.turned (t':=s.toks) (λ b o hb e=>(sb.2 b hb).trans e) f0 f1 f3 f4 f5;obtain ⟨o,e,c,d⟩:=id st';exact ⟨u,rfl,JP (s:={ s with heap:=h' }) e c d (by decide) ⟨x,H,I1,ru,⟨rfl,λ ys hy=>by rw [I.list_inj hy hq];exact hx⟩,st',λ b hb=>(hf b hb).1⟩⟩
  done:=by
    intro X hP hw hK hc i pins s σ H E I hf st hg;subst hP hw hK;obtain ⟨xs,hq,hx⟩:=hg;obtain ⟨its,rv,p,hz⟩:=I.list hq;obtain ⟨f0,f1,f2,f3,f4,f5⟩:=hf it (by simp);have hl:=rv.length;exact wpAny_pyNext_list_end (I.ok.hd hc) st p.isList (by simp;omega) λ h' eb=>⟨rfl,I.turned (t':=s.toks) (λ b o hb e=>eb b o hb e) f0 f1 f3 f4 f5⟩
  self:=λ _ _ _ _ _ st h=>wpAny_pyIter_listiter st h
theorem IR {P:Program} {w:World} {K:PySem.W.Frag} {tg:Expr} (a it:Addr):Turn P w K tg (Itt K a) [it] it (λ i h=>h.IsTupleIter it a i) where
  mem:=by simp
  obj:=λ i h st b hb=>by
    have e:b=it:=by simpa using hb
    subst e;obtain ⟨o,e,c,d⟩:=st;exact ⟨o,e,λ v z=>by rw [d] at z;cases z⟩
  keep:=λ i h h' st k=>st.at λ o e=>k it (by simp) o e
  item:=by
    intro X hP hw hK hc i pins s σ H E I hf st hg;subst hP hw hK;obtain ⟨xs,x,hq,hx⟩:=hg;obtain ⟨its,rv,p,hz⟩:=I.tuple hq;obtain ⟨u,hu,ru⟩:=rv.get hx;obtain ⟨f0,f1,f2,f3,f4,f5⟩:=hf it (by simp);refine wpAny_pyNext_tuple_item st (show s.heap.IsTuple a its.toArray from p) (x:=u) (by simpa using hu) λ h' st' sb=> ?_;have I1:Inv X pins σ H { s with heap:=h' }:=I.turned (t':=s.toks) (λ b o hb e=>(sb.2 b hb).trans e) f0 f1 f3 f4 f5;obtain ⟨o,e,c,d⟩:=id st';exact ⟨u,rfl,JP (s:={ s with heap:=h' }) e c d (by decide) ⟨x,H,I1,ru,⟨rfl,λ ys hy=>by rw [I.tuple_inj hy hq];exact hx⟩,st',λ b hb=>(hf b hb).1⟩⟩
  done:=by
    intro X hP hw hK hc i pins s σ H E I hf st hg;subst hP hw hK;obtain ⟨xs,hq,hx⟩:=hg;obtain ⟨its,rv,p,hz⟩:=I.tuple hq;obtain ⟨f0,f1,f2,f3,f4,f5⟩:=hf it (by simp);have hl:=rv.length;exact wpAny_pyNext_tuple_end (I.ok.hd hc) st (show s.heap.IsTuple a its.toArray from p) (by simp;omega) λ h' eb=>⟨rfl,I.turned (t':=s.toks) (λ b o hb e=>eb b o hb e) f0 f1 f3 f4 f5⟩
  self:=λ _ _ _ _ _ st h=>wpAny_pyIter_tupleiter st h
theorem Jc {P:Program} {w:World} {K:PySem.W.Frag} {tg:Expr} (it:Addr) (lo:Int) (n:Nat):Turn P w K tg (Itr lo n) [it] it (λ i h=>IsRangeIter h it (lo+(i:Nat)*1) ((n:Int) - (i:Nat)) 1) where
  mem:=by simp
  obj:=λ i h st b hb=>by
    have e:b=it:=by simpa using hb
    subst e;exact ⟨_,st,λ v z=>by
      have z':Data.fields _=Data.cell v:=z;cases z'⟩
  keep:=λ i h h' st k=>k it (by simp) _ st
  item:=by
    intro X hP hw hK hc i pins s σ H E I hf st hg;subst hP hw hK;obtain ⟨f0,f1,f2,f3,f4,f5⟩:=hf it (by simp);have W:=Walks.range (prog:=X.prog) (w:=X.w) (I.ok.hd hc) it lo 1 n;refine W.item i s _ _ hg st λ v h' tk hv st' kk=> ?_;obtain ⟨t,rfl⟩:=hv;have I1:Inv X pins σ H { s with heap:=h',toks:=tk }:=I.turned (λ b o hb e=>kk b o (by simpa using hb) e) f0 f1 f3 f4 f5;refine ⟨_,rfl,JP (s:={ s with heap:=h',toks:=tk }) (n:="range_iterator") st' rfl rfl (by decide) ⟨.int (lo+i),H,I1,⟨t,?_⟩,⟨rfl,rfl⟩,st',λ b hb=>(hf b hb).1⟩⟩;rw [Int.mul_one]
  done:=by
    intro X hP hw hK hc i pins s σ H E I hf st hg;subst hP hw hK;obtain ⟨f0,f1,f2,f3,f4,f5⟩:=hf it (by simp);exact wpAny_pyNext_range_end (I.ok.hd hc) st (by have:n<=i:=hg;omega) λ h' eb=>⟨rfl,I.turned (t':=s.toks) (λ b o hb e=>eb b o hb e) f0 f1 f3 f4 f5⟩
  self:=λ _ _ _ _ _ st h=>wpAny_pyIter_rangeiter st h
section
variable {X:Cx} {tg:Expr}
def JD (K:PySem.W.Frag) (tl:TE):TI:=λ σ H R=>tl σ H λ x H1=>∃ a,x= .ref a/\(∃ xs,SqL K H1 a xs)/\R (Itl K a) H1
def OV (K:PySem.W.Frag) (tl:TE):TI:=λ σ H R=>tl σ H λ x H1=>∃ a,x= .ref a/\(∃ xs,SqT K H1 a xs)/\R (Itt K a) H1
theorem MZ {l:Expr} {tl:TE} (hl:PE X l tl):PI X tg l (JD X.K tl):=by
  intro pins s σ H R I h;refine thn (hl pins s σ H _ I h) λ v s1 ⟨x,H1,I1,r1,q1⟩=> ?_;obtain ⟨a,e,⟨xs,hq⟩,q⟩:=q1;subst e;cases r1;obtain ⟨its,rv,p,hz⟩:=I1.list hq;refine wpAny_pyIter_list p.isList ?_;refine ⟨s1.heap.objs.size,[s1.heap.objs.size],_,_,H1,rfl,I1.kept (t':=s1.toks) λ b o e=>Heap.get?_push_of_some _ e,KO a _,⟨_,Heap.get?_push_size _ rfl,rfl,rfl⟩,λ b hb=> ?_,q⟩;have e:b=s1.heap.objs.size:=by simpa using hb
  subst e;exact I1.fpOk (Nat.le_refl _) (I1.hok.fresh (Nat.le_refl _))
theorem PP {l:Expr} {tl:TE} (hl:PE X l tl):PI X tg l (OV X.K tl):=by
  intro pins s σ H R I h;refine thn (hl pins s σ H _ I h) λ v s1 ⟨x,H1,I1,r1,q1⟩=> ?_;obtain ⟨a,e,⟨xs,hq⟩,q⟩:=q1;subst e;cases r1;obtain ⟨its,rv,p,hz⟩:=I1.tuple hq;refine wpAny_pyIter_tuple (show s1.heap.IsTuple a its.toArray from p) ?_;refine ⟨s1.heap.objs.size,[s1.heap.objs.size],_,_,H1,rfl,I1.kept (t':=s1.toks) λ b o e=>Heap.get?_push_of_some _ e,IR a _,⟨_,Heap.get?_push_size _ rfl,rfl,rfl⟩,λ b hb=> ?_,q⟩;have e:b=s1.heap.objs.size:=by simpa using hb
  subst e;exact I1.fpOk (Nat.le_refl _) (I1.hok.fresh (Nat.le_refl _))
theorem Lo {pins:List (Addr × Obj)} {σ:St} {H:Hp} {s:Shared} {R:It->Hp->Prop} {E:Value->Shared->Prop} {lo hi:Int} {t u v:Tok} {tk:Nat} (I:Inv X pins σ H s) (h1: -(2 ^ 62)<=lo) (h2:lo<2 ^ 62) (h3: -(2 ^ 62)<=hi) (h4:hi<2 ^ 62)
    (q:R (Itr lo (hi - lo).toNat) H):wpAny (model X.prog X.w) X.A (pyIter (.ref s.heap.objs.size)) (PIE X pins σ tg R) E { s with heap:=s.heap.push { cls:= .type "range",data:= .fields #[.int lo t, .int hi u, .int 1 v] },toks:=tk }:=by
  refine wpAny_pyIter_range (IsRange.new ..) (small_one h1 h2 h3 h4) ?_;have I1:Inv X pins σ H { s with heap:=s.heap.push { cls:= .type "range",data:= .fields #[.int lo t, .int hi u, .int 1 v] },toks:=tk }:=I.kept λ b o e=>Heap.get?_push_of_some _ e;refine ⟨(s.heap.push { cls:= .type "range",data:= .fields #[.int lo t, .int hi u, .int 1 v] }).objs.size,[(s.heap.push { cls:= .type "range",data:= .fields #[.int lo t, .int hi u, .int 1 v] }).objs.size],_,_,H,rfl,
    I1.kept (t':=tk) λ b o e=>Heap.get?_push_of_some _ e,Jc _ lo (hi - lo).toNat,?_,λ b hb=> ?_,q⟩
  · have e1:lo+((0:Nat):Int)*1=lo:=by simp
    have e2:(((hi - lo).toNat:Nat):Int) - ((0:Nat):Int)=Builtin.Range.rangeSize lo hi 1:=by rw [rangeSize_one];split <;> omega
    show IsRangeIter _ _ (lo+((0:Nat):Int)*1) ((((hi - lo).toNat:Nat):Int) - ((0:Nat):Int)) 1;rw [e1,e2];exact Heap.get?_push_size _ rfl
  · have e:b=(s.heap.push { cls:= .type "range",data:= .fields #[.int lo t, .int hi u, .int 1 v] }).objs.size:=by simpa using hb
    subst e;exact I1.fpOk (Nat.le_refl _) (I1.hok.fresh (Nat.le_refl _))
def Oi (ta:TA):TI:=λ σ H R=>ta σ H λ vs H1=>∃ j:Int,vs=[.int j]/\ -(2 ^ 62)<=j/\j<2 ^ 62/\R (Itr 0 j.toNat) H1
theorem DL {a:Expr} {ta:TA} {p pos:Pos} (hg:Gl X "range") (hm:X.mg "range"=none) (ha:PA X [a] ta) (hs:starEach [a] X.env=[(false,eval a X.env)]:=by rfl):PI X tg (.Call (.Name "range" p) [a] [] pos) (Oi ta):=by
  intro pins s σ H R I h;refine Call_ (C5 I hg hm boot_range (PyProof.Rows.callWith_type1 (thn (ha pos pins s σ H _ I h) λ us s1 ⟨vs,H1,I1,r1,q1⟩=> ?_) hs rfl));obtain ⟨j,e,q1,q2,q⟩:=q1;subst e;cases r1 with
  | cons r rr=>
    cases rr;obtain ⟨t,rfl⟩:=r;exact call_range_1 (Lo I1 (by omega) (by omega) q1 q2 (by simpa using q))
def OJ (wi:TI) (g:TG) (tb:TS):TS:=λ D σ H=>wi σ H λ J H1=>∃ W:Nat->Nat->St->Hp->Prop,(∃ m,W 0 m σ H1)/\∀ i m σ H,W i m σ H->
  (J.stop i H/\D.nx σ H)\/(J.go i H/\∃ N:St->Hp->Prop,(∀ σ' H',N σ' H'->∃ m',m'<m/\W (i+1) m' σ' H')/\∀ x H',J.yld i H x H'->g x σ H' λ σ2 H2=>tb { D with nx:=N,ct:=N,bk:=D.nx } σ2 H2)
def FJ (fp:List Addr) (h:Heap):List (Addr × Obj):=fp.filterMap λ b=>(h.get? b).map λ o=>(b,o)
theorem Cw {fp:List Addr} {h:Heap} {b:Addr} {o:Obj} (hb:b∈fp) (e:h.get? b=some o):(b,o)∈FJ fp h:=List.mem_filterMap.mpr ⟨b,hb,by rw [e];rfl⟩
theorem Kl {fp:List Addr} {h:Heap} {p:Addr × Obj} (hp:p∈FJ fp h):p.1∈fp/\h.get? p.1=some p.2:=by
  obtain ⟨b,hb,e⟩:=List.mem_filterMap.mp hp;cases q:h.get? b with
  | none=>rw [q] at e;cases e
  | some o=>
    rw [q] at e;have e':(b,o)=p:=Option.some.inj e;subst e';exact ⟨hb,q⟩
theorem Inv.pinned {pins:List (Addr × Obj)} {σ:St} {H:Hp} {s:Shared} {fp:List Addr} (I:Inv X pins σ H s) (hf:∀ b∈fp,DQ X pins H b) (ho:∀ b∈fp,∃ o,s.heap.get? b=some o/\∀ v,o.data≠ .cell v):Inv X (pins++FJ fp s.heap) σ H s:=
  I.pins_of λ p hp=>(List.mem_append.mp hp).elim (λ z=>I.pin p (List.mem_append_right _ z)) λ z=>by
    obtain ⟨hb,e⟩:=Kl z;obtain ⟨f0,f1,f2,_⟩:=hf p.1 hb;obtain ⟨o,e',d⟩:=ho p.1 hb;rw [e] at e';cases e';exact ⟨e,f0,f1,f2,d⟩
theorem Inv.unpinned {pins pl:List (Addr × Obj)} {σ:St} {H:Hp} {s:Shared} (I:Inv X (pins++pl) σ H s):Inv X pins σ H s:=I.pins_of λ p hp=>I.pin p (List.mem_append_right _ (List.mem_append_left _ hp))
theorem Hg {iter:Expr} {body:List Stmt} {wi:TI} {g:TG} {tb:TS} {pos:Pos} (hp:PassesOwn (model X.prog X.w) X.A X.env X.xe) (hc:X.calm=true) (hi:PI X tg iter wi) (hg:PG X tg g) (hb:PSs X body tb)
    (hs:∀ x,foldedSetIterable iter X.env x=pure x:=by intro _;rfl):PS X (.For tg iter body [] pos) (OJ wi g tb):=by
  intro pins s σ H D I h;refine wpAny_For (thn (hi pins s σ H _ I h) λ v s1 h1=>thn h1 λ itv s2 h2=> ?_) hs;obtain ⟨it,fp,tn,J,H2,e,I2,T,st2,f2,W,⟨m0,w0⟩,turn⟩:=h2;subst e;have stat:∀ {H':Hp},(∀ b∈fp,H' b=none)->∀ b∈fp,DQ X pins H' b:=λ hn b hb=>⟨hn b hb,(f2 b hb).2⟩;refine codeAny_forLoop_any (λ n s'=>∃ i σ' H',Inv X pins σ' H' s'/\tn i s'.heap/\(∀ b∈fp,H' b=none)/\W i n σ' H') ?_ m0 ⟨0,σ,H2,I2,st2,λ b hb=>(f2 b hb).1,w0⟩;rintro n s3 ⟨i,σ3,H3,I3,st3,fr3,w3⟩;rcases turn i n σ3 H3 w3 with ⟨stop,qn⟩ | ⟨go,N,hN,step⟩
  · refine wpAny_passesOwn hp (thn (T.done X rfl rfl rfl hc i pins s3 σ3 H3 X.xe I3 (stat fr3) st3 stop) λ r s4 ⟨hr,I4⟩=> ?_);subst hr;exact wpAny_execs_nil ⟨σ3,H3,I4,qn⟩
  · refine wpAny_passesOwn hp (thn (T.item X rfl rfl rfl hc i pins s3 σ3 H3 X.xe I3 (stat fr3) st3 go) λ r s4 ⟨u,hr,h4⟩=> ?_);subst hr;refine wpAny_passesOwn hp (thn h4 λ _ s5 ⟨x,H5,I5,r5,y5,st5,fr5⟩=> ?_);have I5':=I5.pinned (stat fr5) (T.obj _ _ st5);refine wpAny_passesOwn hp (thn (hg _ s5 σ3 H5 x u _ I5' r5 (step x H5 y5)) λ _ s6 ⟨σ6,H6,I6,q6⟩=> ?_);refine wpAny_passesOwn hp (thn (hb _ s6 σ6 H6 _ I6 q6) λ f s7 q7=> ?_);have again:∀ {σ7:St} {H7:Hp},Inv X (pins++FJ fp s5.heap) σ7 H7 s7->N σ7 H7->∃ m,m<n/\∃ i σ' H',Inv X pins σ' H' s7/\tn i s7.heap/\(∀ b∈fp,H' b=none)/\W i m σ' H':=λ {σ7 H7} I7 n7=>by
      obtain ⟨m',hm,w7⟩:=hN σ7 H7 n7;refine ⟨m',hm,i+1,σ7,H7,I7.unpinned,T.keep _ _ _ st5 λ b hb o e=>(I7.pin (b,o) (List.mem_append_right _ (List.mem_append_right _ (Cw hb e)))).1,λ b hb=> ?_,w7⟩;obtain ⟨o,e,d⟩:=T.obj _ _ st5 b hb;exact (I7.pin (b,o) (List.mem_append_right _ (List.mem_append_right _ (Cw hb e)))).2.1
    cases f with
    | next=>obtain ⟨σ7,H7,I7,n7⟩:=q7;exact again I7 n7
    | cont=>obtain ⟨σ7,H7,I7,n7⟩:=q7;exact again I7 n7
    | brk=>obtain ⟨σ7,H7,I7,q7⟩:=q7;exact ⟨σ7,H7,I7.unpinned,q7⟩
    | ret v=>obtain ⟨x7,σ7,H7,I7,r7,q7⟩:=q7;exact ⟨x7,σ7,H7,I7.unpinned,r7,q7⟩
end
abbrev R2:=V->V->Hp->VK->Prop
def OpR (X:Cx) (f:Value->Value->Sem Value) (r:R2):Prop:=
  ∀ (pins:List (Addr × Obj)) (s:Shared) (σ:St) (H:Hp) (x y:V) (v u:Value) (Q:VK),Inv X pins σ H s->RelV x v->RelV y u->r x y H Q->
    wpAny (model X.prog X.w) X.A (f v u) (EP X pins σ Q) X.xe s
def UnR (X:Cx) (f:Value->Sem Value) (r:V->Hp->VK->Prop):Prop:=
  ∀ (pins:List (Addr × Obj)) (s:Shared) (σ:St) (H:Hp) (x:V) (v:Value) (Q:VK),Inv X pins σ H s->RelV x v->r x H Q->
    wpAny (model X.prog X.w) X.A (f v) (EP X pins σ Q) X.xe s
def Bt (X:Cx) (f:Value) (r:List V->Hp->VK->Prop):Prop:=
  ∀ (pins:List (Addr × Obj)) (s:Shared) (σ:St) (H:Hp) (xs:List V) (us:List Value) (Q:VK),Inv X pins σ H s->Vals xs us->r xs H Q->
    wpAny (model X.prog X.w) X.A (call f us) (EP X pins σ Q) X.xe s
def Tw (X:Cx) (r:V->Hp->(Bool->Hp->Prop)->Prop):Prop:=
  ∀ (pins:List (Addr × Obj)) (s:Shared) (σ:St) (H:Hp) (x:V) (v:Value) (Q:Bool->Hp->Prop),Inv X pins σ H s->RelV x v->r x H Q->
    wpAny (model X.prog X.w) X.A (truthy v) (TP X pins σ Q) X.xe s
def tOp (r:R2) (ta tb:TE):TE:=λ σ H Q=>ta σ H λ x H1=>tb σ H1 λ y H2=>r x y H2 Q
def tUn (r:V->Hp->VK->Prop) (ta:TE):TE:=λ σ H Q=>ta σ H λ x H1=>r x H1 Q
def rI (C:Int->Int->Prop) (g:Int->Int->V):R2:=λ x y H Q=>∃ i j,x= .int i/\y= .int j/\C i j/\Q (g i j) H
def rI0 (g:Int->Int->V):R2:=λ x y H Q=>∃ i j,x= .int i/\y= .int j/\Q (g i j) H
def rU (g:Int->V):V->Hp->VK->Prop:=λ x H Q=>∃ i,x= .int i/\Q (g i) H
section
variable {X:Cx} {a b c:Expr} {ta tb tc:TE} {pos:Pos}
theorem Pf (ha:PE X a ta) (hb:PE X b tb) {pins:List (Addr × Obj)} {s:Shared} {σ:St} {H:Hp} {R:V->V->Hp->Prop} (I:Inv X pins σ H s)
    (h:ta σ H λ x H1=>tb σ H1 λ y H2=>R x y H2) {Q:Value->Shared->Prop} {f:Value->Value->Sem Value}
    (hf:∀ v u s2 x y H2,Inv X pins σ H2 s2->RelV x v->RelV y u->R x y H2->wpAny (model X.prog X.w) X.A (f v u) Q X.xe s2):
    wpAny (model X.prog X.w) X.A (eval a X.env) (λ v s₁=>wpAny (model X.prog X.w) X.A (eval b X.env) (λ u s₂=>wpAny (model X.prog X.w) X.A (f v u) Q X.xe s₂) X.xe s₁) X.xe s:=by
  refine thn (ha pins s σ H _ I h) λ v s1 ⟨x,H1,I1,r1,q1⟩=> ?_;refine thn (hb pins s1 σ H1 _ I1 q1) λ u s2 ⟨y,H2,I2,r2,q2⟩=> ?_;exact hf v u s2 x y H2 I2 r1 r2 q2
theorem Ao {op:Operator} {r:R2} (ho:OpR X (binaryOp op) r) (ha:PE X a ta) (hb:PE X b tb):PE X (.BinOp a op b pos) (tOp r ta tb):=by
  intro pins s σ H Q I h;exact wpAny_BinOp (Pf ha hb I h λ v u s2 x y H2 I2 rx ry q=>ho pins s2 σ H2 x y v u Q I2 rx ry q)
theorem N7 {op:UnaryOp} {r:V->Hp->VK->Prop} (ho:UnR X (unaryOp op) r) (ha:PE X a ta):PE X (.UnaryOp op a pos) (tUn r ta):=by
  intro pins s σ H Q I h;exact UnaryOp_ (thn (ha pins s σ H _ I h) λ v s1 ⟨x,H1,I1,r1,q1⟩=>ho pins s1 σ H1 x v Q I1 r1 q1)
theorem opI {f:Value->Value->Sem Value} {C:Int->Int->Prop} {g:Int->Int->Int}
    (rule:∀ (i j:Int) (t u:Tok) (s:Shared) (Q:Value->Shared->Prop) (E:Value->Shared->Prop),C i j->Q (.int (g i j) s.toks) { s with toks:=s.toks+1 }->wpAny (model X.prog X.w) X.A (f (.int i t) (.int j u)) Q E s):
    OpR X f (rI C λ i j=> .int (g i j)):=by
  intro pins s σ H x y v u Q I rx ry h;obtain ⟨i,j,rfl,rfl,hc,q⟩:=h;obtain ⟨t,rfl⟩:=rx;obtain ⟨t',rfl⟩:=ry;exact rule i j t t' s _ _ hc ⟨.int (g i j),H,I.tok _,⟨_,rfl⟩,q⟩
theorem OA {f:Value->Value->Sem Value} {g:Int->Int->Int}
    (rule:∀ (i j:Int) (t u:Tok) (s:Shared) (Q:Value->Shared->Prop) (E:Value->Shared->Prop),Q (.int (g i j) s.toks) { s with toks:=s.toks+1 }->wpAny (model X.prog X.w) X.A (f (.int i t) (.int j u)) Q E s):
    OpR X f (rI0 λ i j=> .int (g i j)):=by
  intro pins s σ H x y v u Q I rx ry h;obtain ⟨i,j,rfl,rfl,q⟩:=h;obtain ⟨t,rfl⟩:=rx;obtain ⟨t',rfl⟩:=ry;exact rule i j t t' s _ _ ⟨.int (g i j),H,I.tok _,⟨_,rfl⟩,q⟩
theorem OF {f:Value->Value->Sem Value} {g:Int->Int->Bool}
    (rule:∀ (i j:Int) (t u:Tok) (s:Shared) (Q:Value->Shared->Prop) (E:Value->Shared->Prop),Q (.bool (g i j)) s->wpAny (model X.prog X.w) X.A (f (.int i t) (.int j u)) Q E s):
    OpR X f (rI0 λ i j=> .bl (g i j)):=by
  intro pins s σ H x y v u Q I rx ry h;obtain ⟨i,j,rfl,rfl,q⟩:=h;obtain ⟨t,rfl⟩:=rx;obtain ⟨t',rfl⟩:=ry;exact rule i j t t' s _ _ ⟨.bl (g i j),H,I,rfl,q⟩
def QW (i j:Int):Prop:=0<=j/\j<=1000000/\i.natAbs<2 ^ 64
def CMul (i j:Int):Prop:=(-(2 ^ 64)<i/\i<2 ^ 64)\/(-(2 ^ 64)<j/\j<2 ^ 64)
theorem CMul.ok {i j:Int} (h:CMul i j):IntMulOk i j:=by
  rcases h with ⟨h1,h2⟩ | ⟨h1,h2⟩
  · exact .of_left (intBits_le_64 h1 h2)
  · exact .of_right (intBits_le_64 h1 h2)
theorem Jf (k:Nat):(0:Int)<=2 ^ k:=by
  rw [two_pow_cast];exact Int.natCast_nonneg _
theorem AZ:OpR X (binaryOp .Add) (rI0 λ i j=> .int (i+j)):=OA λ _ _ _ _ _ _ _ q=>add_int q
theorem Pi:OpR X (binaryOp .Sub) (rI0 λ i j=> .int (i - j)):=OA λ _ _ _ _ _ _ _ q=>sub_int q
theorem FI:OpR X (binaryOp .Mult) (rI CMul λ i j=> .int (i*j)):=opI λ _ _ _ _ _ _ _ hc q=>mul_int q hc.ok
theorem AJ:OpR X (binaryOp .Mod) (rI (λ _ j=>0<j) λ i j=> .int (i%j)):=opI λ i j _ _ _ _ _ hc q=>by
  have h1:(0:Int)<j:=hc;exact mod_int' (by omega) (by rw [Int.fmod_eq_emod_of_nonneg i (by omega)];exact q)
theorem LT:OpR X (binaryOp .Pow) (rI QW λ i j=> .int (i ^ j.toNat)):=opI λ _ _ _ _ _ _ _ hc q=>pow_int_small hc.1 hc.2.1 hc.2.2 q
theorem K8:OpR X (binaryOp .LShift) (rI QW λ i j=> .int (i*2 ^ j.toNat)):=opI λ _ _ _ _ _ _ _ hc q=>lshift_int_small hc.1 hc.2.1 hc.2.2 q
theorem Pk:OpR X (binaryOp .RShift) (rI (λ _ j=>0<=j) λ i j=> .int (i / 2 ^ j.toNat)):=opI λ i j _ _ _ _ _ hc q=>
  rshift_int hc (by rw [Int.fdiv_eq_ediv_of_nonneg i (Jf _)];exact q)
theorem OY:OpR X (binaryOp .BitAnd) (rI0 λ i j=> .int (Builtin.bitAnd i j)):=OA λ _ _ _ _ _ _ _ q=>and_int q
theorem unI {f:Value->Sem Value} {g:Int->Int}
    (rule:∀ (i:Int) (t:Tok) (s:Shared) (Q:Value->Shared->Prop) (E:Value->Shared->Prop),Q (.int (g i) s.toks) { s with toks:=s.toks+1 }->wpAny (model X.prog X.w) X.A (f (.int i t)) Q E s):
    UnR X f (rU λ i=> .int (g i)):=by
  intro pins s σ H x v Q I rx h;obtain ⟨i,rfl,q⟩:=h;obtain ⟨t,rfl⟩:=rx;exact rule i t s _ _ ⟨.int (g i),H,I.tok _,⟨_,rfl⟩,q⟩
theorem LR:UnR X (unaryOp .USub) (rU λ i=> .int (-i)):=unI λ _ _ _ _ _ q=>neg_int q
end
def PL:V->V->Bool
  | .non, .non=>true | .non, .int _=>true | .int _, .non=>true | .non, .bl _=>true | .bl _, .non=>true | .non, .str _=>true | .str _, .non=>true
  | .int _, .int _=>true | .bl _, .bl _=>true | .str _, .str _=>true | .byt _, .byt _=>true
  | .int _, .str _=>true | .str _, .int _=>true | .bl _, .str _=>true | .str _, .bl _=>true
  | _,_=>false
def rEq:R2:=λ x y H Q=>PL x y=true/\Q (.bl (decide (x=y))) H
def rNe:R2:=λ x y H Q=>PL x y=true/\Q (.bl (!decide (x=y))) H
theorem Jo {i j:Int}:decide (V.int i=V.int j)=(i == j):=by
  rw [Bool.eq_iff_iff];simp
theorem Lc {i j:Bool}:decide (V.bl i=V.bl j)=(i == j):=by
  rw [Bool.eq_iff_iff];simp
theorem Jy {i j:Str}:decide (V.str i=V.str j)=(i == j):=by
  rw [Bool.eq_iff_iff];simp
theorem JH {i j:Array UInt8}:decide (V.byt i=V.byt j)=(i.toList == j.toList):=by
  rw [Bool.eq_iff_iff];cases i;cases j;simp
section
variable {X:Cx} {a b c:Expr} {ta tb tc:TE} {pos:Pos}
theorem Az {pins:List (Addr × Obj)} {σ:St} {H:Hp} {s:Shared} {Q:VK} {k k':Bool} (I:Inv X pins σ H s) (q:Q (.bl k) H) (e:k=k'):EP X pins σ Q (.bool k') s:=by
  subst e;exact ⟨.bl k,H,I,rfl,q⟩
theorem Gu:OpR X (compareOp .Eq) rEq:=by
  intro pins s σ H x y v u Q I rx ry h;obtain ⟨hs,q⟩:=h;cases x with
  | non=>
    cases rx;cases y with
    | non=>cases ry;exact PySem.EqNone.eq_none_none (Az I q (by simp))
    | bl j=>cases ry;exact PySem.EqNone.eq_none_bool (Az I q (by simp))
    | int j=>obtain ⟨t',rfl⟩:=ry;exact PySem.EqNone.eq_none_int (Az I q (by simp))
    | str j=>obtain ⟨t',rfl⟩:=ry;exact PySem.EqNone.eq_none_str (Az I q (by simp))
    | _=>exact absurd (show false=true from hs) Bool.false_ne_true
  | bl i=>
    cases rx;cases y with
    | non=>cases ry;exact PySem.EqNone.eq_bool_none (Az I q (by simp))
    | bl j=>cases ry;exact eq_bool (Az I q Lc)
    | str j=>obtain ⟨t',rfl⟩:=ry;exact PySem.EqMixed.eq_bool_str (Az I q (by simp))
    | _=>exact absurd (show false=true from hs) Bool.false_ne_true
  | int i=>
    obtain ⟨t,rfl⟩:=rx;cases y with
    | non=>cases ry;exact PySem.EqNone.eq_int_none (Az I q (by simp))
    | int j=>obtain ⟨t',rfl⟩:=ry;exact eq_int (Az I q Jo)
    | str j=>obtain ⟨t',rfl⟩:=ry;exact PySem.EqMixed.eq_int_str (Az I q (by simp))
    | _=>exact absurd (show false=true from hs) Bool.false_ne_true
  | str i=>
    obtain ⟨t,rfl⟩:=rx;cases y with
    | non=>cases ry;exact PySem.EqNone.eq_str_none (Az I q (by simp))
    | bl j=>cases ry;exact PySem.EqMixed.eq_str_bool (Az I q (by simp))
    | int j=>obtain ⟨t',rfl⟩:=ry;exact PySem.EqMixed.eq_str_int (Az I q (by simp))
    | str j=>obtain ⟨t',rfl⟩:=ry;exact eq_str (Az I q Jy)
    | _=>exact absurd (show false=true from hs) Bool.false_ne_true
  | byt i=>
    obtain ⟨t,rfl⟩:=rx;cases y with
    | byt j=>obtain ⟨t',rfl⟩:=ry;exact PySem.W.eq_bytes (Az I q JH)
    | _=>exact absurd (show false=true from hs) Bool.false_ne_true
  | _=>cases y <;> exact absurd (show false=true from hs) Bool.false_ne_true
theorem Ik:OpR X (compareOp .NotEq) rNe:=by
  intro pins s σ H x y v u Q I rx ry h;obtain ⟨hs,q⟩:=h;cases x with
  | non=>
    cases rx;cases y with
    | non=>cases ry;exact PySem.EqNone.ne_none_none (Az I q (by simp))
    | bl j=>cases ry;exact PySem.EqNone.ne_none_bool (Az I q (by simp))
    | int j=>obtain ⟨t',rfl⟩:=ry;exact PySem.EqNone.ne_none_int (Az I q (by simp))
    | str j=>obtain ⟨t',rfl⟩:=ry;exact PySem.EqNone.ne_none_str (Az I q (by simp))
    | _=>exact absurd (show false=true from hs) Bool.false_ne_true
  | bl i=>
    cases rx;cases y with
    | non=>cases ry;exact PySem.EqNone.ne_bool_none (Az I q (by simp))
    | bl j=>cases ry;exact ne_bool (Az I q (congrArg not Lc))
    | str j=>obtain ⟨t',rfl⟩:=ry;exact PySem.EqMixed.ne_bool_str (Az I q (by simp))
    | _=>exact absurd (show false=true from hs) Bool.false_ne_true
  | int i=>
    obtain ⟨t,rfl⟩:=rx;cases y with
    | non=>cases ry;exact PySem.EqNone.ne_int_none (Az I q (by simp))
    | int j=>obtain ⟨t',rfl⟩:=ry;exact ne_int (Az I q (congrArg not Jo))
    | str j=>obtain ⟨t',rfl⟩:=ry;exact PySem.EqMixed.ne_int_str (Az I q (by simp))
    | _=>exact absurd (show false=true from hs) Bool.false_ne_true
  | str i=>
    obtain ⟨t,rfl⟩:=rx;cases y with
    | non=>cases ry;exact PySem.EqNone.ne_str_none (Az I q (by simp))
    | bl j=>cases ry;exact PySem.EqMixed.ne_str_bool (Az I q (by simp))
    | int j=>obtain ⟨t',rfl⟩:=ry;exact PySem.EqMixed.ne_str_int (Az I q (by simp))
    | str j=>obtain ⟨t',rfl⟩:=ry;exact ne_str (Az I q (congrArg not Jy))
    | _=>exact absurd (show false=true from hs) Bool.false_ne_true
  | byt i=>
    obtain ⟨t,rfl⟩:=rx;cases y with
    | byt j=>obtain ⟨t',rfl⟩:=ry;exact PySem.W.ne_bytes (Az I q (congrArg not JH))
    | _=>exact absurd (show false=true from hs) Bool.false_ne_true
  | _=>cases y <;> exact absurd (show false=true from hs) Bool.false_ne_true
theorem IC:OpR X (compareOp .Lt) (rI0 λ i j=> .bl (decide (i<j))):=OF λ _ _ _ _ _ _ _ q=>lt_int q
theorem N8:OpR X (compareOp .LtE) (rI0 λ i j=> .bl (decide (i<=j))):=OF λ _ _ _ _ _ _ _ q=>le_int q
theorem PZ:OpR X (compareOp .Gt) (rI0 λ i j=> .bl (decide (j<i))):=OF λ _ _ _ _ _ _ _ q=>gt_int q
theorem Ks:OpR X (compareOp .In) (λ x y H Q=>∃ i j,x= .str i/\y= .str j/\Q (.bl (!(Builtin.Str.occurrences j i 0 j.length 1).isEmpty)) H):=by
  intro pins s σ H x y v u Q I rx ry h;obtain ⟨i,j,rfl,rfl,q⟩:=h;obtain ⟨t,rfl⟩:=rx;obtain ⟨t',rfl⟩:=ry;exact in_str (Az I q rfl)
theorem Nl:OpR X (compareOp .IsNot) (λ x y H Q=>y= .non/\Q (.bl (!decide (x= .non))) H):=by
  intro pins s σ H x y v u Q I rx ry h;obtain ⟨rfl,q⟩:=h;cases ry;refine isnot_none_gen (Az I q ?_);cases x <;> first
    | (cases rx;rfl)
    | (obtain ⟨t,rfl⟩:=rx;rfl)
theorem AN (b:Expr) {op:CmpOp} (h:op≠ .In:=by decide) (h2:op≠ .NotIn:=by decide):behindInMarks op b=false:=by
  have e1:(op == CmpOp.In)=false:=by cases op <;> first | rfl | exact absurd rfl h
  have e2:(op == CmpOp.NotIn)=false:=by cases op <;> first | rfl | exact absurd rfl h2
  cases b <;> simp [behindInMarks,e1,e2]
theorem BL {op:CmpOp} {r:R2} (ho:OpR X (compareOp op) r) (ha:PE X a ta) (hb:PE X b tb) (hm:behindInMarks op b=false):PE X (.Compare a [op] [b] pos) (tOp r ta tb):=by
  intro pins s σ H Q I h;exact wpAny_Compare1 (Pf ha hb I h λ v u s2 x y H2 I2 rx ry q=>ho pins s2 σ H2 x y v u Q I2 rx ry q) hm
def Os (t:TE):TT:=λ σ H Q=>t σ H λ x H'=>∃ k,x= .bl k/\Q k H'
theorem AT {op:CmpOp} {r:R2} (ho:OpR X (compareOp op) r) (ha:PE X a ta) (hb:PE X b tb) (hm:behindInMarks op b=false):PT X (.Compare a [op] [b] pos) (Os (tOp r ta tb)):=by
  intro pins s σ H Q I h;refine wpAny_isTrue_Compare1 (thn (ha pins s σ H _ I h) λ v s1 ⟨x,H1,I1,r1,q1⟩=>thn (hb pins s1 σ H1 _ I1 q1) λ u s2 ⟨y,H2,I2,r2,q2⟩=>
    thn (ho pins s2 σ H2 x y v u _ I2 r1 r2 q2) λ c s3 ⟨z,H3,I3,r3,k,e,q3⟩=> ?_) hm
  subst e;cases r3;exact wpAny_truthy_bool ⟨H3,I3,q3⟩
def My (r r':R2) (ta tb tc:TE):TE:=λ σ H Q=>ta σ H λ x H1=>tb σ H1 λ y H2=>r x y H2 λ z H3=>∃ k,z= .bl k/\
  (if k=true then tc σ H3 λ w' H4=>r' y w' H4 Q else Q (.bl false) H3)
theorem Mc {op op':CmpOp} {r r':R2} (ho:OpR X (compareOp op) r) (ho':OpR X (compareOp op') r') (ha:PE X a ta) (hb:PE X b tb) (hc:PE X c tc)
    (hm:lastMarks [op,op'] [b,c]=false:=by with_unfolding_all rfl):PE X (.Compare a [op,op'] [b,c] pos) (My r r' ta tb tc):=by
  intro pins s σ H Q I h;refine Compare_chain (thn (ha pins s σ H _ I h) λ v s1 ⟨x,H1,I1,r1,q1⟩=>chain_link (thn (hb pins s1 σ H1 _ I1 q1) λ u s2 ⟨y,H2,I2,r2,q2⟩=>
    thn (ho pins s2 σ H2 x y v u _ I2 r1 r2 q2) λ d s3 ⟨z,H3,I3,r3,k,e,q3⟩=> ?_)) hm
  subst e;cases r3;refine wpAny_truthy_bool ?_;cases k with
  | false=>exact ite_ff ⟨.bl false,H3,I3,rfl,q3⟩
  | true=>exact ite_tt (chain_last (thn (hc pins s3 σ H3 _ I3 q3) λ w' s4 ⟨z',H4,I4,r4,q4⟩=>ho' pins s4 σ H4 y z' u w' Q I4 r2 r4 q4))
def T4 (K:PySem.W.Frag) (x:V) (H:Hp) (k:Bool):Prop:=
  match x with
  | .non=>k=false
  | .bl b=>k=b
  | .int i=>k=(i != 0)
  | .str y=>y.length<=sizeLine/\k=((y.length:Int) != 0)
  | .byt y=>y.size<=sizeLine/\k=((y.size:Int) != 0)
  | .ref p=>(∃ xs,SqL K H p xs/\k= !xs.isEmpty)\/(∃ xs,SqT K H p xs/\k= !xs.isEmpty)\/∃ kvs,H p=some (.dK kvs)/\k= !kvs.isEmpty
  | _=>False
theorem IZ {κ:Type} {kvs:List (κ × V)} {vs:List (κ × Value)} (r:KV kvs vs):(!vs.isEmpty)= !kvs.isEmpty:=by
  cases r <;> rfl
theorem FL {xs:List V} {its:List Value} (r:Vals xs its):(!its.toArray.isEmpty)= !xs.isEmpty:=by
  cases r <;> simp
theorem EN:(sizeLine:Nat)<2 ^ 63:=by rw [sizeLine_eq];decide
theorem T3:Tw X (λ x H Q=>∃ k,T4 X.K x H k/\Q k H):=by
  intro pins s σ H x v Q I rx h;obtain ⟨k,e,q⟩:=h;have hl:=EN;have hs:sizeLine=16777216:=sizeLine_eq;cases x with
  | non=>
    cases rx;have e':k=false:=e;subst e';exact truthy_none ⟨H,I,q⟩
  | bl b=>
    cases rx;have e':k=b:=e;subst e';exact wpAny_truthy_bool ⟨H,I,q⟩
  | int i=>
    obtain ⟨t,rfl⟩:=rx;have e':k=(i != 0):=e;subst e';exact PySem.P.truthy_int ⟨H,I,q⟩
  | str y=>
    obtain ⟨t,rfl⟩:=rx;obtain ⟨hy,e'⟩:y.length<=sizeLine/\k=((y.length:Int) != 0):=e;subst e';exact PySem.P.truthy_str (by omega) ⟨H,I.tok _,q⟩
  | byt y=>
    obtain ⟨t,rfl⟩:=rx;obtain ⟨hy,e'⟩:y.size<=sizeLine/\k=((y.size:Int) != 0):=e;subst e';exact PySem.W.truthy_bytes (by omega) ⟨H,I.tok _,q⟩
  | ref p=>
    cases rx;have e':(∃ xs,SqL X.K H p xs/\k= !xs.isEmpty)\/(∃ xs,SqT X.K H p xs/\k= !xs.isEmpty)\/∃ kvs,H p=some (.dK kvs)/\k= !kvs.isEmpty:=e;rcases e' with ⟨xs,hx,e'⟩ | ⟨xs,hx,e'⟩ | ⟨kvs,hx,e'⟩
    · subst e';obtain ⟨its,r,pl,hz⟩:=I.list hx;have hlen:=r.length;exact wpAny_truthy_list pl.isList (by simp only [List.size_toArray];omega) ⟨H,I.tok _,by rw [FL r];exact q⟩
    · subst e';obtain ⟨its,r,pl,hz⟩:=I.tuple hx;have hlen:=r.length;exact truthy_tuple pl (by simp only [List.size_toArray];omega) ⟨H,I.tok _,by rw [FL r];exact q⟩
    · subst e';obtain ⟨hz,hS,vs,r,m⟩:kvs.length<=sizeLine/\(p == sysModules)=false/\∃ vs,KV kvs vs/\s.heap.DictOf (AV X.prog X.w) p vs:=I.hok p _ hx;have hlen:kvs.length=vs.length:=Paired.length r;exact wpAny_truthy_dict hS m (by omega) ⟨H,I.tok _,by rw [IZ r];exact q⟩
  | _=>exact (show False from e).elim
theorem FK {x:V} {us:List Value} (r:Vals [x] us):∃ u,us=[u]/\RelV x u:=by
  cases r with
  | cons r1 r2=>cases r2;exact ⟨_,rfl,r1⟩
theorem JK {x y:V} {us:List Value} (r:Vals [x,y] us):∃ u w',us=[u,w']/\RelV x u/\RelV y w':=by
  cases r with
  | cons r1 r2=>
    cases r2 with
    | cons r3 r4=>cases r4;exact ⟨_,_,rfl,r1,r3⟩
theorem Kb:Bt X (.type "int") (λ xs H Q=>(∃ i,xs=[.int i]/\Q (.int i) H)\/∃ k,xs=[.bl k]/\Q (.int (if k then 1 else 0)) H):=by
  intro pins s σ H xs us Q I r h;rcases h with ⟨i,rfl,q⟩ | ⟨k,rfl,q⟩
  · obtain ⟨u,rfl,t,rfl⟩:=FK r;exact call_int_int ⟨.int i,H,I,⟨_,rfl⟩,q⟩
  · obtain ⟨u,rfl,r1⟩:=FK r;cases r1;exact call_int_bool ⟨.int (if k then 1 else 0),H,I.tok _,⟨_,rfl⟩,q⟩
def Qd (K:PySem.W.Frag) (x:V) (H:Hp) (n:Nat):Prop:=
  match x with
  | .str y=>y.length<=sizeLine/\n=y.length
  | .byt y=>y.size<=sizeLine/\n=y.size
  | .ref p=>(∃ xs,SqL K H p xs/\n=xs.length)\/∃ xs,SqT K H p xs/\n=xs.length
  | _=>False
theorem LP:Bt X (.builtin "len") (λ xs H Q=>∃ x n,xs=[x]/\Qd X.K x H n/\Q (.int n) H):=by
  intro pins s σ H xs us Q I r h;obtain ⟨x,n,rfl,e,q⟩:=h;obtain ⟨u,rfl,rx⟩:=FK r;have hl:=EN;have hs:sizeLine=16777216:=sizeLine_eq;cases x with
  | str y=>
    obtain ⟨t,rfl⟩:=rx;obtain ⟨hy,e'⟩:y.length<=sizeLine/\n=y.length:=e;subst e';exact len_str (by omega) ⟨.int _,H,I.tok _,⟨_,rfl⟩,q⟩
  | byt y=>
    obtain ⟨t,rfl⟩:=rx;obtain ⟨hy,e'⟩:y.size<=sizeLine/\n=y.size:=e;subst e';exact PySem.W.len_bytes (by omega) ⟨.int _,H,I.tok _,⟨_,rfl⟩,q⟩
  | ref p=>
    cases rx;have e':(∃ xs,SqL X.K H p xs/\n=xs.length)\/∃ xs,SqT X.K H p xs/\n=xs.length:=e;rcases e' with ⟨xs,hx,e'⟩ | ⟨xs,hx,e'⟩
    · subst e';obtain ⟨its,r',pl,hz⟩:=I.list hx;have hlen:=r'.length;exact Calls.call_len_list pl.isList (by simp only [List.size_toArray];omega) ⟨.int xs.length,H,I.tok _,⟨_,by simp only [List.size_toArray];rw [hlen]⟩,q⟩
    · subst e';obtain ⟨its,r',pl,hz⟩:=I.tuple hx;have hlen:=r'.length;exact len_tuple pl (by simp only [List.size_toArray];omega) ⟨.int xs.length,H,I.tok _,⟨_,by simp only [List.size_toArray];rw [hlen]⟩,q⟩
  | _=>exact (show False from e).elim
end
structure ObjM (h:Heap) (x dx C:Addr) (mA:Str->Option Value):Prop where
  obj:h.get? x=some (PySem.W.instObj C dx)
  ns:h.Ns1 dx mA
  ne:dx≠x
theorem J8 {h:Heap} {dx:Addr} {mA:Str->Option Value} (n:h.Ns1 dx mA):∃ od,h.get? dx=some od/\∀ name,PySem.W.lookIn name od=some (mA name):=by
  obtain ⟨o,es,ep,ho,hd,hk,_,hm⟩:=n;refine ⟨o,ho,λ name=> ?_⟩;have e:=hm name;unfold nsFind findBy at e;rw [<-Array.find?_toList] at e;unfold PySem.W.lookIn;rw [hd];dsimp only;split
  · rename_i y q
    rw [q] at e;exact congrArg some e
  · rename_i q
    rw [q] at e;have a:es.toList.any (·.refKey)=false:=by
      rw [List.any_eq_false];intro y hy;obtain ⟨z,t,hkey⟩:=hk y (Array.mem_toList_iff.mp hy);simp [DictEntry.refKey,hkey]
    have a':¬ es.toList.any (·.refKey)=true:=by rw [a];exact Bool.false_ne_true
    rw [if_neg a'];exact congrArg some e
theorem ObjM.look {h:Heap} {x dx C:Addr} {mA:Str->Option Value} (I:ObjM h x dx C mA):∃ od,PySem.W.InstAt h x (PySem.W.instObj C dx) C (some od)/\∀ name,PySem.W.lookIn name od=some (mA name):=
  let ⟨od,ho,hl⟩:=J8 I.ns
  ⟨od,⟨I.obj,rfl,rfl,ho⟩,hl⟩
section
variable {prog:Program} {w:World} {A:Around} {E:Value->Shared->Prop} {s:Shared} {K:PySem.W.Frag} {x dx C f:Addr} {mA:Str->Option Value} {name:Str} {v:Value}
theorem Nf {expr:Bool} {Q:Value->Shared->Prop} (X:K.In s.heap) (I:ObjM s.heap x dx C mA) (hg:PySem.W.plainGet K C name=true) (hh:PySem.W.hasDictIn K C=true)
    (ha:PySem.W.findIn K (.ref C) name=some none) (hv:mA name=some v) (hv':PySem.W.handedIn v=true) (h:Q v { s with toks:=s.toks+1 }):
    wpAny (model prog w) A (getAttr (.ref x) name expr) Q E s:=by
  obtain ⟨od,J,hl⟩:=I.look;exact PySem.W.get_value X J (PySem.W.plainGet_of hg).1 (PySem.W.findObj_own hh ha rfl (by rw [hl,hv])) hv' h
theorem Mg {pl:Sem Bool} {Q:Value × List Value->Shared->Prop} (X:K.In s.heap) (I:ObjM s.heap x dx C mA) (hg:PySem.W.plainGet K C name=true)
    (hf:PySem.W.findIn K (.ref C) name=some (some (.ref f))) (ht:PySem.W.isFn K (.ref f)=true) (hv:mA name=none) (h:Q (.ref f,[.ref x]) s):
    wpAny (model prog w) A (getMethod (.ref x) name pl) Q E s:=by
  obtain ⟨od,J,hl⟩:=I.look;exact PySem.W.method_fn X J (PySem.W.plainGet_of hg).1 (PySem.W.plainGet_of hg).2 hf (beq_iff_eq.mp ht) (by show (PySem.W.lookIn name od).map (·.isSome)=some false;rw [hl,hv];rfl) h
theorem MW {ns:List Str} {Q:Unit->Shared->Prop} (X:K.In s.heap) (I:ObjM s.heap x dx C mA)
    (hs:PySem.W.findIn K (.ref C) "__setattr__"=some (some (.builtin "object.__setattr__"))) (hp:PySem.W.plainOver K C=true) (ht:PySem.W.takerIn K C name=some none) (hh:PySem.W.hasDictIn K C=true)
    (hw:PySem.Within mA ns) (hsz:ns.length<=sizeLine)
    (h:∀ h',ObjM h' x dx C (λ y=>if y=name then some v else mA y)->Heap.SameBut dx s.heap h'->Q () { s with heap:=h',toks:=s.toks+2 }):
    wpAny (model prog w) A (setAttr (.ref x) name v) Q E s:=by
  obtain ⟨od,J,hl⟩:=I.look;refine PySem.W.set_plain X J hs (PySem.W.osa_open (s:={ s with toks:=s.toks+1 }) (r:=none) X J hp ht λ b=> ?_);obtain ⟨cd,hc,hd'⟩:=PySem.W.any_some hh;have hx:s.heap.get? x=some ⟨.ref C,some dx, .plain, #[]⟩:=I.obj;refine wpAny_bind (wpAny_pure (wpAny_bind (wpAny_bind (wpAny_loadPart hx (wpAny_bind (PySem.W.Looks.here (s:={ s with toks:=s.toks+1 }) (PySem.W.looks_clsIn X hc) ?_))))));rw [hd'];refine wpAny_pure (a:=some dx) (wpAny_bind (wpAny_pure (wpAny_bind ?_)));refine wpAny_nsSet1 (s:={ s with toks:=s.toks+1 }) I.ns λ h' hn2 hs2=> ?_;obtain ⟨oD,esD,epD,hoD,hdD,hcD⟩:=hn2.count (PySem.Within.cons name v hw);refine wpAny_bind (wpAny_lookBehind hoD (by rw [hdD];exact pastItsLine_dict (Nat.le_trans hcD (by rw [List.length_cons];omega))) ?_);exact wpAny_pure (h _ ⟨(hs2.2 _ (Ne.symm I.ne)).trans I.obj,hn2,I.ne⟩ hs2)
theorem Lw {R:Result->Shared->Prop} {vs:List Value} {kw:List (Str × Value)} (X:K.In s.heap) (hm:PySem.W.makesIn K C=true)
    (hi:PySem.W.findIn K (.ref C) "__init__"=some (some (.ref f))) (hf:PySem.W.typeIn K (.ref f)=some (.type "function"))
    (h:codeAny (model prog w) (A.under (.builtin "type.__call__" ⟨.ref C::vs,kw⟩)) (.call (.ref f) ⟨.ref (s.heap.objs.size+1)::vs,kw⟩) (PySem.W.InitBack (s.heap.objs.size+1) R)
      { s with heap:=(s.heap.push PySem.W.emptyDict).push (PySem.W.instObj C s.heap.objs.size) }):
    codeAny (model prog w) A (.call (.ref C) ⟨vs,kw⟩) R s:=by
  obtain ⟨hh,g,d,t,os⟩:=s;exact PySem.W.make_core (PySem.W.makes_of X hm) (PySem.W.looks_findIn X hi) (λ self=>PySem.W.bind_fn X self hf) (.inl rfl) h
end
def AQ (f:Str) (v:V):List (Str × V)->List (Str × V)
  | []=>[(f,v)]
  | (g,x)::r=>if g=f then (g,v)::r else (g,x)::AQ f v r
theorem Dh (f g:Str) (v:V):∀ fs:List (Str × V),(AQ f v fs).lookup g=if g=f then some v else fs.lookup g
  | []=>by
    show List.lookup g [(f,v)]=_;by_cases h:g=f
    · have hb:(g == f)=true:=beq_iff_eq.mpr h;simp only [List.lookup,hb,if_pos h]
    · have hb:(g == f)=false:=beq_eq_false_iff_ne.mpr h;simp only [List.lookup,hb,if_neg h]
  | (k,x)::r=>by
    have ih:=Dh f g v r;rw [show AQ f v ((k,x)::r)=(if k=f then (k,v)::r else (k,x)::AQ f v r) from rfl];by_cases hk:k=f
    · rw [if_pos hk];by_cases h:g=k
      · have hb:(g == k)=true:=beq_iff_eq.mpr h;simp only [List.lookup,hb,if_pos (h.trans hk)]
      · have hb:(g == k)=false:=beq_eq_false_iff_ne.mpr h;simp only [List.lookup,hb,if_neg (λ e:g=f=>h (e.trans hk.symm))]
    · rw [if_neg hk];by_cases h:g=k
      · have hb:(g == k)=true:=beq_iff_eq.mpr h;simp only [List.lookup,hb,if_neg (λ e:g=f=>hk (h.symm.trans e))]
      · have hb:(g == k)=false:=beq_eq_false_iff_ne.mpr h;simp only [List.lookup,hb];exact ih
theorem Cq (f:Str) (v:V):∀ fs:List (Str × V),f∈(AQ f v fs).map (·.1)/\∀ g,g∈fs.map (·.1)->g∈(AQ f v fs).map (·.1)
  | []=>⟨by simp [AQ],λ g h=>by simp at h⟩
  | (k,x)::r=>by
    obtain ⟨i1,i2⟩:=Cq f v r;rw [show AQ f v ((k,x)::r)=(if k=f then (k,v)::r else (k,x)::AQ f v r) from rfl];by_cases hk:k=f
    · rw [if_pos hk];subst hk;exact ⟨by simp,λ g h=>by simpa using h⟩
    · rw [if_neg hk];refine ⟨?_,λ g h=> ?_⟩
      · rw [List.map_cons];exact List.mem_cons_of_mem _ i1
      · rw [List.map_cons] at h ⊢;rcases List.mem_cons.mp h with e | e
        · exact List.mem_cons.mpr (.inl e)
        · exact List.mem_cons_of_mem _ (i2 g e)
theorem E7 (f:Str) (v:V):∀ fs:List (Str × V),(AQ f v fs).length<=fs.length+1
  | []=>by simp [AQ]
  | (k,x)::r=>by
    have ih:=E7 f v r;rw [show AQ f v ((k,x)::r)=(if k=f then (k,v)::r else (k,x)::AQ f v r) from rfl];by_cases hk:k=f
    · rw [if_pos hk,List.length_cons,List.length_cons];omega
    · rw [if_neg hk,List.length_cons,List.length_cons];omega
theorem RelO.some_of {v:V} {o:Option Value} (r:RelO (some v) o):∃ u,o=some u/\RelV v u:=by
  cases o with
  | none=>exact (show False from r).elim
  | some u=>exact ⟨u,rfl,r⟩
theorem RelO.none_of {o:Option Value} (r:RelO none o):o=none:=by
  cases o with
  | none=>rfl
  | some u=>exact (show False from r).elim
theorem GF {v:V} {u:Value} (r:RelV v u):PySem.W.handedIn u=true:=by
  cases v with
  | non=>cases (show u=Value.none from r);rfl
  | bl b=>cases (show u=Value.bool b from r);rfl
  | int i=>obtain ⟨t,e⟩:=(show ∃ t,u=Value.int i t from r);cases e;rfl
  | str x=>obtain ⟨t,e⟩:=(show ∃ t,u=Value.str x t from r);cases e;rfl
  | byt b=>obtain ⟨t,e⟩:=(show ∃ t,u=Value.bytes b t from r);cases e;rfl
  | flt b=>obtain ⟨t,e⟩:=(show ∃ t,u=Value.float b t from r);cases e;rfl
  | ref a=>cases (show u=Value.ref a from r);rfl
  | ty n=>cases (show u=Value.type n from r);rfl
section
variable {P:Program} {w:World} {H H':Hp} {h h':Heap} {a C dx:Addr} {fs fs':List (Str × V)}
theorem EF (hok:HOk P w H h) (e:H a=some (.ins C dx fs)):∃ mA,ObjM h a dx C mA/\(∀ f,RelO (fs.lookup f) (mA f))/\PySem.Within mA (fs.map (·.1))/\fs.length<=1000/\H dx=some (.own a):=by
  obtain ⟨d,z,ne,ob,mA,n,r,q⟩:=(show ObjOk P w H h a (.ins C dx fs) from hok a _ e);exact ⟨mA,⟨ob,n,ne⟩,r,q,z,d⟩
end
structure Cls (K:PySem.W.Frag) (C:Addr):Prop where
  pg:PySem.W.plainGet K C Str.empty=true
  hd:PySem.W.hasDictIn K C=true
  po:PySem.W.plainOver K C=true
  sa:PySem.W.findIn K (.ref C) "__setattr__"=some (some (.builtin "object.__setattr__"))
theorem Cls.get {K:PySem.W.Frag} {C:Addr} (c:Cls K C) (f:Str):PySem.W.plainGet K C f=true:=c.pg
def NoAttr (K:PySem.W.Frag) (C:Addr) (f:Str):Prop:=PySem.W.findIn K (.ref C) f=some none
theorem NoAttr.taker {K:PySem.W.Frag} {C:Addr} {f:Str} (n:NoAttr K C f):PySem.W.takerIn K C f=some none:=by
  unfold PySem.W.takerIn;rw [show PySem.W.findIn K (.ref C) f=some none from n];rfl
structure Con (K:PySem.W.Frag) (C:Addr) (f:Str) (v:V) (u:Value):Prop where
  at_:PySem.W.findIn K (.ref C) f=some (some u)
  rel:RelV v u
  get:PySem.W.specialIn K u "__get__"=some none
  cp:PySem.W.copiedNames.contains f=false
structure Meth (K:PySem.W.Frag) (C:Addr) (m:Str) (f:Addr):Prop where
  at_:PySem.W.findIn K (.ref C) m=some (some (.ref f))
  fn:PySem.W.isFn K (.ref f)=true
  kp:PySem.W.keepIn K (.ref f)=true
section
variable {X:Cx} {pins:List (Addr × Obj)} {σ:St} {H:Hp} {s:Shared} {a C dx:Addr} {fs:List (Str × V)} {f:Str} {v:V} {A:Around} {E:Value->Shared->Prop}
theorem IY {b:Bool} {Q:Value->Shared->Prop} (I:Inv X pins σ H s) (e:H a=some (.ins C dx fs)) (c:Cls X.K C) (n:NoAttr X.K C f) (l:fs.lookup f=some v)
    (h:∀ u s',Inv X pins σ H s'->RelV v u->Q u s'):wpAny (model X.prog X.w) A (getAttr (.ref a) f b) Q E s:=by
  obtain ⟨mA,O,r,_,_,_⟩:=EF I.hok e;obtain ⟨u,hu,ru⟩:=RelO.some_of (v:=v) (o:=mA f) (by rw [<-l];exact r f);exact Nf I.kIn O (c.get f) c.hd n hu (GF ru) (h u _ (I.tok _) ru)
theorem Ei {m:Str} {g:Addr} {pl:Sem Bool} {Q:Value × List Value->Shared->Prop} (I:Inv X pins σ H s) (e:H a=some (.ins C dx fs)) (c:Cls X.K C) (k:Meth X.K C m g) (l:fs.lookup m=none)
    (h:Q (.ref g,[.ref a]) s):wpAny (model X.prog X.w) A (getMethod (.ref a) m pl) Q E s:=by
  obtain ⟨mA,O,r,_,_,_⟩:=EF I.hok e;have hn:mA m=none:=RelO.none_of (by rw [<-l];exact r m);exact Mg I.kIn O (c.get m) k.at_ k.fn hn h
theorem ID {y:V} {u:Value} {Q:Unit->Shared->Prop} (I:Inv X pins σ H s) (e:H a=some (.ins C dx fs)) (c:Cls X.K C) (n:NoAttr X.K C f) (hl:fs.length<1000) (ry:RelV y u)
    (h:∀ s',Inv X pins σ (upd H a (.ins C dx (AQ f y fs))) s'->Q () s'):wpAny (model X.prog X.w) A (setAttr (.ref a) f u) Q E s:=by
  obtain ⟨mA,O,r,wi,_,ho⟩:=EF I.hok e;have hz:(fs.map (·.1)).length<=sizeLine:=by rw [List.length_map,sizeLine_eq];omega
  refine MW I.kIn O c.sa c.po n.taker c.hd wi hz λ h' O' sb=>h _ ?_;have hd:∃ o,h'.get? dx=some o:=let ⟨o,_,_,e',_⟩:=O'.ns;⟨o,e'⟩;refine I.write (x:=a) (e:=dx) (by rw [e];exact True.intro) (.inr ho) (λ b q hb z=>(sb.2 b hb).trans z) hd ?_;refine ⟨by rw [Af O.ne];exact ho,?_,O.ne,O'.obj,_,O'.ns,λ g=> ?_,λ g hg=> ?_⟩
  · have:=E7 f y fs;omega
  · show RelO ((AQ f y fs).lookup g) (if g=f then some u else mA g);rw [Dh];by_cases q:g=f
    · rw [if_pos q,if_pos q];exact ry
    · rw [if_neg q,if_neg q];exact r g
  · by_cases q:g=f
    · rw [q];exact (Cq f y fs).1
    · refine (Cq f y fs).2 g (wi g λ z=>hg ?_);show (if g=f then some u else mA g)=none;rw [if_neg q];exact z
theorem Inv.made (I:Inv X pins σ H s):Inv X pins σ (upd (upd H s.heap.objs.size (.own (s.heap.objs.size+1))) (s.heap.objs.size+1) (.ins C s.heap.objs.size []))
    { s with heap:=(s.heap.push PySem.W.emptyDict).push (PySem.W.instObj C s.heap.objs.size) }:=by
  have e1:(s.heap.push PySem.W.emptyDict).get? s.heap.objs.size=some PySem.W.emptyDict:=Heap.get?_push_size s.heap rfl;have e2:((s.heap.push PySem.W.emptyDict).push (PySem.W.instObj C s.heap.objs.size)).get? (s.heap.objs.size+1)=some (PySem.W.instObj C s.heap.objs.size):=by
    have:=Heap.get?_push_size (s.heap.push PySem.W.emptyDict) (o:=PySem.W.instObj C s.heap.objs.size) rfl
    rwa [Heap.size_push] at this
  have e3:(s.heap.push PySem.W.emptyDict).Ns s.heap.objs.size (λ _=>none):=⟨PySem.W.emptyDict, #[],_,e1,rfl,(λ e he=>absurd he (by simp)),λ _=>rfl⟩;have I1:=I.laid (a:=s.heap.objs.size) (o:= .own (s.heap.objs.size+1)) (h':=s.heap.push PySem.W.emptyDict) (t':=s.toks) (λ b u q=>Heap.get?_push_of_some _ q) (Nat.le_refl _) ⟨_,e1⟩;refine I1.laid (a:=s.heap.objs.size+1) (o:= .ins C s.heap.objs.size []) (t':=s.toks) (λ b u q=>Heap.get?_push_of_some _ q) (Nat.le_of_eq (Heap.size_push _ _)) ?_;have ne:s.heap.objs.size≠s.heap.objs.size+1:=Nat.ne_of_lt (Nat.lt_succ_self _);refine ⟨by rw [Af ne,Ac],Nat.zero_le _,ne,e2,λ _=>none,(Heap.Ns1.of_empty e3).at λ o q=>Heap.get?_push_of_some _ q,λ _=>True.intro,λ y hy=>absurd rfl hy⟩
theorem JQ {prog:Program} {w:World} {env:Env} {e:Expr} {f:Str} {pos:Pos} {s:Shared} {Q:Value->Shared->Prop} (hb:attributeBase e f env (eval e env)=eval e env)
    (h:wpAny (model prog w) A (eval e env) (λ o s₁=>wpAny (model prog w) A (getAttr o f true) Q E s₁) E s):wpAny (model prog w) A (eval (.Attribute e f pos) env) Q E s:=
  Attribute_any_ h (by rw [arm_eval_Attribute,hb])
end
def Px (K:PySem.W.Frag) (ta:TE) (f:Str):TE:=λ σ H Q=>ta σ H λ x H1=>∃ a C dx fs v,x= .ref a/\H1 a=some (.ins C dx fs)/\Cls K C/\NoAttr K C f/\fs.lookup f=some v/\Q v H1
def Sw (K:PySem.W.Frag) (ta tv:TE) (f:Str):TS:=λ D σ H=>tv σ H λ y H1=>ta σ H1 λ x H2=>∃ a C dx fs,x= .ref a/\H2 a=some (.ins C dx fs)/\Cls K C/\NoAttr K C f/\fs.length<1000/\
  D.nx σ (upd H2 a (.ins C dx (AQ f y fs)))
section
variable {X:Cx} {o e value:Expr} {f:Str} {pos pos' tpos:Pos} {ta tv:TE}
theorem Pm (he:PE X e ta) (hb:attributeBase e f X.env (eval e X.env)=eval e X.env):PE X (.Attribute e f pos) (Px X.K ta f):=by
  intro pins s σ H Q I h;refine JQ hb (thn (he pins s σ H _ I h) λ u s1 ⟨x,H1,I1,rx,a,C,dx,fs,v,ex,ea,c,n,l,q⟩=> ?_);subst ex;obtain rfl:u=Value.ref a:=rx;exact IY I1 ea c n l λ u' s2 I2 ru=>⟨v,H1,I2,ru,q⟩
theorem Ed (ha:PE X o ta) (hv:PE X value tv) (hs:swapsWith value (some (.Attribute o f pos')) pos.line X.env=pure false):PS X (.Assign [.Attribute o f pos'] value pos) (Sw X.K ta tv f):=by
  intro pins s σ H D I h;refine plainObj_wpAny_Assign_Attribute (thn (hv pins s σ H _ I h) λ u s1 ⟨y,H1,I1,ry,q⟩=>thn (ha pins s1 σ H1 _ I1 q) λ ov s2 ⟨x,H2,I2,rx,a,C,dx,fs,ex,ea,c,n,l,q2⟩=> ?_) hs;subst ex;obtain rfl:ov=Value.ref a:=rx;exact ID I2 ea c n l ry λ s3 I3=>⟨σ,_,I3,q2⟩
theorem Om {pl:Sem Bool} {m:Str} {apos:Pos} {args:List Expr} {pins:List (Addr × Obj)} {s:Shared} {σ:St} {H:Hp} {Q:Value->Shared->Prop} {te:TE} (he:PE X e te) (I:Inv X pins σ H s)
    (h:te σ H λ x H1=>∃ a C dx fs g,x= .ref a/\H1 a=some (.ins C dx fs)/\Cls X.K C/\Meth X.K C m g/\fs.lookup m=none/\
      ∀ s1,Inv X pins σ H1 s1->wpAny (model X.prog X.w) X.A (callWith pos (.ref g) [.ref a] (backTo pos (starEach args X.env)) (backToKw pos (keywordEach [] X.env))) Q X.xe s1)
    (ht:eval (.Call (.Attribute e m apos) args [] pos) X.env=(do
      let ov <-eval e X.env
      standAt apos.atName
      let (f,first) <-holding [ov] (getMethod ov m pl)
      callWith pos f first (backTo pos (starEach args X.env)) (backToKw pos (keywordEach [] X.env)))):
    wpAny (model X.prog X.w) X.A (eval (.Call (.Attribute e m apos) args [] pos) X.env) Q X.xe s:=by
  refine PySem.W.methodCall_KW (pl:=pl) (thn (he pins s σ H _ I h) λ u s1 ⟨x,H1,I1,rx,a,C,dx,fs,g,ex,ea,c,k,l,q⟩=> ?_) ht;subst ex;obtain rfl:u=Value.ref a:=rx;exact Ei I1 ea c k l (q s1 I1)
end
section
variable {X:Cx} {pins:List (Addr × Obj)} {σ:St} {H:Hp} {s:Shared} {A:Around} {E:Value->Shared->Prop} {Q:Value->Shared->Prop} {c:Value} {b:Bool}
inductive TyOf (K:PySem.W.Frag) (H:Hp):V->Value->Prop where
  | non:TyOf K H .non (.type "NoneType")
  | bl (x:Bool):TyOf K H (.bl x) (.type "bool")
  | int (i:Int):TyOf K H (.int i) (.type "int")
  | str (x:Str):TyOf K H (.str x) (.type "str")
  | flt (x:UInt64):TyOf K H (.flt x) (.type "float")
  | lst {a:Addr} {xs:List V} (e:H a=some (.lst xs)):TyOf K H (.ref a) (.type "list")
  | frz {a:Addr} {o:Obj} {xs:List V} (e:H a=some (.frz o (.lst xs))):TyOf K H (.ref a) (.type "list")
  | tup {a:Addr} {xs:List V} (e:H a=some (.tup xs)):TyOf K H (.ref a) (.type "tuple")
  | dK {a:Addr} {kvs:List (Key × V)} (e:H a=some (.dK kvs)):TyOf K H (.ref a) (.type "dict")
  | dT {a:Addr} {kvs:List (List Key × V)} (e:H a=some (.dT kvs)):TyOf K H (.ref a) (.type "dict")
  | ins {a C dx:Addr} {fs:List (Str × V)} (e:H a=some (.ins C dx fs)) (cl:Cls K C) (ha:PySem.W.findIn K (.ref C) "__class__"=some (some (.builtin "object.__class__")))
      (hn:PySem.W.specialIn K (.builtin "object.__class__") "__get__"=some (some (.builtin "getset_descriptor.__get__"))) (htk:PySem.W.takesIn K (.builtin "object.__class__")=some true)
      (hm:PySem.W.mroIn K C (.type "object")=some true):TyOf K H (.ref a) (.ref C)
theorem GN {x:V} {u t:Value} (I:Inv X pins σ H s) (rx:RelV x u) (ty:TyOf X.K H x t) (e:PySem.W.kitOne X.K t c=some b) (h:∀ tk,Q (.bool b) { s with toks:=tk }):
    wpAny (model X.prog X.w) A (call (.builtin "isinstance") [u,c]) Q E s:=by
  cases ty with
  | non=>cases (show u=Value.none from rx);exact PySem.W.kia_one PySem.W.kitx_none I.kIn True.intro e (λ z=>nomatch z) h
  | bl y=>cases (show u=Value.bool y from rx);exact PySem.W.kia_one PySem.W.kitx_bool I.kIn True.intro e (λ z=>nomatch z) h
  | int i=>obtain ⟨t,q⟩:=(show ∃ t,u=Value.int i t from rx);cases q;exact PySem.W.kia_one PySem.W.kitx_int I.kIn True.intro e (λ z=>nomatch z) h
  | str y=>obtain ⟨t,q⟩:=(show ∃ t,u=Value.str y t from rx);cases q;exact PySem.W.kia_one PySem.W.kitx_str I.kIn True.intro e (λ z=>nomatch z) h
  | flt y=>obtain ⟨t,q⟩:=(show ∃ t,u=Value.float y t from rx);cases q;exact PySem.W.kia_one PySem.W.kitx_float I.kIn True.intro e (λ z=>nomatch z) h
  | @lst a xs ea=>
    cases (show u=Value.ref a from rx);obtain ⟨_,_,n,_,h1⟩:=(show ObjOk X.prog X.w H s.heap a (.lst xs) from I.hok a _ ea);exact PySem.W.kia_one PySem.W.kitx_list I.kIn ⟨_,h1,rfl⟩ e (λ z=>nomatch z) h
  | @frz a ob xs ea=>
    cases (show u=Value.ref a from rx);obtain ⟨_,_,_,n,_,h1⟩:=(show ObjOk X.prog X.w H s.heap a (.frz ob (.lst xs)) from I.hok a _ ea);exact PySem.W.kia_one PySem.W.kitx_list I.kIn ⟨_,h1,rfl⟩ e (λ z=>nomatch z) h
  | @tup a xs ea=>
    cases (show u=Value.ref a from rx);obtain ⟨_,_,_,p⟩:=(show ObjOk X.prog X.w H s.heap a (.tup xs) from I.hok a _ ea);obtain ⟨o,h1,h2,_⟩:=p;exact PySem.W.kia_one PySem.W.kitx_tuple I.kIn ⟨o,h1,h2⟩ e (λ z=>nomatch z) h
  | @dK a kvs ea=>
    cases (show u=Value.ref a from rx);obtain ⟨_,_,vs,_,p⟩:=(show ObjOk X.prog X.w H s.heap a (.dK kvs) from I.hok a _ ea);obtain ⟨o,es,ep,h1,h2,_⟩:=p;exact PySem.W.kia_one PySem.W.kitx_dict I.kIn ⟨o,h1,h2.1⟩ e (λ z=>nomatch z) h
  | @dT a kvs ea=>
    cases (show u=Value.ref a from rx);obtain ⟨_,_,xs,_,o,es,ep,h1,h2,_⟩:=(show ObjOk X.prog X.w H s.heap a (.dT kvs) from I.hok a _ ea);exact PySem.W.kia_one PySem.W.kitx_dict I.kIn ⟨o,h1,h2.1⟩ e (λ z=>nomatch z) h
  | @ins a C dx fs ea cl ha hn htk hm=>
    cases (show u=Value.ref a from rx);obtain ⟨mA,O,_⟩:=EF I.hok ea;obtain ⟨od,J,_⟩:=O.look;exact PySem.W.kia_one (PySem.W.kitx_own (cl.get _) cl.hd ha hn htk hm) I.kIn J e (λ z=>nomatch z) h
end
structure Room (k:Nat) (A:Around):Prop where
  hd:A.handled=none
  dp:A.depth+3*k+5<recursionLimit
  un:A.units+16*k+200<cLine
theorem Room.mono {j k:Nat} {A:Around} (r:Room k A) (h:j<=k):Room j A:=⟨r.hd,by have:=r.dp;omega,by have:=r.un;omega⟩
theorem Room.deeper {k:Nat} {A:Around} (r:Room (k+1) A) (env:Env):Room k (A.deeper env):=
  ⟨r.hd,by have:=r.dp;show A.depth+1+3*k+5<_;omega,by have:=r.un;show A.units+3+16*k+200<_;omega⟩
theorem IN {A:Around} {C:Addr} {us:List Value} {kw:List (Str × Value)}:(A.under (.builtin "type.__call__" ⟨.ref C::us,kw⟩)).depth=A.depth+1:=by
  first | rfl | simp [Around.under,Code.weight,Code.isCreation,Code.isGuard,Code.isCaller,Code.frames,Code.isFrame,guardIds]
theorem IQ {A:Around} {C:Addr} {us:List Value} {kw:List (Str × Value)}:(A.under (.builtin "type.__call__" ⟨.ref C::us,kw⟩)).units=A.units+1:=by
  first | rfl | simp [Around.under,Code.cUnits,Code.frames,Code.isFrame]
theorem Room.make {k:Nat} {A:Around} (r:Room (k+1) A) (C:Addr) (us:List Value) (kw:List (Str × Value)):Room k (A.under (.builtin "type.__call__" ⟨.ref C::us,kw⟩)):=
  ⟨r.hd,by have:=r.dp;rw [IN];omega,by have:=r.un;rw [IQ];omega⟩
theorem Room.depth {k:Nat} {A:Around} (r:Room k A):A.depth<recursionLimit:=by have:=r.dp;omega
theorem Room.units {k:Nat} {A:Around} (r:Room k A):A.units+64<cLine:=by have:=r.un;omega
theorem Room.units0 {k:Nat} {A:Around} (r:Room k A):A.units<cLine:=by have:=r.un;omega
def KQ:TA:=λ _ H Q=>Q [] H
def JM (ta:TE) (tr:TA):TA:=λ σ H Q=>ta σ H λ x H1=>tr σ H1 λ xs H2=>Q (x::xs) H2
section
variable {X:Cx} {e:Expr} {es:List Expr} {te:TE} {t:TA} {pos:Pos}
theorem Ab:PA X [] KQ:=λ _ _ _ _ H Q I h=>Calls.spliced_nil ⟨[],H,I, .nil,h⟩
theorem Aa (ha:PE X e te) (hr:PA X es t) (hs:starEach (e::es) X.env=(false,eval e X.env)::starEach es X.env:=by rfl):PA X (e::es) (JM te t):=by
  intro pos pins s σ H Q I h;rw [hs];show wpAny _ _ (spliced ((false,eval e X.env)::backTo pos (starEach es X.env))) _ _ s;refine Calls.spliced_cons (thn (ha pins s σ H _ I h) λ u s1 ⟨x,H1,I1,r1,q1⟩=> ?_);exact thn (hr pos pins s1 σ H1 _ I1 q1) λ us s2 ⟨xs,H2,I2,r2,q2⟩=>⟨x::xs,H2,I2, .cons r1 r2,q2⟩
def Qy (t:TA):TE:=λ σ H Q=>t σ H λ xs H1=>xs.length<=sizeLine/\∀ p,H1 p=none->Q (.ref p) (upd H1 p (.tup xs))
def SV (t:TA):TE:=λ σ H Q=>t σ H λ xs H1=>xs.length<=sizeLine/\∀ p,H1 p=none->Q (.ref p) (upd H1 p (.lst xs))
theorem Bk {x1} (h:PA X es t):PE X (.Tuple es x1 pos) (Qy t):=by
  intro pins s σ H Q I hq;refine wpAny_Tuple_spliced (thn (h pos pins s σ H _ I hq) λ us s1 ⟨xs,H1,I1,r,z,q⟩=>⟨by rw [<-r.length];exact z,?_⟩);have hf:H1 s1.heap.objs.size=none:=I1.hok.fresh (Nat.le_refl _);refine ⟨.ref s1.heap.objs.size,upd H1 s1.heap.objs.size (.tup xs),I1.laid (t':=s1.toks) (λ b u e=>Heap.get?_push_of_some _ e) (Nat.le_refl _) ?_,rfl,q _ hf⟩;exact ⟨z,us,r,⟨_,Heap.get?_push_size _ rfl,rfl,_,rfl⟩⟩
theorem Av (h:PA X es t):PE X (.List es pos) (SV t):=by
  intro pins s σ H Q I hq;refine wpAny_List_spliced (thn (h pos pins s σ H _ I hq) λ us s1 ⟨xs,H1,I1,r,z,q⟩=>⟨by rw [<-r.length];exact z,?_⟩);have hf:H1 s1.heap.objs.size=none:=I1.hok.fresh (Nat.le_refl _);refine ⟨.ref s1.heap.objs.size,upd H1 s1.heap.objs.size (.lst xs),I1.laid (t':=s1.toks) (λ b u e=>Heap.get?_push_of_some _ e) (Nat.le_refl _) ?_,rfl,q _ hf⟩;exact ⟨z,us,0,r,Heap.get?_push_size _ rfl⟩
end
abbrev Sp:=List V->Hp->VK->XK->Prop
abbrev CXT:=List Env->Hp->Shared->XK->Value->Shared->Prop
structure Env0 (P:Program) (w:World) (K:PySem.W.Frag) (mg:Str->Option Value) (base:Heap) (A:Around) (outer:List Env) (s:Shared) (H:Hp):Prop where
  frames:A.frames=some outer
  mod:Mod K mg base
  bs:∀ b o,base.get? b=some o->s.heap.get? b=some o/\H b=none
  bsz:base.objs.size<=s.heap.objs.size
  funs:s.heap.FunFrames base outer
  frf:∀ b∈frs outer,H b=none
  hok:HOk P w H s.heap
  bare:AllBare s.gens
def CE (outer:List Env) (P:Program) (w:World) (H:Hp) (s:Shared) (Q:VK) (u:Value) (s':Shared):Prop:=
  ∃ v H',s'.os=s.os/\AllBare s'.gens/\Un (frs outer) [] H H' s.heap s'.heap/\HOk P w H' s'.heap/\RelV v u/\Q v H'
def CR (CX:CXT) (outer:List Env) (P:Program) (w:World) (H:Hp) (s:Shared) (Q:VK) (E:XK) (r:Result) (s':Shared):Prop:=
  match r with
  | .ok (.ret u)=>CE outer P w H s Q u s'
  | .ok _=>False
  | .error e=>CX outer H s E e s'
structure FnOk (P:Program) (w:World) (K:PySem.W.Frag) (mg:Str->Option Value) (base:Heap) (CX:CXT) (k:Nat) (f:Addr) (fd:FuncData) (ps:List Str) (sp:Sp):Prop where
  len:∀ vs H Q E,sp vs H Q E->vs.length=ps.length
  run:∀ (A:Around) (outer:List Env) (s:Shared) (H:Hp) (args:Args) (us:List Value) (vs:List V) (Q:VK) (E:XK),Room k A->Env0 P w K mg base A outer s H->BindsTo s fd args (ps.zip us)->Vals vs us->sp vs H Q E->
    codeAny (model P w) A (.call (.ref f) args) (CR CX outer P w H s Q E) s
theorem FnOk.imp {P:Program} {w:World} {K:PySem.W.Frag} {mg:Str->Option Value} {base:Heap} {CX:CXT} {k:Nat} {f:Addr} {fd:FuncData} {ps:List Str} {sp sp':Sp} (F:FnOk P w K mg base CX k f fd ps sp)
    (h:∀ vs H Q E,sp' vs H Q E->sp vs H Q E):FnOk P w K mg base CX k f fd ps sp':=
  ⟨λ vs H Q E q=>F.len vs H Q E (h _ _ _ _ q),λ A outer s H args us vs Q E hr he hb hv hs=>F.run A outer s H args us vs Q E hr he hb hv (h _ _ _ _ hs)⟩
theorem Env0.make {P:Program} {w:World} {K:PySem.W.Frag} {mg:Str->Option Value} {base:Heap} {A:Around} {outer:List Env} {s:Shared} {H:Hp} (e:Env0 P w K mg base A outer s H) (C:Addr) (us:List Value) (kw:List (Str × Value)):
    Env0 P w K mg base (A.under (.builtin "type.__call__" ⟨.ref C::us,kw⟩)) outer s H:=⟨by first | exact e.frames | (simpa [Around.under,Code.envs,Code.isFrame,pushEnvs] using e.frames),e.mod,e.bs,e.bsz,e.funs,e.frf,e.hok,e.bare⟩
section
variable {X:Cx} {pins:List (Addr × Obj)} {σ:St} {H:Hp} {s s':Shared}
theorem Inv.env0 (I:Inv X pins σ H s):Env0 X.prog X.w X.K X.mg X.base X.A X.stack s H:=
  ⟨I.ok.frames,I.ok.mod,I.bs,Nat.le_trans I.ok.bsz I.sz,I.stack,I.stkFree,I.hok,I.bare⟩
theorem Inv.after {Q:VK} {u:Value} (I:Inv X pins σ H s) (h:CE X.stack X.prog X.w H s Q u s'):EP X pins σ Q u s':=by
  obtain ⟨v,H',os,bare,un,hok,r,q⟩:=h;obtain ⟨hh,g,d,t,os'⟩:=s';obtain rfl:os'=s.os:=os;exact ⟨v,H',I.call (h':=hh) (g':=g) (d':=d) (t':=t) (ch:=[]) un hok bare (λ b z=>absurd z (by simp)),r,q⟩
end
def GG (sp:Sp) (dvs:List V) (E:XK) (t:TA):TE:=λ σ H Q=>t σ H λ vs H1=>sp (vs++dvs) H1 Q E
def GK (C:Addr) (m:Str) (sp:Sp) (dvs:List V) (E:XK) (ta:TE) (t:TA):TE:=λ σ H Q=>ta σ H λ x H1=>∃ a dx fs,x= .ref a/\H1 a=some (.ins C dx fs)/\fs.lookup m=none/\
  t σ H1 λ vs H2=>sp (x::(vs++dvs)) H2 Q E
def Js (C:Addr) (sp:Sp) (dvs:List V) (E:XK) (t:TA):TE:=λ σ H Q=>t σ H λ vs H1=>∀ x dx,H1 x=none->H1 dx=none->dx≠x->
  sp (.ref x::(vs++dvs)) (upd (upd H1 dx (.own x)) x (.ins C dx [])) (λ v H2=>v= .non/\Q (.ref x) H2) E
def Binds (K:PySem.W.Frag) (fd:FuncData) (ps:List Str) (ds:List Value):Prop:=
  ∀ (s:Shared) (us:List Value),K.In s.heap->(us++ds).length=ps.length->BindsTo s fd ⟨us,[]⟩ (ps.zip (us++ds))
theorem Binds.all {K:PySem.W.Frag} {fd:FuncData} {ps:List Str} (h:∀ us:List Value,us.length=ps.length->bindArgs fd ⟨us,[]⟩=pure (ps.zip us)):Binds K fd ps []:=λ s us _ hl=>by
  rw [List.append_nil] at hl ⊢;exact .of_eq (h us hl)
def Bs (CX:CXT) (X:Cx) (E:XK):Prop:=∀ (pins:List (Addr × Obj)) (σ:St) (H:Hp) (s:Shared) (e:Value) (s':Shared),Inv X pins σ H s->CX X.stack H s E e s'->X.xe e s'
section
variable {X:Cx} {CX:CXT} {k:Nat} {f C:Addr} {fd:FuncData} {ps:List Str} {sp:Sp} {dvs:List V} {ds:List Value} {E:XK} {x m:Str} {p pos apos:Pos} {e o:Expr} {es:List Expr} {ta:TE} {t:TA}
theorem Jd {pins:List (Addr × Obj)} {σ:St} {H:Hp} {s:Shared} {Q:VK} {us:List Value} {vs:List V} (F:FnOk X.prog X.w X.K X.mg X.base CX k f fd ps sp) (hr:Room k X.A) (hb:Binds X.K fd ps ds) (hd:Vals dvs ds) (hx:Bs CX X E)
    (I:Inv X pins σ H s) (r:Vals vs us) (h:sp (vs++dvs) H Q E):wpAny (model X.prog X.w) X.A (call (.ref f) us) (EP X pins σ Q) X.xe s:=by
  have r2:Vals (vs++dvs) (us++ds):=r.append hd;have hl:(us++ds).length=ps.length:=by rw [<-r2.length];exact F.len _ _ _ _ h
  refine wpAny_call (codeAny_mono (F.run X.A X.stack s H ⟨us,[]⟩ (us++ds) (vs++dvs) Q E hr I.env0 (hb s us I.kIn hl) r2 h) λ r s' hq=> ?_);cases r with
  | error e=>exact hx pins σ H s e s' I hq
  | ok fl=>
    cases fl with
    | ret u=>exact I.after hq
    | next=>exact False.elim hq
    | brk=>exact False.elim hq
    | cont=>exact False.elim hq
theorem JW (F:FnOk X.prog X.w X.K X.mg X.base CX k f fd ps sp) (hr:Room k X.A) (hg:Gl X x) (hm:X.mg x=some (.ref f)) (hk:PySem.W.keepIn X.K (.ref f)=true) (hb:Binds X.K fd ps ds) (hd:Vals dvs ds) (hx:Bs CX X E)
    (ha:PA X (e::es) t) (hdb:(x == ("__debug__":Str))=false:=by decide) (he:starEach (e::es) X.env=(false,eval e X.env)::starEach es X.env:=by rfl) (hpl:(backTo pos (starEach es X.env)).any (·.1)=false:=by rfl):
    PE X (.Call (.Name x p) (e::es) [] pos) (GG sp dvs E t):=by
  intro pins s σ H Q I h;refine wpAny_Call_Name_kw (Cz I hg hm ?_ hdb);refine PySem.W.callWith_K (h₀:=X.base) I.ok.mod.kin hk (thn (ha pos pins s σ H _ I h) λ us s1 ⟨vs,H1,I1,r,q⟩=>⟨I1.kIn,?_⟩) he hpl;exact Jd F hr hb hd hx I1 r q
theorem Nw {pl:Sem Bool} (he:PE X o ta) (c:Cls X.K C) (hm:Meth X.K C m f) (F:FnOk X.prog X.w X.K X.mg X.base CX k f fd ps sp) (hr:Room k X.A) (hb:Binds X.K fd ps ds) (hd:Vals dvs ds) (hx:Bs CX X E) (ha:PA X (e::es) t)
    (hst:starEach (e::es) X.env=(false,eval e X.env)::starEach es X.env:=by rfl) (hpl:(backTo pos (starEach es X.env)).any (·.1)=false:=by rfl)
    (ht:eval (.Call (.Attribute o m apos) (e::es) [] pos) X.env=(do
      let ov <-eval o X.env
      standAt apos.atName
      let (f,first) <-holding [ov] (getMethod ov m pl)
      callWith pos f first (backTo pos (starEach (e::es) X.env)) (backToKw pos (keywordEach [] X.env))):=by rfl):
    PE X (.Call (.Attribute o m apos) (e::es) [] pos) (GK C m sp dvs E ta t):=by
  intro pins s σ H Q I h;refine PySem.W.methodCall_KW (pl:=pl) (thn (he pins s σ H _ I h) λ u s1 ⟨x,H1,I1,rx,a,dx,fs,ex,ea,l,q⟩=> ?_) ht;subst ex;obtain rfl:u=Value.ref a:=rx;refine Ei I1 ea c hm l ?_;refine PySem.W.callWith_K (first:=[.ref a]) (h₀:=X.base) I.ok.mod.kin hm.kp (thn (ha pos pins s1 σ H1 _ I1 q) λ us s2 ⟨vs,H2,I2,r,q2⟩=>⟨I2.kIn,?_⟩) hst hpl;exact Jd (us:= .ref a::us) (vs:= .ref a::vs) F hr hb hd hx I2 (.cons rfl r) q2
theorem Mp {pl:Sem Bool} (he:PE X o ta) (c:Cls X.K C) (hm:Meth X.K C m f) (F:FnOk X.prog X.w X.K X.mg X.base CX k f fd ps sp) (hr:Room k X.A) (hb:Binds X.K fd ps ds) (hd:Vals dvs ds) (hx:Bs CX X E)
    (ht:eval (.Call (.Attribute o m apos) [] [] pos) X.env=(do
      let ov <-eval o X.env
      standAt apos.atName
      let (f,first) <-holding [ov] (getMethod ov m pl)
      callWith pos f first (backTo pos (starEach [] X.env)) (backToKw pos (keywordEach [] X.env))):=by rfl):
    PE X (.Call (.Attribute o m apos) [] [] pos) (GK C m sp dvs E ta KQ):=by
  intro pins s σ H Q I h;refine PySem.W.methodCall_KW (pl:=pl) (thn (he pins s σ H _ I h) λ u s1 ⟨x,H1,I1,rx,a,dx,fs,ex,ea,l,q⟩=> ?_) ht;subst ex;obtain rfl:u=Value.ref a:=rx;refine Ei I1 ea c hm l ?_;exact PySem.W.callWith_K0 (first:=[.ref a]) I1.kIn hm.kp (Jd (us:=[.ref a]) (vs:=[.ref a]) F hr hb hd hx I1 (.cons rfl .nil) q)
structure Mk (K:PySem.W.Frag) (C f:Addr):Prop where
  makes:PySem.W.makesIn K C=true
  init:PySem.W.findIn K (.ref C) "__init__"=some (some (.ref f))
  fn:PySem.W.isFn K (.ref f)=true
  kp:PySem.W.keepIn K (.ref C)=true
theorem LX {pins:List (Addr × Obj)} {σ:St} {H:Hp} {s:Shared} {Q:VK} {us:List Value} {vs:List V} (M:Mk X.K C f) (F:FnOk X.prog X.w X.K X.mg X.base CX k f fd ps sp) (hr:Room (k+1) X.A) (hb:Binds X.K fd ps ds) (hd:Vals dvs ds)
    (hx:Bs CX X E) (I:Inv X pins σ H s) (r:Vals vs us)
    (h:∀ x dx,H x=none->H dx=none->dx≠x->sp (.ref x::(vs++dvs)) (upd (upd H dx (.own x)) x (.ins C dx [])) (λ v H2=>v= .non/\Q (.ref x) H2) E):
    wpAny (model X.prog X.w) X.A (call (.ref C) us) (EP X pins σ Q) X.xe s:=by
  have hq:=h (s.heap.objs.size+1) s.heap.objs.size (I.hok.fresh (Nat.le_succ _)) (I.hok.fresh (Nat.le_refl _)) (Nat.ne_of_lt (Nat.lt_succ_self _));have I2:=Inv.made (C:=C) I;have r2:Vals (V.ref (s.heap.objs.size+1)::(vs++dvs)) (Value.ref (s.heap.objs.size+1)::(us++ds)):= .cons rfl (r.append hd);have hl:(Value.ref (s.heap.objs.size+1)::us++ds).length=ps.length:=by
    have e:=r2.length;rw [F.len _ _ _ _ hq] at e;exact e.symm
  refine wpAny_call (Lw (f:=f) I.kIn M.makes M.init (beq_iff_eq.mp M.fn) (codeAny_mono (F.run _ X.stack _ _ ⟨Value.ref (s.heap.objs.size+1)::us,[]⟩ (Value.ref (s.heap.objs.size+1)::(us++ds)) _ _ E (hr.make C us [])
    (I2.env0.make C us []) (hb _ (Value.ref (s.heap.objs.size+1)::us) I2.kIn hl) r2 hq) λ r s' hq'=> ?_))
  cases r with
  | error e=>exact hx pins σ _ _ e s' I2 hq'
  | ok fl=>
    cases fl with
    | ret u=>
      obtain ⟨v,H',I3,rv,ev,q3⟩:=I2.after hq';subst ev;exact ⟨rv,⟨V.ref (s.heap.objs.size+1),H',I3,rfl,q3⟩⟩
    | next=>exact False.elim hq'
    | brk=>exact False.elim hq'
    | cont=>exact False.elim hq'
theorem MX (M:Mk X.K C f) (F:FnOk X.prog X.w X.K X.mg X.base CX k f fd ps sp) (hr:Room (k+1) X.A) (hg:Gl X x) (hm:X.mg x=some (.ref C)) (hb:Binds X.K fd ps ds) (hd:Vals dvs ds) (hx:Bs CX X E)
    (ha:PA X (e::es) t) (hdb:(x == ("__debug__":Str))=false:=by decide) (he:starEach (e::es) X.env=(false,eval e X.env)::starEach es X.env:=by rfl) (hpl:(backTo pos (starEach es X.env)).any (·.1)=false:=by rfl):
    PE X (.Call (.Name x p) (e::es) [] pos) (Js C sp dvs E t):=by
  intro pins s σ H Q I h;refine wpAny_Call_Name_kw (Cz I hg hm ?_ hdb);refine PySem.W.callWith_K (h₀:=X.base) I.ok.mod.kin M.kp (thn (ha pos pins s σ H _ I h) λ us s1 ⟨vs,H1,I1,r,q⟩=>⟨I1.kIn,?_⟩) he hpl;exact LX M F hr hb hd hx I1 r q
end
section
variable {X:Cx} {CX:CXT} {k:Nat} {f C:Addr} {fd:FuncData} {ps ks:List Str} {sp:Sp} {E:XK} {x m:Str} {p pos apos kpos:Pos} {e o:Expr} {es:List Expr} {kws:List Keyword} {te ta:TE} {t tk:TA} {nm:Option Str}
structure KBinds (K:PySem.W.Frag) (fd:FuncData) (ps ks:List Str) (g:List Value->List Value->List Value) (gV:List V->List V->List V):Prop where
  to:∀ (s:Shared) (us ws:List Value),K.In s.heap->(g us ws).length=ps.length->BindsTo s fd ⟨us,ks.zip ws⟩ (ps.zip (g us ws))
  rel:∀ {vs:List V} {us:List Value} {zs:List V} {ws:List Value},Vals vs us->Vals zs ws->Vals (gV vs zs) (g us ws)
variable {g:List Value->List Value->List Value} {gV:List V->List V->List V}
end
structure FnScope (N P:List Str) (sc:Scope):Prop where
  kind:sc.kind= .function
  co:sc.isCoroutine=false
  gen:sc.isGenerator=false
  nd:N.Nodup
  pre:N.take P.length=P
  par:∀ x∈P,sc.names.lookup x=some .local\/sc.names.lookup x=some .cell
  nofree:∀ y∈sc.names,y.2≠ .free
theorem GL {kindOf:Str->Option NameKind} {x:Str}:∀ {binds:List (Str × Value)} {m:Str->Option Value},(∀ v,(x,v)∉binds)->bindL kindOf binds m x=m x
  | [],_,_=>rfl
  | (n,v)::r,m,h=>by
    unfold bindL;rw [GL λ w hw=>h w (List.mem_cons_of_mem _ hw)];split
    · have:x≠n:=by rintro rfl;exact h v List.mem_cons_self
      simp [this]
    · rfl
theorem GP {kindOf:Str->Option NameKind} {x:Str}:∀ {binds:List (Str × Value)} {m:Str->Option Value},(∀ v,(x,v)∉binds)->bindC kindOf binds m x=m x
  | [],_,_=>rfl
  | (n,v)::r,m,h=>by
    unfold bindC;rw [GP λ w hw=>h w (List.mem_cons_of_mem _ hw)];split
    · rfl
    · have:x≠n:=by rintro rfl;exact h v List.mem_cons_self
      simp [this]
theorem Gs {kindOf:Str->Option NameKind} {x:Str} {v:Value}:∀ {P:List Str} {vs:List Value} {i:Nat} {m:Str->Option Value},P.Nodup->P[i]?=some x->vs[i]?=some v->kindOf x=some .local->
    bindL kindOf (P.zip vs) m x=some v
  | [],_,_,_,_,h,_,_=>by simp at h
  | _::_,[],_,_,_,_,h,_=>by simp at h
  | p::P,w::vs,0,m,nd,h1,h2,hk=>by
    simp at h1 h2;subst h1;subst h2;show bindL kindOf ((p,w)::P.zip vs) m p=_;unfold bindL;rw [GL λ v hv=>(List.nodup_cons.mp nd).1 (List.of_mem_zip hv).1,if_pos hk];simp
  | p::P,w::vs,i+1,m,nd,h1,h2,hk=>by
    show bindL kindOf ((p,w)::P.zip vs) m x=_;unfold bindL;exact Gs (i:=i) (List.nodup_cons.mp nd).2 (by simpa using h1) (by simpa using h2) hk
theorem GU {kindOf:Str->Option NameKind} {x:Str} {v:Value}:∀ {P:List Str} {vs:List Value} {i:Nat} {m:Str->Option Value},P.Nodup->P[i]?=some x->vs[i]?=some v->kindOf x≠some .local->
    bindC kindOf (P.zip vs) m x=some v
  | [],_,_,_,_,h,_,_=>by simp at h
  | _::_,[],_,_,_,_,h,_=>by simp at h
  | p::P,w::vs,0,m,nd,h1,h2,hk=>by
    simp at h1 h2;subst h1;subst h2;show bindC kindOf ((p,w)::P.zip vs) m p=_;unfold bindC;rw [GP λ v hv=>(List.nodup_cons.mp nd).1 (List.of_mem_zip hv).1,if_neg hk];simp
  | p::P,w::vs,i+1,m,nd,h1,h2,hk=>by
    show bindC kindOf ((p,w)::P.zip vs) m x=_;unfold bindC;exact GU (i:=i) (List.nodup_cons.mp nd).2 (by simpa using h1) (by simpa using h2) hk
def start (N:List Str) (vs:List V):St:=vs.map some++List.replicate (N.length - vs.length) none
def C0 (CX:CXT) (P:Program) (w:World) (K:PySem.W.Frag) (mg:Str->Option Value) (base:Heap) (N:List Str) (qual:Str) (scope:Scope) (f:Addr) (cd:Value) (A:Around) (outer:List Env) (s:Shared) (H:Hp) (E:XK):Cx where
  prog:=P
  w:=w
  K:=K
  mg:=mg
  base:=base
  A:=A.deeper (envOfC qual scope s.heap.objs.size f cd)
  N:=N
  s₀:=s
  H₀:=H
  env:=envOfC qual scope s.heap.objs.size f cd
  outer:=outer
  stack:=envOfC qual scope s.heap.objs.size f cd::outer
  ex:=[]
  calm:=true
  fn:=λ _=>true
  pn:=[]
  xe:=λ e s'=>wpAny (model P w) (A.deeper (envOfC qual scope s.heap.objs.size f cd)) (leaving (envOfC qual scope s.heap.objs.size f cd) e) (λ _ s''=>CX outer H s E e s'') (λ e' s''=>CX outer H s E e' s'') s'
theorem HV {sc:Scope} {n:Nat} {x:Str} (h:sc.names.lookup x=some .cell):∃ c,(cellsFrom n sc.names []).lookup x=some c:=by
  have q:=PySem.W.cellsFrom_some sc.names n [] (.inl h);exact Option.isSome_iff_exists.mp q
theorem KI {CX:CXT} {P:Program} {w:World} {K:PySem.W.Frag} {mg:Str->Option Value} {base:Heap} {N ps:List Str} {qual:Str} {scope:Scope} {f:Addr} {cd:Value} {A:Around} {outer:List Env} {s s1:Shared} {H:Hp} {E:XK} {us:List Value} {vs:List V}
    (S:FnScope N ps scope) (hd:A.handled=none) (e0:Env0 P w K mg base A outer s H) (hl:vs.length=ps.length) (r:Vals vs us)
    (x:InCallC s s.heap.objs.size (bindL (envOfC qual scope s.heap.objs.size f cd).kindOf (ps.zip us) λ _=>none) (cellsFrom (s.heap.objs.size+1) scope.names []) (bindC (envOfC qual scope s.heap.objs.size f cd).kindOf (ps.zip us) λ _=>none) s1):
    Inv (C0 CX P w K mg base N qual scope f cd A outer s H E) [] (start N vs) H s1:=by
  have hpl:ps.length<=N.length:=by have:=congrArg List.length S.pre;rw [List.length_take] at this;omega
  obtain ⟨h1,tk,rfl,hk⟩:=x.done;have noA:∀ b:Addr,b∉(C0 CX P w K mg base N qual scope f cd A outer s H E).ex:=λ b z=>absurd (show b∈([]:List Addr) from z) (by simp);refine ⟨⟨e0.mod,S.kind,rfl,rfl,Nat.le_refl _,λ y z c h1 h2=> ?_,λ y hy=> ?_,λ y c _ h=> ?_,λ _=>hd,Around.frames_deeper e0.frames, .inr ⟨rfl,rfl⟩,λ b z=>absurd z (noA b),e0.bs,e0.bsz,λ b _ _=>noA b,λ b z=>absurd z (noA b),e0.funs,e0.frf⟩,
    rfl,e0.bare,Un.kept hk,⟨_,x.toInCall.ns,λ i y v h1 h2 h3=> ?_⟩,λ y c h=>⟨_,x.cell y c h⟩,e0.hok.fresh (Nat.le_refl _),λ y c h=> ?_,λ p hp=>absurd (show p∈([]:List (Addr × Obj)) from hp) (by simp),e0.hok.kept hk,?_⟩
  · exact name_of_addr x.apart (PySem.mem_of_lookup h1) (PySem.mem_of_lookup h2)
  · have hy:scope.names.lookup y=some .cell\/scope.names.lookup y=some .free:=hy;rcases hy with hy | hy
    · exact HV hy
    · exact absurd rfl (S.nofree _ (PySem.mem_of_lookup hy))
  · exact Nat.le_of_lt (x.above y c (PySem.mem_of_lookup h))
  · have hi:i<vs.length:=by
      unfold start at h2;by_cases hi:i<vs.length
      · exact hi
      · rw [List.getElem?_append_right (by simpa using hi)] at h2;rw [List.getElem?_replicate] at h2;split at h2 <;> cases h2
    have ha:vs[i]?=some v:=by
      unfold start at h2;rw [List.getElem?_append_left (by simpa using hi),List.getElem?_map] at h2;cases e:vs[i]? with
      | none=>rw [e] at h2;cases h2
      | some a=>rw [e] at h2;cases h2;rfl
    obtain ⟨u,hu,rv⟩:=r.get ha;have hp:ps[i]?=some y:=by
      rw [<-S.pre,List.getElem?_take_of_lt (by omega)];exact h1
    have ndP:ps.Nodup:=by rw [<-S.pre];exact S.nd.sublist (List.take_sublist _ _)
    refine ⟨u,rv,?_⟩;rcases S.par y (List.mem_of_getElem? hp) with k | k
    · exact .inl ⟨k,Gs ndP hp hu k⟩
    · obtain ⟨c,e⟩:=HV (n:=s.heap.objs.size+1) k;refine .inr ⟨.inl k,c,e,?_⟩;have q:=x.cell y c e;rw [GU ndP hp hu (by show scope.names.lookup y≠_;rw [k];decide)] at q;exact q
  · exact e0.hok.fresh (Nat.le_of_lt (x.above y c (PySem.mem_of_lookup h)))
  · unfold start;show _=N.length;rw [List.length_append,List.length_map,List.length_replicate];omega
theorem N9 {CX:CXT} {P:Program} {w:World} {K:PySem.W.Frag} {mg:Str->Option Value} {base:Heap} {k:Nat} {f:Addr} {name qual:Str} {params:Arguments} {body:List Stmt} {scope:Scope} {dV kV doc pm cdv ct oc:Value} {an od:Option Addr}
    {osl:Array (Option Value)} {N ps:List Str} {sp:Sp} (lk:K.lookup f=some ⟨oc,od, .func (PySem.W.fnOf name qual params body scope dV kV doc pm an cdv ct),osl⟩) (hcd:PySem.W.codeIn K cdv qual=true) (S:FnScope N ps scope)
    (len:∀ vs H Q E,sp vs H Q E->vs.length=ps.length)
    (hbody:∀ (A:Around) (outer:List Env) (s:Shared) (H:Hp) (vs:List V) (Q:VK) (E:XK),Room k (A.deeper (envOfC qual scope s.heap.objs.size f cdv))->sp vs H Q E->
      ∃ t,PSs (C0 CX P w K mg base N qual scope f cdv A outer s H E) body t/\t { nx:=λ _ H'=>Q .non H',rt:=Q } (start N vs) H):
    FnOk P w K mg base CX (k+1) f (PySem.W.fnOf name qual params body scope dV kV doc pm an cdv ct) ps sp:=by
  refine ⟨len,λ A outer s H args us vs Q E hr e0 hb r hsp=> ?_⟩;have hl:=len _ _ _ _ hsp;have KX:K.In s.heap:=e0.mod.kin.keeps λ b o e=>(e0.bs b o e).1;have lim:s.heap.NoLimit:=e0.mod.nolimit.keeps λ b o e=>(e0.bs b o e).1;have hkind:∀ y∈ps.zip us,scope.names.lookup y.1=some .local\/(scope.names.lookup y.1=some .cell/\((cellsFrom (s.heap.objs.size+1) scope.names []).lookup y.1).isSome=true):=λ ⟨n,v⟩ hy=>by
    rcases S.par n (List.of_mem_zip hy).1 with q | q
    · exact .inl q
    · exact .inr ⟨q,PySem.W.cellsFrom_some _ _ _ (.inl q)⟩
  refine codeAny_call_function hr.depth (KX _ _ lk) rfl S.co S.gen rfl (PySem.W.codeRec_of KX hcd) (hb _ _ _ _ ?_);refine wpAny_newFunctionEnv_cells S.kind hkind λ env he s1 x=> ?_;subst he;refine ⟨lim.keeps x.toInCall.keep,codeAny_func ?_⟩;obtain ⟨t,ht,hq⟩:=hbody A outer s H vs Q E (hr.deeper _) hsp;have I:Inv (C0 CX P w K mg base N qual scope f cdv A outer s H E) [] (start N vs) H s1:=KI S hr.hd e0 hl r x;refine wpAny_mono (ht [] s1 (start N vs) H _ I hq) (λ fl s' hs=> ?_) λ e s' hs=>hs;have fin:∀ {σ':St} {H':Hp} {v:V} {u:Value},Inv (C0 CX P w K mg base N qual scope f cdv A outer s H E) [] σ' H' s'->RelV v u->Q v H'->CE outer P w H s Q u s':=
    λ {σ' H' v u} J rv q=>⟨v,H',J.os,J.bare,J.base,J.hok,rv,q⟩
  cases fl with
  | ret u=>
    obtain ⟨v,σ',H',J,rv,q⟩:=hs;exact fin J rv q
  | next=>
    obtain ⟨σ',H',J,q⟩:=hs;exact fin (v:=V.non) (u:=Value.none) J rfl q
  | brk=>
    obtain ⟨_,_,_,q⟩:=hs;exact False.elim q
  | cont=>
    obtain ⟨_,_,_,q⟩:=hs;exact False.elim q
section
variable {X:Cx} {x:Str} {p pos:Pos} {e:Expr} {es:List Expr} {t:TA} {id T:String} {r:List V->Hp->VK->Prop}
def tCB (r:List V->Hp->VK->Prop) (t:TA):TE:=λ σ H Q=>t σ H λ vs H1=>r vs H1 Q
theorem Ak (hc:Bt X (.builtin id) r) (hg:Gl X x) (hm:X.mg x=none) (hv:bootBuiltins x=some (.builtin id)) (ha:PA X (e::es) t) (hn:x≠"__name__":=by decide) (hdb:(x == ("__debug__":Str))=false:=by decide)
    (he:starEach (e::es) X.env=(false,eval e X.env)::starEach es X.env:=by rfl) (hpl:(backTo pos (starEach es X.env)).any (·.1)=false:=by rfl):PE X (.Call (.Name x p) (e::es) [] pos) (tCB r t):=by
  intro pins s σ H Q I h;refine wpAny_Call_Name_kw (C5 I hg hm hv ?_ hn hdb);exact PyProof.Rows.callWith_builtin1 (thn (ha pos pins s σ H _ I h) λ us s1 ⟨vs,H1,I1,r1,q1⟩=>hc pins s1 σ H1 vs us Q I1 r1 q1) he hpl
theorem AD (hc:Bt X (.type T) r) (hg:Gl X x) (hm:X.mg x=none) (hv:bootBuiltins x=some (.type T)) (ha:PA X (e::es) t) (hn:x≠"__name__":=by decide) (hdb:(x == ("__debug__":Str))=false:=by decide)
    (he:starEach (e::es) X.env=(false,eval e X.env)::starEach es X.env:=by rfl) (hpl:(backTo pos (starEach es X.env)).any (·.1)=false:=by rfl):PE X (.Call (.Name x p) (e::es) [] pos) (tCB r t):=by
  intro pins s σ H Q I h;refine wpAny_Call_Name_kw (C5 I hg hm hv ?_ hn hdb);exact PyProof.Rows.callWith_type1 (thn (ha pos pins s σ H _ I h) λ us s1 ⟨vs,H1,I1,r1,q1⟩=>hc pins s1 σ H1 vs us Q I1 r1 q1) he hpl
end
end L2
namespace HT
open PySem PyProof.Rows
section
open PySem.SeqAt
open PySem.AutoSeq1 (wpAny_loadPart')
open PySem.MeetsSeq PySem.MeetsSeq2 PySem.MeetsSeq3
end
section
variable {prog:Program} {w:World} {A:Around} {E:Value->Shared->Prop} {s:Shared}
def sIx (n d:Nat):Option Int->Nat
  | none=>d
  | some v=>if v<0 then (v+(n:Int)).toNat else min v.toNat n
end
end HT
namespace L2
open PySem PySem.Spec PyProof.Rows
abbrev TO:=St->Hp->(Option Int->Hp->Prop)->Prop
def PO (X:Cx) (e:Option Expr) (t:TO):Prop:=
  ∀ (pins:List (Addr × Obj)) (s:Shared) (σ:St) (H:Hp) (Q:Option Int->Hp->Prop),Inv X pins σ H s->t σ H Q->
    wpAny (model X.prog X.w) X.A (evalPart e X.env) (λ u s'=>∃ o H',Inv X pins σ H' s'/\IsPart u o/\Q o H') X.xe s
def Jw:TO:=λ _ H Q=>Q none H
def Ow (t:TE):TO:=λ σ H Q=>t σ H λ x H1=>∃ i,x= .int i/\Q (some i) H1
theorem IT {ns:List Int}:∀ {us:List Value},Vals (ns.map V.int) us->IntsAre us ns:=by
  induction ns with
  | nil=>intro us r;rw [List.map_nil] at r;cases r;exact .nil
  | cons n ns ih=>
    intro us r;rw [List.map_cons] at r;cases r with
    | cons r1 r2=>
      obtain ⟨t,e⟩:=r1;subst e;exact .cons n t (ih r2)
section
variable {X:Cx} {e:Expr} {te:TE} {lo hi:Option Expr} {tl th:TO} {pos p2:Pos}
theorem JJ:PO X none Jw:=by
  intro pins s σ H Q I h;rw [evalPart_none];exact wpAny_pure ⟨none,H,I, .none,h⟩
theorem Jl (h:PE X e te):PO X (some e) (Ow te):=by
  intro pins s σ H Q I hw;rw [evalPart_some];refine thn (h pins s σ H _ I hw) λ u s1 ⟨x,H1,I1,r1,q1⟩=> ?_;obtain ⟨i,rfl,q⟩:=q1;obtain ⟨t,rfl⟩:=r1;exact ⟨some i,H1,I1, .int i t,q⟩
def SlR (X:Cx) (r:V->Option Int->Option Int->Hp->VK->Prop):Prop:=
  ∀ (pins:List (Addr × Obj)) (s:Shared) (σ:St) (H:Hp) (x:V) (v vl vu:Value) (lo hi:Option Int) (sl:Addr) (Q:VK),Inv X pins σ H s->RelV x v->s.heap.IsSliceOf sl vl vu .none->IsPart vl lo->IsPart vu hi->r x lo hi H Q->
    ∃ T id,typeLookup (.type T) "__getitem__"=pure (some (.builtin id))/\s.TypeIs v T/\wpAny (model X.prog X.w) X.A (getItem v (.ref sl)) (EP X pins σ Q) X.xe s
def tSl (r:V->Option Int->Option Int->Hp->VK->Prop) (te:TE) (tl th:TO):TE:=λ σ H Q=>te σ H λ x H1=>tl σ H1 λ l H2=>th σ H2 λ u H3=>r x l u H3 Q
theorem Ht {r:V->Option Int->Option Int->Hp->VK->Prop} (hr:SlR X r) (he:PE X e te) (hl:PO X lo tl) (hu:PO X hi th):PE X (.Subscript e (.Slice lo hi none p2) pos) (tSl r te tl th):=by
  intro pins s σ H Q I h;refine Subscript_ (thn (he pins s σ H _ I h) λ v s1 ⟨x,H1,I1,r1,q1⟩=> ?_);refine wpAny_Slice (thn (hl pins s1 σ H1 _ I1 q1) λ vl s2 ⟨l,H2,I2,pl,q2⟩=>thn (hu pins s2 σ H2 _ I2 q2) λ vu s3 ⟨u,H3,I3,pu,q3⟩=> ?_);rw [evalPart_none];refine wpAny_pure ?_;have I4:Inv X pins σ H3 { s3 with heap:=s3.heap.push { cls:= .type "slice",data:= .fields #[vl,vu, .none] } }:=I3.kept (t':=s3.toks) λ b ob q=>Heap.get?_push_of_some _ q;obtain ⟨T,id,hT,ht,hg⟩:=hr pins { s3 with heap:=s3.heap.push { cls:= .type "slice",data:= .fields #[vl,vu, .none] } } σ H3 x v vl vu l u s3.heap.objs.size Q I4 r1 (Heap.IsSliceOf.new ..) pl pu q3;show wpAny (model X.prog X.w) X.A (subscriptTail e (.Slice lo hi none p2) v (.ref s3.heap.objs.size)) (EP X pins σ Q) X.xe { s3 with heap:=s3.heap.push { cls:= .type "slice",data:= .fields #[vl,vu, .none] } };exact tail_any (ops:=[.ref s3.heap.objs.size,v]) ht hT hg (by with_unfolding_all rfl)
def Hq (xs:List V) (lo hi:Option Int):List V:=(xs.drop (HT.sIx xs.length 0 lo)).take (HT.sIx xs.length xs.length hi - HT.sIx xs.length 0 lo)
theorem HH (xs:List V) (lo hi:Option Int):(Hq xs lo hi).length<=xs.length:=by
  unfold Hq;rw [List.length_take,List.length_drop];omega
end
def ixN (n:Nat) (i:Int):Option Nat:=if 0<=i then (if i<n then some i.toNat else none) else if -(n:Int)<=i then some (i+n).toNat else none
def atI {α:Type} (xs:List α) (i:Int):Option α:=(ixN xs.length i).bind λ j=>xs[j]?
theorem JO {n:Nat} {i:Int} {j:Nat} (h:ixN n i=some j):seqIndex? i n=some j/\j<n/\ -(n:Int)<=i/\i<n:=by
  unfold ixN at h;by_cases h0:0<=i
  · rw [if_pos h0] at h;by_cases h1:i<n
    · rw [if_pos h1] at h;have e:i.toNat=j:=Option.some.inj h;exact ⟨by rw [seqIndex_of h0 h1,e],by omega,by omega,h1⟩
    · rw [if_neg h1] at h;cases h
  · rw [if_neg h0] at h;by_cases h1: -(n:Int)<=i
    · rw [if_pos h1] at h;have e:(i+n).toNat=j:=Option.some.inj h;exact ⟨by rw [seqIndex_neg (by omega) h1,e],by omega,h1,by omega⟩
    · rw [if_neg h1] at h;cases h
theorem Hn {α:Type} {xs:List α} {i:Int} {v:α} (h:atI xs i=some v):∃ j,seqIndex? i xs.length=some j/\xs[j]?=some v/\j<xs.length/\ -(xs.length:Int)<=i/\i<xs.length:=by
  unfold atI at h;cases e:ixN xs.length i with
  | none=>rw [e] at h;cases h
  | some j=>
    rw [e] at h;obtain ⟨h1,h2,h3,h4⟩:=JO e;exact ⟨j,h1,h,h2,h3,h4⟩
theorem Hj {α:Type} {xs:List α} {j:Nat} {v:α} (h:xs[j]?=some v):atI xs (j:Int)=some v:=by
  have hj:j<xs.length:=(List.getElem?_eq_some_iff.mp h).1;have e:ixN xs.length (j:Int)=some j:=by
    unfold ixN;rw [if_pos (by omega),if_pos (by omega)];simp
  unfold atI;rw [e];exact h
def Nu (b:Expr):Prop:=∀ o i,subscripted b false o i=operate [o,i] (getItem o i)
def IxR (X:Cx) (r:R2):Prop:=
  ∀ (value slice:Expr) (pins:List (Addr × Obj)) (s:Shared) (σ:St) (H:Hp) (x y:V) (v u:Value) (Q:VK),Inv X pins σ H s->RelV x v->RelV y u->r x y H Q->
    subscripted slice false v u=operate [v,u] (getItem v u)->wpAny (model X.prog X.w) X.A (subscriptTail value slice v u) (EP X pins σ Q) X.xe s
def MtR (X:Cx) (id:String) (r:V->List V->Hp->VK->Prop):Prop:=
  ∀ (pins:List (Addr × Obj)) (s:Shared) (σ:St) (H:Hp) (x:V) (xs:List V) (v:Value) (us:List Value) (Q:VK),Inv X pins σ H s->RelV x v->Vals xs us->r x xs H Q->
    wpAny (model X.prog X.w) X.A (call (.builtin id) (v::us)) (EP X pins σ Q) X.xe s
section
variable {X:Cx} {a b:Expr} {ta tb:TE} {pos:Pos}
theorem A5 {r:R2} (hr:IxR X r) (ha:PE X a ta) (hb:PE X b tb) (hs:Nu b):PE X (.Subscript a b pos) (tOp r ta tb):=by
  intro pins s σ H Q I h;exact Subscript_ (Pf ha hb I h λ v u s2 x y H2 I2 rx ry q=>hr a b pins s2 σ H2 x y v u Q I2 rx ry q (hs _ _))
def OR (K:PySem.W.Frag):R2:=λ x y H Q=>∃ p xs i v,x= .ref p/\y= .int i/\SqL K H p xs/\atI xs i=some v/\Q v H
def Pr (K:PySem.W.Frag):R2:=λ x y H Q=>∃ p xs i v,x= .ref p/\y= .int i/\SqT K H p xs/\atI xs i=some v/\Q v H
def Sk:R2:=λ x y H Q=>∃ z i c,x= .str z/\y= .int i/\z.length<=sizeLine/\atI z.cps.toList i=some c/\Q (.str ⟨#[c]⟩) H
theorem MK:IxR X (OR X.K):=by
  intro value slice pins s σ H x y v u Q I rx ry h hs;obtain ⟨p,xs,i,z,rfl,rfl,hq,he,q⟩:=h;cases rx;obtain ⟨t,rfl⟩:=ry;obtain ⟨its,r,pl,hz⟩:=I.list hq;obtain ⟨j,h1,h2,h3,h4,h5⟩:=Hn he;obtain ⟨w,ew,rw'⟩:=r.get h2;have hl:=r.length;have hn:=EN;have fin:EP X pins σ Q w s:=⟨z,H,I,rw',q⟩;by_cases h0:0<=i
  · have hj:i.toNat=j:=by
      rw [seqIndex_of h0 h5] at h1;exact Option.some.inj h1
    exact item_listR pl.isList h0 (by omega) (by rw [hj];simpa using ew) fin hs
  · have hj:(i+(its.toArray.size:Int)).toNat=j:=by
      rw [seqIndex_neg (by omega) h4] at h1;rw [List.size_toArray, <-hl];exact Option.some.inj h1
    exact subscriptTail_builtinR (x:=w) pl.isList.typeIs slot_list_getitem.lookup
      (wpAny_getItem_list_neg (Q:=λ r s'=>r=w/\EP X pins σ Q r s') pl.isList (by omega) (by rw [List.size_toArray] <;> omega) (by omega) (by rw [hj];simpa using ew) ⟨rfl,fin⟩) hs
theorem OT:IxR X (Pr X.K):=by
  intro value slice pins s σ H x y v u Q I rx ry h hs;obtain ⟨p,xs,i,z,rfl,rfl,hq,he,q⟩:=h;cases rx;obtain ⟨t,rfl⟩:=ry;obtain ⟨its,r,pl,hz⟩:=I.tuple hq;obtain ⟨j,h1,h2,h3,h4,h5⟩:=Hn he;obtain ⟨w,ew,rw'⟩:=r.get h2;have hl:=r.length;have hn:=EN;have fin:EP X pins σ Q w s:=⟨z,H,I,rw',q⟩;exact subscriptTail_builtinR (x:=w) pl.typeIs slot_tuple_getitem.lookup
    (getItem_tuple (j:=j) (Q:=λ r s'=>r=w/\EP X pins σ Q r s') pl (by omega) (by omega) (by rw [List.size_toArray, <-hl];exact h1) (by simpa using ew) ⟨rfl,fin⟩) hs
theorem Lb:IxR X Sk:=by
  intro value slice pins s σ H x y v u Q I rx ry h hs;obtain ⟨z,i,c,rfl,rfl,hz,he,q⟩:=h;obtain ⟨t,rfl⟩:=rx;obtain ⟨t',rfl⟩:=ry;obtain ⟨j,h1,h2,h3,h4,h5⟩:=Hn he;have hl:z.cps.toList.length=z.length:=by simp [Str.length]
  rw [hl] at h1 h4 h5;have hn:=EN;exact tail_any (typeIs_str s z t) slot_str_getitem.lookup (getItem_str (c:=c) (by
    have e1:decide (i< -(2 ^ 63:Int))=false:=decide_eq_false (by omega);have e2:decide (i>=2 ^ 63)=false:=decide_eq_false (by omega);rw [e1,e2,Bool.or_false]) (by rw [h1];simpa using h2) ⟨.str ⟨#[c]⟩,H,I.tok _,⟨_,rfl⟩,q⟩) hs
theorem Jh (its:List Value) (n j:Nat) (u:Value):Obj.mapSeq (·.setIfInBounds j u) { cls:= .type "list",data:= .seq its.toArray n }={ cls:= .type "list",data:= .seq (its.set j u).toArray n }:=by
  simp [Obj.mapSeq]
theorem Inv.lst {pins:List (Addr × Obj)} {σ:St} {H:Hp} {s:Shared} {p:Addr} {xs:List V} (I:Inv X pins σ H s) (h:H p=some (.lst xs)):
    ∃ (its:List Value) (n:Nat),Vals xs its/\s.heap.get? p=some { cls:= .type "list",data:= .seq its.toArray n }/\xs.length<=sizeLine:=by
  obtain ⟨z,its,n,r,e⟩:=I.hok p _ h;exact ⟨its,n,r,e,z⟩
theorem Inv.lstUpd {pins:List (Addr × Obj)} {σ:St} {H:Hp} {s:Shared} {p:Addr} {xs ys:List V} {its its':List Value} {n n':Nat} {f:Obj->Obj} (I:Inv X pins σ H s) (h:H p=some (.lst xs))
    (ho:s.heap.get? p=some { cls:= .type "list",data:= .seq its.toArray n }) (hf:f { cls:= .type "list",data:= .seq its.toArray n }={ cls:= .type "list",data:= .seq its'.toArray n' }) (r:Vals ys its') (hz:ys.length<=sizeLine) (t:Nat):
    Inv X pins σ (upd H p (.lst ys)) { s with heap:=s.heap.update p f,toks:=t }:=by
  have e:(s.heap.update p f).get? p=some { cls:= .type "list",data:= .seq its'.toArray n' }:=by
    rw [Heap.get?_update_self f ho (by rw [hf] <;> rfl),hf]
  refine I.write (x:=p) (e:=p) (by rw [h];trivial) (.inl rfl) (λ b u hb q=>(Heap.get?_update_other _ _ (Ne.symm hb)).trans q) ⟨_,e⟩ ?_;exact ⟨hz,its',n',r,e⟩
def EB:V->V->V->Hp->(Hp->Prop)->Prop:=λ o i v H Q=>∃ p xs k j,o= .ref p/\i= .int k/\H p=some (.lst xs)/\ixN xs.length k=some j/\Q (upd H p (.lst (xs.set j v)))
theorem Dw:PX X EB:=by
  intro pins s σ H o i v ov iv u Q I ro ri rv h;obtain ⟨p,xs,k,j,rfl,rfl,hp,hj,q⟩:=h;cases ro;obtain ⟨t,rfl⟩:=ri;obtain ⟨its,n,r,ho,hz⟩:=I.lst hp;obtain ⟨h1,h2,h3,h4⟩:=JO hj;have hl:=r.length;have hn:=EN;have I':Inv X pins σ (upd H p (.lst (xs.set j v))) { s with heap:=s.heap.update p (Obj.mapSeq (·.setIfInBounds j u)) }:=
    I.lstUpd hp ho (Jh its n j u) (r.set rv j) (by rw [List.length_set];exact hz) s.toks
  by_cases h0:0<=k
  · have hk:k.toNat=j:=by
      rw [seqIndex_of h0 h4] at h1;exact Option.some.inj h1
    exact PySem.W.ki_setAt ho h0 (by omega) (by rw [List.size_toArray, <-hl];exact h4) (by rw [hk];exact ⟨_,I',q⟩)
  · have hk:(k+(its.toArray.size:Int)).toNat=j:=by
      rw [seqIndex_neg (by omega) h3] at h1;rw [List.size_toArray, <-hl];exact Option.some.inj h1
    exact PySem.W.ki_setBack ho (by omega) (by rw [List.size_toArray, <-hl];exact h3) (by omega) (by rw [hk];exact ⟨_,I',q⟩)
theorem Hb (lo hi:Option Int) (n:Nat):(sliceBounds lo hi none n).1=((HT.sIx n 0 lo:Nat):Int)/\(sliceBounds lo hi none n).2.1=((HT.sIx n n hi:Nat):Int)/\(sliceBounds lo hi none n).2.2=1:=by
  refine ⟨?_,?_,rfl⟩
  · cases lo with
    | none=>simp [sliceBounds,HT.sIx]
    | some i=>
      simp only [sliceBounds,HT.sIx,Option.getD_none,show (1:Int)>0 by decide,if_true];by_cases h:i<0
      · simp only [h,if_true] <;> omega
      · simp only [h,if_false] <;> omega
  · cases hi with
    | none=>simp [sliceBounds,HT.sIx]
    | some i=>
      simp only [sliceBounds,HT.sIx,Option.getD_none,show (1:Int)>0 by decide,if_true];by_cases h:i<0
      · simp only [h,if_true] <;> omega
      · simp only [h,if_false] <;> omega
theorem F8 (its:List Value) (lo hi:Option Int):slicePick its.toArray lo hi none=((its.drop (HT.sIx its.length 0 lo)).take (HT.sIx its.length its.length hi - HT.sIx its.length 0 lo)).toArray:=by
  obtain ⟨h1,h2,h3⟩:=Hb lo hi its.toArray.size;unfold slicePick;rw [h1,h2,h3];simp only [sliceRange_one,pick_run,List.size_toArray] <;> rfl
def OM (K:PySem.W.Frag):V->Option Int->Option Int->Hp->VK->Prop:=λ x lo hi H Q=>∃ a xs,x= .ref a/\SqL K H a xs/\∀ p,H p=none->Q (.ref p) (upd H p (.lst (Hq xs lo hi)))
theorem NI:SlR X (OM X.K):=by
  intro pins s σ H x v vl vu lo hi sl Q I rx hs pl pu h;obtain ⟨a,xs,rfl,hx,q⟩:=h;cases rx;obtain ⟨its,r,ht,hz⟩:=I.list hx;have hlen:=r.length;refine ⟨"list",_,slot_list_getitem.lookup,ht.isList.typeIs,?_⟩;refine wpAny_getItem_list_slice ht.isList hs pl pu .none (by simp) ?_ (by rw [List.size_toArray] <;> omega);rw [F8, <-hlen];refine ⟨.ref s.heap.objs.size,_,I.laid (t':=s.toks) (o:= .lst (Hq xs lo hi)) (λ b ob q=>Heap.get?_push_of_some _ q) (Nat.le_refl _) ?_,rfl,q _ (I.hok.fresh (Nat.le_refl _))⟩;exact ⟨Nat.le_trans (HH xs lo hi) hz,_,0,(r.drop (HT.sIx xs.length 0 lo)).take (HT.sIx xs.length xs.length hi - HT.sIx xs.length 0 lo),Heap.get?_push_size _ rfl⟩
def Bu:V->Bool
  | .non=>true
  | .bl _=>true
  | .int _=>true
  | .str _=>true
  | _=>false
def eqV:V->V->Bool
  | .non, .non=>true
  | .bl a, .bl b=>a == b
  | .bl a, .int b=>(if a then 1 else 0) == b
  | .int a, .bl b=>a == (if b then 1 else 0)
  | .int a, .int b=>a == b
  | .str a, .str b=>a == b
  | _,_=>false
theorem K1 {A:Around} {s:Shared} {y x:V} {u v:Value} (ry:RelV y u) (rx:RelV x v) (fy:Bu y=true) (fx:Bu x=true):SeqAt.EqAt A s u v (eqV y x):=by
  cases y with
  | non=>
    cases ry;cases x with
    | non=>cases rx;exact SeqAt.EqAt.same _
    | bl b=>cases rx;exact SeqAt.EqAt.none_bool b
    | int b=>obtain ⟨t,rfl⟩:=rx;exact SeqAt.EqAt.none_int b t
    | str b=>obtain ⟨t,rfl⟩:=rx;exact SeqAt.EqAt.none_str b t
    | _=>exact absurd (show false=true from fx) Bool.false_ne_true
  | bl a=>
    cases ry;cases x with
    | non=>cases rx;exact SeqAt.EqAt.bool_none a
    | bl b=>cases rx;exact SeqAt.EqAt.bool_bool a b
    | int b=>obtain ⟨t,rfl⟩:=rx;exact SeqAt.EqAt.bool_int a b t
    | str b=>obtain ⟨t,rfl⟩:=rx;exact SeqAt.EqAt.bool_str a b t
    | _=>exact absurd (show false=true from fx) Bool.false_ne_true
  | int a=>
    obtain ⟨t',rfl⟩:=ry;cases x with
    | non=>cases rx;exact SeqAt.EqAt.int_none a t'
    | bl b=>cases rx;exact SeqAt.EqAt.int_bool a t' b
    | int b=>obtain ⟨t,rfl⟩:=rx;exact SeqAt.EqAt.int_int a t' b t
    | str b=>obtain ⟨t,rfl⟩:=rx;exact SeqAt.EqAt.int_str a t' b t
    | _=>exact absurd (show false=true from fx) Bool.false_ne_true
  | str a=>
    obtain ⟨t',rfl⟩:=ry;cases x with
    | non=>cases rx;exact SeqAt.EqAt.str_none a t'
    | bl b=>cases rx;exact SeqAt.EqAt.str_bool a t' b
    | int b=>obtain ⟨t,rfl⟩:=rx;exact SeqAt.EqAt.str_int a t' b t
    | str b=>obtain ⟨t,rfl⟩:=rx;exact SeqAt.EqAt.str_str a t' b t
    | _=>exact absurd (show false=true from fx) Bool.false_ne_true
  | _=>exact absurd (show false=true from fy) Bool.false_ne_true
def eqU (x:V) (u:Value):Bool:=match u with
  | .none=>eqV .non x
  | .bool b=>eqV (.bl b) x
  | .int i _=>eqV (.int i) x
  | .str z _=>eqV (.str z) x
  | _=>false
theorem Mq {x y:V} {u:Value} (r:RelV y u) (f:Bu y=true):eqU x u=eqV y x:=by
  cases y with
  | non=>cases r;rfl
  | bl b=>cases r;rfl
  | int i=>obtain ⟨t,rfl⟩:=r;rfl
  | str z=>obtain ⟨t,rfl⟩:=r;rfl
  | _=>exact absurd (show false=true from f) Bool.false_ne_true
theorem GY {x:V}:∀ {xs:List V} {us:List Value},Vals xs us->xs.all Bu=true->us.any (eqU x)=xs.any λ y=>eqV y x
  | _,_, .nil,_=>rfl
  | y::xs,u::us, .cons r t,f=>by
    rw [List.all_cons,Bool.and_eq_true] at f;rw [List.any_cons,List.any_cons,Mq r f.1,GY t f.2]
theorem Fu {A:Around} {s:Shared} {x:V} {v:Value} (rx:RelV x v) (fx:Bu x=true):∀ {xs:List V} {us:List Value},Vals xs us->xs.all Bu=true->∀ u∈us,SeqAt.EqAt A s u v (eqU x u)
  | _,_, .nil,_=>λ u hu=>by cases hu
  | y::xs,u::us, .cons r t,f=>λ u' hu=>by
    rw [List.all_cons,Bool.and_eq_true] at f;rcases List.mem_cons.mp hu with rfl | hu
    · rw [Mq r f.1];exact K1 r rx f.1 fx
    · exact Fu rx fx t f.2 u' hu
def inV (x:V) (xs:List V):Bool:=xs.any λ y=>eqV y x
def rIn (K:PySem.W.Frag) (neg:Bool):R2:=λ x y H Q=>∃ p xs,y= .ref p/\(SqL K H p xs\/SqT K H p xs)/\Bu x=true/\xs.all Bu=true/\Q (.bl (if neg then !inV x xs else inV x xs)) H
theorem KN:OpR X (compareOp .In) (rIn X.K false):=by
  intro pins s σ H x y v u Q I rx ry h;obtain ⟨p,xs,rfl,hq,fx,fs,q⟩:=h;cases ry;rcases hq with hq | hq
  · obtain ⟨its,r,pl,hz⟩:=I.list hq;refine SeqAt.in_listAt (eqU x) pl.isList (λ w hw=>Fu rx fx r fs w (by simpa using hw)) ⟨.bl _,H,I,rfl,?_⟩;rw [show its.toArray.any (eqU x)=its.any (eqU x) by simp,GY r fs];exact q
  · obtain ⟨its,r,pl,hz⟩:=I.tuple hq;refine SeqAt.in_tupleAt (eqU x) pl (λ w hw=>Fu rx fx r fs w (by simpa using hw)) ⟨.bl _,H,I,rfl,?_⟩;rw [show its.toArray.any (eqU x)=its.any (eqU x) by simp,GY r fs];exact q
theorem G0:Bt X (.type "list") (λ xs H Q=>∃ p ys,xs=[.ref p]/\(SqL X.K H p ys\/SqT X.K H p ys)/\∀ l,H l=none->Q (.ref l) (upd H l (.lst ys))):=by
  intro pins s σ H xs us Q I r h;obtain ⟨p,ys,rfl,hq,q⟩:=h;obtain ⟨u,rfl,rx⟩:=FK r;cases rx;have fin:∀ (its:List Value),Vals ys its->ys.length<=sizeLine->∀ (h':Heap) (c':Nat),(∀ b o',s.heap.get? b=some o'->h'.get? b=some o')->
      h'.get? s.heap.objs.size=some { cls:= .type "list",dict:=none,data:= .seq its.toArray c',slots:= #[] }->EP X pins σ Q (.ref s.heap.objs.size) { s with heap:=h' }:=λ its r' hz h' c' kp e=>
    ⟨.ref s.heap.objs.size,_,I.laid (t':=s.toks) kp (Nat.le_refl _) (show ObjOk X.prog X.w _ h' _ (.lst ys) from ⟨hz,its,c',r',e⟩),rfl,q _ (I.hok.fresh (Nat.le_refl _))⟩
  rcases hq with hq | hq
  · obtain ⟨its,r',pl,hz⟩:=I.list hq;have hlen:=r'.length;obtain ⟨o,ho,hc,n,hd⟩:=pl.isList;exact call_list_seq p (.inl rfl) ho hc hd (λ h' c' kp e=>fin its r' hz h' c' kp e) (by simp only [List.size_toArray] <;> omega)
  · obtain ⟨its,r',pl,hz⟩:=I.tuple hq;have hlen:=r'.length;obtain ⟨o,ho,hc,n,hd⟩:=pl;exact call_list_seq p (.inr rfl) ho hc hd (λ h' c' kp e=>fin its r' hz h' c' kp e) (by simp only [List.size_toArray] <;> omega)
theorem Gm:Bt X (.type "tuple") (λ xs H Q=>∃ p ys,xs=[.ref p]/\((SqL X.K H p ys/\∀ l,H l=none->Q (.ref l) (upd H l (.tup ys)))\/(SqT X.K H p ys/\Q (.ref p) H))):=by
  intro pins s σ H xs us Q I r h;obtain ⟨p,ys,rfl,h⟩:=h;obtain ⟨u,rfl,rx⟩:=FK r;cases rx;rcases h with ⟨hq,q⟩ | ⟨hq,q⟩
  · obtain ⟨its,r',pl,hz⟩:=I.list hq;have hlen:=r'.length;refine call_tuple_list pl.isList (λ h' kp=> ?_) (by simp only [List.size_toArray] <;> omega);have I1:Inv X pins σ H { s with heap:=h' }:=I.kept (t':=s.toks) kp;have I2:Inv X pins σ (upd H h'.objs.size (.tup ys)) { s with heap:=h'.push { cls:= .type "tuple",data:= .seq its.toArray } }:=
      I1.laid (t':=s.toks) (λ b o e=>Heap.get?_push_of_some _ e) (Nat.le_refl _) (show ObjOk X.prog X.w _ _ _ (.tup ys) from ⟨hz,its,r',IsTup.new _ _⟩)
    exact ⟨.ref h'.objs.size,_,I2,rfl,q _ (I1.hok.fresh (Nat.le_refl _))⟩
  · obtain ⟨its,r',pl,hz⟩:=I.tuple hq;exact call_tuple_same pl ⟨.ref p,H,I,rfl,q⟩
def tyV (K:PySem.W.Frag) (T:String) (x:V) (H:Hp):Prop:=match x with
  | .str _=>T="str"
  | .int _=>T="int"
  | .ref p=>(T="list"/\∃ xs,SqL K H p xs)\/(T="tuple"/\∃ o,K.lookup p=some o/\o.cls= .type "tuple"/\o.dict=none)\/
      (T="dict"/\((∃ kvs,H p=some (.dK kvs))\/∃ kvs,H p=some (.dT kvs)))\/(T="set"/\∃ S n,H p=some (.set S n))
  | _=>False
theorem Pg {pins:List (Addr × Obj)} {σ:St} {H:Hp} {s:Shared} {T:String} {x:V} {v:Value} (I:Inv X pins σ H s) (r:RelV x v) (ty:tyV X.K T x H):
    s.TypeIs v T/\∀ a,v= .ref a->∃ ob,s.heap.get? a=some ob/\ob.dict=none:=by
  cases x with
  | str z=>
    obtain ⟨t,rfl⟩:=r;cases (show T="str" from ty);exact ⟨typeIs_str s z t,λ _ e=>nomatch e⟩
  | int i=>
    obtain ⟨t,rfl⟩:=r;cases (show T="int" from ty);exact ⟨typeIs_int s i t,λ _ e=>nomatch e⟩
  | ref p=>
    cases r;rcases ty with ⟨rfl,xs,hq⟩ | ⟨rfl,o,hk,hc,hd⟩ | ⟨rfl,hk⟩ | ⟨rfl,S,n,hk⟩
    · obtain ⟨its,_,pl,_⟩:=I.list hq;refine ⟨pl.isList.typeIs,λ a e=> ?_⟩;cases e;obtain ⟨o,n,e,c,hd,_⟩:=pl;exact ⟨o,e,hd⟩
    · refine ⟨⟨o,I.kIn p o hk,hc⟩,λ a e=> ?_⟩;cases e;exact ⟨o,I.kIn _ o hk,hd⟩
    · have z:∃ o,s.heap.get? p=some o/\o.ExactDict:=by
        rcases hk with ⟨kvs,hk⟩ | ⟨kvs,hk⟩
        · obtain ⟨_,_,_,_,o,_,_,e,ex,_⟩:=I.hok p _ hk;exact ⟨o,e,ex⟩
        · obtain ⟨_,_,_,_,o,_,_,e,ex,_⟩:=I.hok p _ hk;exact ⟨o,e,ex⟩
      obtain ⟨o,e,ex⟩:=z;refine ⟨⟨o,e,ex.1⟩,λ a e2=> ?_⟩;cases e2;exact ⟨o,e,ex.2.1⟩
    · obtain ⟨o,_,_,_,e,ex,_⟩:=I.hok p _ hk;refine ⟨⟨o,e,ex.1⟩,λ a e2=> ?_⟩;cases e2;exact ⟨o,e,ex.2.1⟩
  | _=>exact False.elim ty
def tBM (K:PySem.W.Frag) (T:String) (r:V->List V->Hp->VK->Prop) (to:TE) (t:TA):TE:=λ σ H Q=>to σ H λ x H1=>tyV K T x H1/\t σ H1 λ xs H2=>r x xs H2 Q
variable {o e:Expr} {es:List Expr} {to:TE} {t:TA} {name:Str} {apos cpos:Pos} {T id:String} {r:V->List V->Hp->VK->Prop}
theorem Ts (pa:PlainAttrs T) (slot:Slot T name id) (hty:typeOf (.builtin id)=pure (.type "method_descriptor")) (hm:MtR X id r) (ho:PE X o to) (ha:PA X (e::es) t)
    (hbase:attributeBase o name X.env (eval o X.env)=eval o X.env:=by rfl)
    (hfew:((backTo cpos (starEach (e::es) X.env)).all (λ x=> !x.1)&&(backToKw cpos (keywordEach [] X.env)).all (λ x=>x.1.isSome)
      && decide ((e::es).length+([]:List Keyword).length+(if ([]:List Keyword).isEmpty then 0 else 1)<30))=true:=by rfl)
    (hline:(apos.endLine == cpos.line)=true:=by rfl) (hs:starEach (e::es) X.env=(false,eval e X.env)::starEach es X.env:=by rfl) (hplain:(backTo cpos (starEach es X.env)).any (·.1)=false:=by rfl):
    PE X (.Call (.Attribute o name apos) (e::es) [] cpos) (tBM X.K T r to t):=by
  intro pins s σ H Q I h;refine wpAny_Call_method_late hbase hfew hline rfl (thn (ho pins s σ H _ I h) λ v s1 ⟨x,H1,I1,r1,ty,q1⟩=> ?_);obtain ⟨h1,h2⟩:=Pg I1 r1 ty;refine ⟨T,id,pa,slot,hty,h1,h2,?_⟩;have hA:=ha cpos pins s1 σ H1 _ I1 q1;rw [hs] at hA ⊢;refine Calls.callWith_builtin (by show (false||(backTo cpos (starEach es X.env)).any (·.1))=false;rw [hplain] <;> rfl) (Calls.evalArgs_plain ?_);exact thn hA λ us s2 ⟨vs,H2,I2,r2,q2⟩=>hm pins s2 σ H2 x vs v us Q I2 r1 r2 q2
end
def MtM (X:Cx) (id:String) (r:V->List V->Hp->VK->Prop):Prop:=
  ∀ (pins:List (Addr × Obj)) (s:Shared) (σ:St) (H:Hp) (x:V) (xs:List V) (v:Value) (us:List Value) (Q:VK),Inv X pins σ H s->RelV x v->Vals xs us->r x xs H Q->
    wpAny (model X.prog X.w) X.A (call (.builtin id) (v::us)) (EP X pins σ Q) X.xe s
theorem Vals.one:∀ {x:V} {us:List Value},Vals [x] us->∃ u,us=[u]/\RelV x u
  | _,_, .cons r .nil=>⟨_,rfl,r⟩
theorem Vals.rep {xs:List V} {us:List Value} (h:Vals xs us):∀ k:Nat,Vals (List.replicate k xs).flatten (List.replicate k us).flatten
  | 0=> .nil
  | k+1=>by
    rw [List.replicate_succ,List.replicate_succ,List.flatten_cons,List.flatten_cons];exact Vals.append h (Vals.rep h k)
theorem GB (its:List Value):∀ (k:Nat) (acc:List Value),
    List.foldl (λ x1 x2=>x1++x2) acc.toArray (List.replicate k its.toArray)=(acc++(List.replicate k its).flatten).toArray
  | 0,acc=>by simp
  | k+1,acc=>by
    have e:acc.toArray++its.toArray=(acc++its).toArray:=by simp
    have e2:(acc++its)++(List.replicate k its).flatten=acc++(List.replicate (k+1) its).flatten:=by
      rw [List.replicate_succ,List.flatten_cons,List.append_assoc]
    rw [<-e2, <-GB its k (acc++its), <-e,List.replicate_succ,List.foldl_cons]
section
variable {X:Cx} {pins:List (Addr × Obj)} {σ:St} {H:Hp} {s:Shared} {l b:Addr} {xs ys zs:List V}
theorem Inv.lset {its its':List Value} {n:Nat} {f:Array Value->Array Value} {t':Nat} (I:Inv X pins σ H s) (hH:H l=some (.lst xs))
    (e:s.heap.get? l=some { cls:= .type "list",data:= .seq its.toArray n }) (hf:f its.toArray=its'.toArray) (hv:Vals ys its') (hz:ys.length<=sizeLine):
    Inv X pins σ (upd H l (.lst ys)) { s with heap:=s.heap.update l (Obj.mapSeq f),toks:=t' }:=by
  have q:=PySem.IsL.update e f;rw [hf] at q;refine I.write (x:=l) (e:=l) (by rw [hH];exact trivial) (.inl rfl) (λ b' u hb hu=>(Heap.get?_update_other s.heap (Obj.mapSeq f) (Ne.symm hb)).trans hu) ⟨_,q⟩ ?_;exact ⟨hz,its',_,hv,q⟩
theorem Inv.lnew {its:List Value} {t':Nat} (I:Inv X pins σ H s) (hv:Vals ys its) (hz:ys.length<=sizeLine):
    Inv X pins σ (upd H s.heap.objs.size (.lst ys)) { s with heap:=s.heap.push { cls:= .type "list",data:= .seq its.toArray },toks:=t' }:=
  I.laid (λ _ _ q=>Heap.get?_push_of_some _ q) (Nat.le_refl _) ⟨hz,its,0,hv,Heap.get?_push_size _ rfl⟩
theorem Inv.fresh (I:Inv X pins σ H s):H s.heap.objs.size=none:=I.hok.fresh (Nat.le_refl _)
theorem Inv.lstM (I:Inv X pins σ H s) (hH:H l=some (.lst xs)):xs.length<=sizeLine/\∃ (its:List Value) (n:Nat),Vals xs its/\xs.length=its.length/\s.heap.get? l=some { cls:= .type "list",data:= .seq its.toArray n }:=by
  obtain ⟨z,its,n,r,e⟩:=I.hok l _ hH;exact ⟨z,its,n,r,r.length,e⟩
theorem Lh {n:Nat} (h:n<=sizeLine):Builtin.List.listTooLong n=false:=by
  unfold Builtin.List.listTooLong;exact decide_eq_false (by omega)
end
section
variable {X:Cx}
def rAppend:V->List V->Hp->VK->Prop:=λ x vs H Q=>∃ l xs y,x= .ref l/\vs=[y]/\H l=some (.lst xs)/\xs.length<sizeLine/\Q .non (upd H l (.lst (xs++[y])))
theorem GJ:MtM X "list.append" rAppend:=by
  intro pins s σ H x vs v us Q I rx rv h;obtain ⟨l,xs,y,rfl,rfl,hH,hz,q⟩:=h;cases rx;obtain ⟨u,rfl,ru⟩:=rv.one;obtain ⟨z,its,n,r,hl,e⟩:=I.lstM hH;refine call_meets F.slot_list_append ⟨_,e,rfl⟩ F.entry_list_append (F.args_list_append_2 _ _) (PySem.list_append l its.toArray n u (by rw [List.size_toArray];omega)) ⟨e,?_⟩;refine ⟨.non,_,I.lset (its':=its++[u]) hH e (by simp) (r.append (.cons ru .nil)) ?_,rfl,q⟩;rw [List.length_append,List.length_singleton];omega
def QR:R2:=λ x y H Q=>∃ l k xs,x= .ref l/\y= .int k/\H l=some (.lst xs)/\ -(2 ^ 63)<=k/\k<2 ^ 63/\xs.length*k.toNat<=sizeLine/\
  ∀ p,H p=none->Q (.ref p) (upd H p (.lst (List.replicate k.toNat xs).flatten))
theorem Nx {α:Type} (xs:List α) (k:Nat):(List.replicate k xs).flatten.length=k*xs.length:=by
  induction k with
  | zero=>simp
  | succ k ih=>rw [List.replicate_succ,List.flatten_cons,List.length_append,ih,Nat.succ_mul,Nat.add_comm]
theorem Ld:OpR X (binaryOp .Mult) QR:=by
  intro pins s σ H x y v u Q I rx ry h;obtain ⟨l,k,xs,rfl,rfl,hH,h1,h2,hz,q⟩:=h;cases rx;obtain ⟨t,rfl⟩:=ry;obtain ⟨z,its,n,r,hl,e⟩:=I.lstM hH;have hlen:its.toArray.size*k.toNat<=sizeLine:=by rw [List.size_toArray, <-hl];exact hz
  have hcap:¬ its.toArray.size*k.toNat>(2 ^ 63 - 1) / 8:=by
    have:(sizeLine:Nat)<=(2 ^ 63 - 1) / 8:=by decide
    omega
  have hfit:¬ (!Builtin.List.listFitsIndex k)=true:=by
    rw [fitsIndex_both h1 h2];exact Bool.false_ne_true
  have hlong:¬ Builtin.List.listTooLong (its.toArray.size*k.toNat)=true:=by
    rw [Lh hlen];exact Bool.false_ne_true
  have hnew:List.foldl (λ x1 x2=>x1++x2) #[] (List.replicate (if its.toArray.isEmpty=true then 0 else k.toNat) its.toArray)=(List.replicate k.toNat its).flatten.toArray:=by
    have f0:∀ m:Nat,List.foldl (λ x1 x2=>x1++x2) #[] (List.replicate m its.toArray)=(List.replicate m its).flatten.toArray:=λ m=>by
      have:=GB its m [];rw [List.nil_append] at this;exact this
    rw [f0];cases its with
    | nil=>simp
    | cons a r'=>rw [if_neg (by simp)]
  refine wpAny_binaryOp_repeat_ref (T:="list") (U:="int") (by decide) ⟨_,e,rfl⟩ (λ s'=>typeIs_int s' k t) noFill_list_mul F.fills_int_mul F.slot_int_rmul repeat_list F.slot_int_index.lookup
    (call_meets F.slot_int_rmul (typeIs_int s k t) F.entry_int_rmul (F.args_int_rmul_2 _ _) (int___rmul___int_list k t l its.toArray n)
      ⟨e,rfl,⟨_,e,rfl⟩,call_meets F.slot_list_mul ⟨_,e,rfl⟩ F.entry_list_mul (F.args_list_mul_2 _ _) (AutoListH.list___mul___list_int_3 l its.toArray n k t hfit hcap hlong) ⟨e,?_⟩⟩)
  rw [hnew];exact ⟨.ref _,_,I.lnew (t':=s.toks) (r.rep k.toNat) (by rw [Nx,Nat.mul_comm];exact hz),rfl,q _ I.fresh⟩
end
section
variable {prog:Program} {w:World} {A:Around} {E:Value->Shared->Prop} {s:Shared}
end
section
variable {X:Cx}
end
end L2
namespace Att
open PySem PySem.W PySem.Calls PyProof.Rows
theorem E9 {P:Params} {h:Heap}:∀ (ns:List Int) (vs:List Value),WellAll P h vs (ns.map WData.int)->IntsAre vs ns:=by
  intro ns
  induction ns with
  | nil=>
    intro vs w;rw [List.map_nil] at w;cases w;exact .nil
  | cons n ns ih=>
    intro vs w;rw [List.map_cons] at w;cases w with
    | cons a b=>
      cases a;exact .cons _ _ (ih _ b)
theorem Kg {l:OpenLaw} {n:Nat} (hn:l.most=some n) {P:Params} {h:Heap} {args:List WData} {vals:List Value}
    (hpre:l.row.toRowW.claim.pre args=true) (hwl:WellAll P h vals args):
    ∃ a vs ns,vals=[Value.ref a]/\args=[WData.list (ns.map WData.int)]/\h.get? a=some { cls:= .type "list",data:= .seq vs.toArray }/\IntsAre vs ns/\ns.length<=n:=by
  have hsh:WShape.hasAll [] args [.list .int]=true:=(pre_splitW hpre).1;have hc:l.pre.holds [] { args:=args }=true:=(pre_splitW hpre).2;obtain ⟨d,r,rfl,h1,h2⟩:=hasAllW_cons hsh;obtain rfl:=hasAllW_nil h2;obtain ⟨xs,rfl,h3⟩:=hasW_list h1;obtain ⟨ns,rfl⟩:=items_int h3;have hlen:ns.length<=n:=by
    unfold OpenLaw.pre at hc;have h4:(WTm.not (.lt (.lit (.int (n:Int))) (.len (.arg 0)))).holds [] { args:=[.list (ns.map .int)] }=true:=by
      have h4:=(holds_andW hc).1;rw [hn] at h4;exact h4
    have h5:=condW_of h4 (w_not (w_lt w_lit (w_len_list (w_arg rfl))));rw [List.length_map] at h5;refine Nat.le_of_not_lt λ q=> ?_;have q':(n:Int)<((ns.length:Nat):Int):=by omega
    first
      | (rw [decide_eq_true q'] at h5;exact absurd h5 (by decide))
      | (simp at h5;omega)
  cases hwl with
  | cons w1 w2=>
    cases w2;cases w1 with
    | list ho hall=>exact ⟨_,_,ns,rfl,rfl,ho,E9 ns _ hall,hlen⟩
theorem J6 (l:OpenLaw) (args:List WData):l.row.toRowW.claim.post args (.bool true) args=true:=
  postW_of (r:=l.row.toRowW) (X:=(true == true))
    (show WShape.has [] (.bool true) .bool=true by first | rfl | decide | simp [WShape.has,WShape.arms,WShape.armsAll])
    (show (WTm.eq .res (.lit (.bool true))).value [] { args:=args,res:=some (.bool true),after:=args }=some (.bool (true == true)) from w_eq_bool (w_res rfl) w_lit) rfl
theorem attach_call {l:OpenLaw} {n:Nat} {q:Program} {loose:List Str} {XP:(Str->Option Value)->Heap->Prop} {YP:World->Heap->Prop} {d:DefRec}
    (hn:l.most=some n) (hdf:d.params.defaults=[])
    (call:∀ (w:World) (s₀ s₁:Shared) (mg mb:Str->Option Value) (fa:Addr) (o:Obj) (pm cd doc:Value) (a:Addr) (vs:List Value) (ns:List Int),
      Ground q loose [] XP w s₀ mg mb s₁.heap->YP w s₁.heap->
      s₁.heap.get? fa=some o->o.data= .func (docDef d.name d.params d.body d.scope pm cd doc)->s₁.heap.CodeRec cd d.name->mg d.name=some (.ref fa)->
      s₁.heap.get? a=some { cls:= .type "list",data:= .seq vs.toArray }->IntsAre vs ns->ns.length<=n->s₁.gens= #[]->
      codeAny (model l.prog w) callerA (.call (.ref fa) ⟨[.ref a],[]⟩) (λ r s'=>r= .ok (.ret (.bool true))/\OldK s₁.heap s'.heap/\s'.os=s₁.os/\AllBare s'.gens) s₁):
    WalkO q loose XP YP l.row.toRowW d [] (λ f vs=>PySem.call f vs):=by
  intro w s₀ s₁ mg mb G Y fa o pm cd doc dV kV ho hd hcd hD hmg hg args vals as hpre hlay hrd hwl hlo;obtain rfl:dV= .none:=Dflts.none hD hdf;obtain rfl:kV= .none:=Dflts.noKw hD;obtain ⟨a,vs,ns,rfl,rfl,hobj,hints,hlen⟩:=Kg hn hpre hwl;refine enter_call (codeAny_mono (call w s₀ s₁ mg mb fa o pm cd doc a vs ns G Y ho (fd_plain hd) hcd hmg hobj hints hlen hg) λ r s' hq=> ?_);obtain ⟨rfl,h2,h3,h4⟩:=hq;exact ⟨.inl ⟨.bool true, .bool true,[],rfl,λ _=>rfl, .bool true,J6 l _,λ _=>⟨List.Pairwise.nil,λ _ hm=>(nomatch hm)⟩⟩,h2,h3,h4⟩
section
variable {prog:Program} {w:World} {A:Around} {E:Value->Shared->Prop} {s:Shared} {K:Frag}
end
end Att
namespace L2
open PySem PySem.Spec PyProof.Rows
theorem GI:∀ {vs:List Value} {ns:List Int},IntsAre vs ns->Vals (ns.map V.int) vs
  | _,_, .nil=> .nil
  | _,_, .cons n t h=> .cons ⟨t,rfl⟩ (GI h)
def Pj (H:Hp):Prop:=∀ b,H b=none\/∃ o xs,H b=some (.frz o (.lst xs))
theorem L7 {P:Program} {w:World} {K:PySem.W.Frag} {mg mb:Str->Option Value} {CX:CXT} {k:Nat} {fa a:Addr} {fd:FuncData} {x:Str} {sp:Sp} {s₁:Shared} {vs:List Value} {ns:List Int}
    (KX:K.In s₁.heap) (hns:s₁.heap.Ns mainGlobals mg) (hb:s₁.heap.Ns builtinsNs mb) (hbb:∀ x:Str,x≠"__name__"->mb x=bootBuiltins x) (hlim:s₁.heap.NoLimit) (hg:s₁.gens= #[])
    (ha:s₁.heap.get? a=some { cls:= .type "list",data:= .seq vs.toArray }) (hi:IntsAre vs ns) (hl:ns.length<=sizeLine) (hr:Room k callerA)
    (F:∀ base:Heap,K.In base->base.Ns mainGlobals mg->FnOk P w K mg base CX k fa fd [x] sp) (hbind:∀ (s:Shared) (u:Value),BindsTo s fd ⟨[u],[]⟩ [(x,u)])
    (hsp:∀ H:Hp,Pj H->SqL K H a (ns.map V.int)->sp [.ref a] H (λ v _=>v= .bl true) λ _ _ _=>False)
    (hCX:∀ H e s',CX [] H s₁ (λ _ _ _=>False) e s'->False):
    codeAny (model P w) callerA (.call (.ref fa) ⟨[.ref a],[]⟩) (λ r s'=>r= .ok (.ret (.bool true))/\OldK s₁.heap s'.heap/\s'.os=s₁.os/\AllBare s'.gens) s₁:=by
  have rv:=GI hi;have lenV:=hi.length;have core:∀ H:Hp,Pj H->SqL K H a (ns.map V.int)->HOk P w H s₁.heap->(∀ b,H b≠none->b=a)->(H a≠none->K.lookup a=none)->
      codeAny (model P w) callerA (.call (.ref fa) ⟨[.ref a],[]⟩) (λ r s'=>r= .ok (.ret (.bool true))/\OldK s₁.heap s'.heap/\s'.os=s₁.os/\AllBare s'.gens) s₁:=by
    intro H hO hS hok hA hK;have base_of:∀ {b:Addr} {o:Obj},s₁.heap.get? b=some o->H b=none->(Hd s₁.heap H).get? b=some o:=λ e n=>LD e n;have noA:∀ {b:Addr} {o:Obj} {es:Array DictEntry} {ep:Nat},s₁.heap.get? b=some o->o.data= .dict es ep->H b=none:=λ {b o es ep} e d=>by
      cases q:H b with
      | none=>rfl
      | some u=>
        have e':b=a:=hA b (by rw [q];simp);subst e';rw [ha] at e;cases e;have d':Data.seq vs.toArray _=Data.dict es ep:=d;cases d'
    have nsK:∀ {b:Addr} {m:Str->Option Value},s₁.heap.Ns b m->(Hd s₁.heap H).Ns b m:=λ {b m} ⟨o,es,ep,e,d,r⟩=>⟨o,es,ep,base_of e (noA e d),d,r⟩;have hKb:K.In (Hd s₁.heap H):=λ b o e=>base_of (KX b o e) (by
      cases q:H b with
      | none=>rfl
      | some u=>
        have e':b=a:=hA b (by rw [q];simp);subst e';rw [hK (by rw [q];simp)] at e;cases e)
    have hM:Mod K mg (Hd s₁.heap H):=⟨hKb,nsK hns,⟨mb,nsK hb,hbb⟩,let ⟨mc,h1,h2⟩:=hlim;⟨mc,nsK h1,h2⟩⟩;have e0:Env0 P w K mg (Hd s₁.heap H) callerA [] s₁ H:=⟨rfl,hM,λ b o e=>NN e,Nat.le_of_eq (KL _ _),trivial,λ b hb=>absurd (show b∈([]:List Addr) from hb) (by simp),hok, .of_eq hg⟩;refine codeAny_mono ((F _ hKb (nsK hns)).run callerA [] s₁ H ⟨[.ref a],[]⟩ [.ref a] [.ref a] _ _ hr e0 (hbind s₁ (.ref a)) (.cons rfl .nil) (hsp H hO hS)) λ r s' h=> ?_;cases r with
    | error e=>exact (hCX H e s' h).elim
    | ok fl=>
      cases fl with
      | next=>exact False.elim h
      | brk=>exact False.elim h
      | cont=>exact False.elim h
      | ret u=>
        obtain ⟨v,H',os,bare,un,hok',r',q⟩:=h;have q':v= .bl true:=q;subst q';obtain rfl:u=Value.bool true:=r';refine ⟨rfl,OldK.of_keep λ b o e=> ?_,os,bare⟩;cases q:H b with
        | none=>exact un.keep b o e q (by intro z;exact absurd (show b∈([]:List Addr) from z) (by simp)) (by simp)
        | some u=>
          rcases hO b with z | ⟨ob,xs,z⟩
          · rw [q] at z;cases z
          · have z2:=un.frzs b ob _ z;obtain ⟨e1,_⟩:=hok b _ z;obtain ⟨e2,_⟩:=hok' b _ z2;rw [e] at e1;cases e1;exact e2
  cases hk:K.lookup a with
  | some o=>
    have e:=KX a o hk;rw [ha] at e;cases e;refine core (λ _=>none) (λ _=> .inl rfl) (.inr ⟨_,vs.toArray,_,hk,rfl,rfl,rfl,by rw [List.size_toArray,lenV];exact hl,by simpa using rv⟩) (λ b u z=>by have z':(none:Option HO)=some u:=z;cases z') (λ b z=>absurd rfl z) λ z=>absurd rfl z
  | none=>
    refine core (λ b=>if b=a then some (.frz { cls:= .type "list",data:= .seq vs.toArray } (.lst (ns.map V.int))) else none) (λ b=> ?_) (.inl (.inr ⟨{ cls:= .type "list",data:= .seq vs.toArray },if_pos rfl⟩)) (λ b u z=> ?_) (λ b z=> ?_) λ _=>hk
    · by_cases hb:b=a
      · exact .inr ⟨_,_,if_pos hb⟩
      · exact .inl (if_neg hb)
    · by_cases hb:b=a
      · have z':=(if_pos hb).symm.trans z;cases z';subst hb;exact ⟨ha,by rw [List.length_map];exact hl,vs,_,rv,ha⟩
      · have z':=(if_neg hb).symm.trans z;cases z'
    · by_cases hb:b=a
      · exact hb
      · exact absurd (if_neg hb) z
theorem walk_of {l:PySem.W.OpenLaw} {n k:Nat} {q:Program} {loose:List Str} {XP:(Str->Option Value)->Heap->Prop} {YP:World->Heap->Prop} {d:DefRec} {K:Params->PySem.W.Frag} {CX:World->CXT} {sp:World->Sp} {x:Str}
    (hn:l.most=some n) (hn2:n<=sizeLine) (hdf:d.params.defaults=[]) (hr:Room k callerA)
    (hY:∀ (w:World) (h:Heap),YP w h->(K w.params).In h)
    (F:∀ (w:World) (mg:Str->Option Value) (fa:Addr) (h:Heap),(K w.params).In h->h.Ns mainGlobals mg->mg d.name=some (.ref fa)->
      ∃ fd:FuncData,(∀ (s:Shared) (u:Value),BindsTo s fd ⟨[u],[]⟩ [(x,u)])/\
        ∀ base:Heap,(K w.params).In base->base.Ns mainGlobals mg->FnOk l.prog w (K w.params) mg base (CX w) k fa fd [x] (sp w))
    (hsp:∀ (w:World) (H:Hp) (a:Addr) (ns:List Int),ns.length<=n->Pj H->SqL (K w.params) H a (ns.map V.int)->sp w [.ref a] H (λ v _=>v= .bl true) λ _ _ _=>False)
    (hCX:∀ (w:World) (H:Hp) (s:Shared) (e:Value) (s':Shared),CX w [] H s (λ _ _ _=>False) e s'->False):
    PySem.W.WalkO q loose XP YP l.row.toRowW d [] (λ f vs=>PySem.call f vs):=by
  refine Att.attach_call hn hdf λ w s₀ s₁ mg mb fa o pm cd doc a vs ns G Y ho hd hcd hmg hobj hints hlen hg=> ?_;have KX:=hY w _ Y;obtain ⟨fd,hb,hF⟩:=F w mg fa _ KX G.T.g hmg;exact L7 KX G.T.g G.T.b G.T.builtins G.T.nolimit hg hobj hints (Nat.le_trans hlen hn2) hr hF hb (λ H hO hS=>hsp w H a ns hlen hO hS) λ H e s'=>hCX w H s₁ e s'
abbrev CX0:CXT:=λ _ _ _ _ _ _=>False
abbrev E0:XK:=λ _ _ _=>False
theorem LZ {X:Cx}:Bs CX0 X E0:=λ _ _ _ _ _ _ _ h=>h.elim
structure Fun (K:PySem.W.Frag) (x qual:Str) (st:Stmt) (f:Addr) (fd:FuncData):Prop where
  ex:∃ (oc:Value) (od:Option Addr) (kV doc pm:Value) (an:Option Addr) (cdv ct:Value) (osl:Array (Option Value)),
    fd=PySem.W.fnOf x qual (EG st) (CA st) (Al st) .none kV doc pm an cdv ct/\K.lookup f=some ⟨oc,od, .func fd,osl⟩/\PySem.W.codeIn K cdv qual=true
  kp:PySem.W.keepIn K (.ref f)=true
section
variable {P:Program} {w:World} {K:PySem.W.Frag} {mg:Str->Option Value} {base:Heap}
theorem Fun.ok {x qual:Str} {st:Stmt} {f:Addr} {fd:FuncData} {N ps:List Str} {k:Nat} {sp:Sp} (F:Fun K x qual st f fd) (S:FnScope N ps (Al st)) (len:∀ vs H Q E,sp vs H Q E->vs.length=ps.length)
    (hbody:∀ (cdv:Value) (A:Around) (outer:List Env) (s:Shared) (H:Hp) (vs:List V) (Q:VK) (E:XK),Room k (A.deeper (envOfC qual (Al st) s.heap.objs.size f cdv))->sp vs H Q E->
      ∃ t,PSs (C0 CX0 P w K mg base N qual (Al st) f cdv A outer s H E).nox (CA st) t/\t { nx:=λ _ H'=>Q .non H',rt:=Q } (start N vs) H):FnOk P w K mg base CX0 (k+1) f fd ps sp:=by
  obtain ⟨oc,od,kV,doc,pm,an,cdv,ct,osl,rfl,lk,hcd⟩:=F.ex;refine N9 lk hcd S len λ A outer s H vs Q E hr hsp=> ?_;obtain ⟨t,h,q⟩:=hbody cdv A outer s H vs Q E hr hsp;exact ⟨t,h.nox,q⟩
theorem fun_mk {x qual:Str} {st:Stmt} {f:Addr} {oc:Value} {od an:Option Addr} {osl:Array (Option Value)} {kV doc pm cdv ct:Value} (l:K.lookup f=some ⟨oc,od, .func (PySem.W.fnOf x qual (EG st) (CA st) (Al st) .none kV doc pm an cdv ct),osl⟩)
    (c:PySem.W.codeIn K cdv qual=true) (k:PySem.W.keepIn K (.ref f)=true):Fun K x qual st f (PySem.W.fnOf x qual (EG st) (CA st) (Al st) .none kV doc pm an cdv ct):=⟨⟨oc,od,kV,doc,pm,an,cdv,ct,osl,rfl,l,c⟩,k⟩
end
section
variable {X:Cx}
theorem pv (i:Nat) {x:Str} {pos:Pos} (hN:X.N[i]?=some x:=by rfl) (hv:Vis X.env.scope x:=by first | exact Or.inl rfl | exact Or.inr (Or.inl rfl) | exact Or.inr (Or.inr rfl)) (hd:(x == ("__debug__":Str))=false:=by decide)
    (hcd:(x == ("__classdict__":Str))=false:=by decide):PE X (.Name x pos) (Mr i):=OX hN hv hd hcd
end
theorem DO {A B:Prop} (h:B):if false=true then A else B:=by
  rw [if_neg Bool.false_ne_true];exact h
theorem Dj {A B:Prop} (h:A):if true=true then A else B:=by
  rw [if_pos rfl];exact h
def Same (H H':Hp):Prop:=∀ b o,H b=some o->H' b=some o
theorem Same.refl (H:Hp):Same H H:=λ _ _ h=>h
theorem Same.trans {H H1 H2:Hp} (a:Same H H1) (b:Same H1 H2):Same H H2:=λ c o h=>b c o (a c o h)
theorem Same.free {H H':Hp} (e:Same H H') {l:Addr} (h:H' l=Option.none):H l=Option.none:=by
  cases q:H l with
  | none=>rfl
  | some o=>
    rw [e l o q] at h;cases h
theorem Same.seq {K:PySem.W.Frag} {H H':Hp} {a:Addr} {xs:List V} (e:Same H H') (h:SqL K H a xs):SqL K H' a xs:=by
  rcases h with (h | ⟨o,h⟩) | h
  · exact .inl (.inl (e _ _ h))
  · exact .inl (.inr ⟨o,e _ _ h⟩)
  · exact .inr h
section
variable {κ:Type} [DecidableEq κ]
def Gc (kvs:List (κ × V)) (k:κ):Option V:=(kvs.find? λ kv=>decide (kv.1=k)).map (·.2)
def Iq (kvs:List (κ × V)) (k:κ) (v:V):List (κ × V):=
  if (kvs.any λ kv=>decide (kv.1=k))=true then kvs.map (λ kv=>if kv.1=k then (kv.1,v) else kv) else kvs++[(k,v)]
theorem HQ {p:κ × V} {r:List (κ × V)} {k:κ} (e:p.1=k):Gc (p::r) k=some p.2:=by simp [Gc,List.find?_cons,e]
theorem HN {p:κ × V} {r:List (κ × V)} {k:κ} (e:¬ p.1=k):Gc (p::r) k=Gc r k:=by simp [Gc,List.find?_cons,e]
theorem Im (kvs:List (κ × V)) (k:κ) (v:V):(Iq kvs k v).length<=kvs.length+1:=by
  unfold Iq;split
  · rw [List.length_map];omega
  · rw [List.length_append,List.length_cons,List.length_nil];omega
theorem RelO.getD {o:Option V} {u:Option Value} {d:V} {d':Value} (r:RelO o u) (rd:RelV d d'):RelV (o.getD d) (u.getD d'):=by
  cases o with
  | none=>cases u with
    | none=>exact rd
    | some _=>exact (show False from r).elim
  | some _=>cases u with
    | none=>exact (show False from r).elim
    | some _=>exact r
theorem KV.val {kvs:List (κ × V)} {vs:List (κ × Value)} (r:KV kvs vs) (k:κ):RelO (Gc kvs k) (valueAt vs k):=by
  unfold KV at r
  induction r with
  | nil=>exact True.intro
  | @cons p q ps qs h t ih=>
    obtain ⟨h1,h2⟩:=h;by_cases e:p.1=k
    · have e':q.1=k:=h1.symm.trans e;have b:valueAt (q::qs) k=some q.2:=by simp [valueAt,List.find?_cons,e']
      rw [HQ e,b];exact h2
    · have e':¬ q.1=k:=λ z=>e (h1.trans z);have b:valueAt (q::qs) k=valueAt qs k:=by simp [valueAt,List.find?_cons,e']
      rw [HN e,b];exact ih
theorem KV.any {kvs:List (κ × V)} {vs:List (κ × Value)} (r:KV kvs vs) (k:κ):(kvs.any λ kv=>decide (kv.1=k))=vs.any λ kv=>decide (kv.1=k):=by
  unfold KV at r
  induction r with
  | nil=>rfl
  | cons h t ih=>rw [List.any_cons,List.any_cons,ih,h.1]
theorem KV.repl {kvs:List (κ × V)} {vs:List (κ × Value)} (r:KV kvs vs) (k:κ) {y:V} {u:Value} (ry:RelV y u):
    KV (kvs.map λ kv=>if kv.1=k then (kv.1,y) else kv) (vs.map λ kv=>if kv.1=k then (kv.1,u) else kv):=by
  unfold KV at r ⊢
  induction r with
  | nil=>exact .nil
  | @cons p q ps qs h t ih=>
    rw [List.map_cons,List.map_cons];refine .cons ?_ ih;obtain ⟨h1,h2⟩:=h;by_cases e:p.1=k
    · rw [if_pos e,if_pos (h1.symm.trans e)];exact ⟨h1,ry⟩
    · rw [if_neg e,if_neg (λ z=>e (h1.trans z))];exact ⟨h1,h2⟩
theorem KV.put {kvs:List (κ × V)} {vs:List (κ × Value)} (r:KV kvs vs) (k:κ) {y:V} {u:Value} (ry:RelV y u):KV (Iq kvs k y) (stored vs k u):=by
  unfold Iq stored;rw [r.any k];by_cases e:(vs.any λ kv=>decide (kv.1=k))=true
  · rw [if_pos e,if_pos e];exact r.repl k ry
  · rw [if_neg e,if_neg e];exact Paired.snoc r ⟨rfl,ry⟩
theorem KV.length {kvs:List (κ × V)} {vs:List (κ × Value)} (r:KV kvs vs):kvs.length=vs.length:=Paired.length r
end
theorem JF {P:Program} {w:World} {k:Key} {u:Value} (r:RelV (kV k) u):(AV P w).is k u=true:=by
  cases k with
  | inl i=>obtain ⟨t,e⟩:=(show ∃ t,u=Value.int i t from r);subst e;exact HW P w i t
  | inr x=>obtain ⟨t,e⟩:=(show ∃ t,u=Value.str x t from r);subst e;exact Iz P w x t
theorem GR {P:Program} {w:World}:∀ {ks:List Key} {us:List Value},Vals (ks.map kV) us->ItemsAre (AV P w) ks us
  | [],_,r=>by rw [List.map_nil] at r;cases r;exact .nil
  | k::ks,_,r=>by
    rw [List.map_cons] at r;cases r with
    | cons h t=>exact .cons (JF h) (GR t)
abbrev KT (H:Hp):List (List Key × V)->List (List Key × Addr × Value)->Prop:=Paired λ p q=>p.1=q.1/\H q.2.1=some (.tup (p.1.map kV))/\RelV p.2 q.2.2
theorem KT.val {H:Hp} {kvs:List (List Key × V)} {xs:List (List Key × Addr × Value)} (r:KT H kvs xs) (k:List Key):RelO (Gc kvs k) ((atKey xs k).map (·.2)):=by
  induction r with
  | nil=>exact True.intro
  | @cons p q ps qs h t ih=>
    obtain ⟨h1,_,h2⟩:=h;by_cases e:p.1=k
    · have e':q.1=k:=h1.symm.trans e;have b:atKey (q::qs) k=some q.2:=by simp [atKey,List.find?_cons,e']
      rw [HQ e,b];exact h2
    · have e':¬ q.1=k:=λ z=>e (h1.trans z);have b:atKey (q::qs) k=atKey qs k:=by simp [atKey,List.find?_cons,e']
      rw [HN e,b];exact ih
section
variable {P:Program} {w:World} {H:Hp} {h:Heap} {a:Addr}
theorem Ou {u:HO} (ok:HOk P w H h) (e:Rd H a u):ObjOk P w H h a u:=e.ok ok
theorem Ig {kvs:List (Key × V)} (ok:HOk P w H h) (e:Rd H a (.dK kvs)):kvs.length<=sizeLine/\(a == sysModules)=false/\∃ vs,KV kvs vs/\h.DictOf (AV P w) a vs:=
  show ObjOk P w H h a (.dK kvs) from Ou ok e
theorem QD {kvs:List (Key × V)} (ok:HOk P w H h) (e:H a=some (.dK kvs)):kvs.length<=sizeLine/\(a == sysModules)=false/\∃ vs,KV kvs vs/\h.DictOf (AV P w) a vs:=Ig ok (.inl e)
theorem IS {ks:List Key} (ok:HOk P w H h) (e:H a=some (.tup (ks.map kV))):(tupleKind (AV P w)).is h ks a:=by
  obtain ⟨_,its,r,o,h1,h2,n,h3⟩:=(show ObjOk P w H h a (.tup (ks.map kV)) from ok a _ e);exact ⟨o,its.toArray,n,h1,h2,h3,by simpa using GR r⟩
theorem Jt {kvs:List (List Key × V)} (ok:HOk P w H h) (e:Rd H a (.dT kvs)):kvs.length<=sizeLine/\(a == sysModules)=false/\
    ∃ xs,KT H kvs xs/\h.DictOfH (tupleKind (AV P w)) a xs:=by
  obtain ⟨z,y,xs,r,o,es,ep,h1,h2,h3,h4,h5⟩:=(show ObjOk P w H h a (.dT kvs) from Ou ok e);refine ⟨z,y,xs,r,o,es,ep,h1,h2,h3,h4,λ x hx=> ?_,h5⟩;have all:∀ {l:List (List Key × V)} {m:List (List Key × Addr × Value)},KT H l m->∀ x∈m,(tupleKind (AV P w)).is h x.1 x.2.1:=by
    intro l m q
    induction q with
    | nil=>intro x hx;exact nomatch hx
    | @cons p q ps qs hq t ih=>
      intro x hx;rcases List.mem_cons.mp hx with e | hx
      · subst e;exact IS ok (by rw [<-hq.1];exact hq.2.1)
      · exact ih x hx
  exact all r x hx
end
def DGet (H:Hp) (a:Addr) (y:V) (r:Option V):Prop:=
  (∃ kvs k,Rd H a (.dK kvs)/\y=kV k/\r=Gc kvs k)\/∃ kvs k b,Rd H a (.dT kvs)/\y= .ref b/\H b=some (.tup (k.map kV))/\r=Gc kvs k
theorem DGet.k {H:Hp} {a:Addr} {kvs:List (Key × V)} {k:Key} (e:H a=some (.dK kvs)):DGet H a (kV k) (Gc kvs k):= .inl ⟨kvs,k, .inl e,rfl,rfl⟩
section
variable {X:Cx} {pins:List (Addr × Obj)} {σ:St} {H:Hp} {s:Shared} {a:Addr} {y v:V} {u r:Value} {o:Option V} {A:Around} {E:Value->Shared->Prop}
theorem Inv.big (I:Inv X pins σ H s):sysModules<s.heap.objs.size:=by
  have h:mainGlobals<s.heap.objs.size:=(I.mod.glob.keeps I.bk).lt;exact Nat.lt_trans (by decide) h
theorem Ku {Q:Value->Shared->Prop} (hu:A.units+1<cLine) (I:Inv X pins σ H s) (g:DGet H a y (some v)) (ry:RelV y u) (h:∀ w' s',Inv X pins σ H s'->RelV v w'->Q w' s'):
    wpAny (model X.prog X.w) A (getItem (.ref a) u) Q E s:=by
  rcases g with ⟨kvs,k,e,ey,l⟩ | ⟨kvs,k,b,e,ey,eb,l⟩
  · subst ey;obtain ⟨z,hd,vs,rel,dd⟩:=Ig I.hok e;obtain ⟨w',hw,rw'⟩:=RelO.some_of (v:=v) (o:=valueAt vs k) (by rw [l];exact rel.val k);exact wpAny_getItem_of (JF ry) dd.mapOf hw (h w' _ (I.tok _) rw')
  · subst ey;cases (show u=Value.ref b from ry);obtain ⟨z,hd,xs,rel,dd⟩:=Jt I.hok e;obtain ⟨w',hw,rw'⟩:=RelO.some_of (v:=v) (o:=(atKey xs k).map (·.2)) (by rw [l];exact rel.val k);obtain ⟨p,hp,hp2⟩:=Option.map_eq_some_iff.mp hw;refine wpAny_getItem_heap (tupleKind_room_in1 hu) (IS I.hok eb) dd hp ?_;rw [hp2];exact h w' _ (I.tok _) rw'
theorem M4 {h':Heap} {t':Nat} {ob:HO} (I:Inv X pins σ H s) (mu:Mut (H a)) (hs:Heap.SameBut a s.heap h') (he:∃ q,h'.get? a=some q) (new:ObjOk X.prog X.w (upd H a ob) h' a ob):
    Inv X pins σ (upd H a ob) { s with heap:=h',toks:=t' }:=
  I.write (x:=a) (e:=a) mu (.inl rfl) (λ b q hb z=>(hs.2 b hb).trans z) he new
theorem Pt {P:Program} {w:World} {H':Hp} {h':Heap} {kvs:List (Key × V)} {vs:List (Key × Value)} (z:kvs.length<=sizeLine) (hd:(a == sysModules)=false) (rel:KV kvs vs) (dd:h'.DictOf (AV P w) a vs):
    ObjOk P w H' h' a (.dK kvs):=⟨z,hd,vs,rel,dd⟩
end
section
variable {X:Cx} {pins:List (Addr × Obj)} {σ:St} {H:Hp} {s:Shared} {a:Addr} {kvs:List (Key × V)} {k:Key} {u:Value} {A:Around} {E:Value->Shared->Prop}
end
def R4 (i:Expr):Prop:=∀ ov iv,subscripted i false ov iv=operate [ov,iv] (getItem ov iv)
theorem M0 {prog:Program} {w:World} {A:Around} {E:Value->Shared->Prop} {s:Shared} {env:Env} {value slice:Expr} {pos:Pos} {T id:String} {Q:Value->Shared->Prop}
    (hl:typeLookup (.type T) "__getitem__"=pure (some (.builtin id))) (hs:R4 slice)
    (h:wpAny (model prog w) A (eval value env) (λ o s₁=>wpAny (model prog w) A (eval slice env) (λ i s₂=>s₂.TypeIs o T/\wpAny (model prog w) A (getItem o i) Q E s₂) E s₁) E s):
    wpAny (model prog w) A (eval (.Subscript value slice pos) env) Q E s:=by
  refine Subscript_ (wpAny_mono h (λ o s₁ h₁=>wpAny_mono h₁ (λ i s₂ h₂=> ?_) λ _ _ x=>x) λ _ _ x=>x);obtain ⟨hT,h₂⟩:=h₂;unfold subscriptTail;refine wpAny_bind ?_;rw [getitemInPython_of_ne hT.not_modules];refine wpAny_bind (wpAny_specialOf hT hl ?_);have fin:wpAny (model prog w) A (subscripted slice false o i) (λ r s₃=>wpAny (model prog w) A (letTemporaryGo value o r >>= λ _=>pure r) Q E s₃) E s₂:=by
    rw [hs o i];exact wpAny_operating (wpAny_mono h₂ (λ r s₃ h₃=>wpAny_bind (wpAny_letTemporaryGo (wpAny_pure h₃))) λ _ _ x=>x)
  first
    | exact wpAny_pure (wpAny_bind fin)
    | exact wpAny_bind (wpAny_pure (wpAny_bind fin))
    | exact wpAny_bind fin
theorem HS {X:Cx} {pins:List (Addr × Obj)} {σ:St} {H:Hp} {s:Shared} {a:Addr} {y:V} {o:Option V} (I:Inv X pins σ H s) (g:DGet H a y o):s.TypeIs (.ref a) "dict":=by
  rcases g with ⟨kvs,k,e,_,_⟩ | ⟨kvs,k,b,e,_,_,_⟩
  · obtain ⟨_,_,vs,_,dd⟩:=Ig I.hok e;exact dd.typeIs
  · obtain ⟨_,_,xs,_,dd⟩:=Jt I.hok e;exact dd.typeIs
def On (td ty:TE):TE:=λ σ H Q=>td σ H λ x H1=>ty σ H1 λ y H2=>∃ a v,x= .ref a/\DGet H2 a y (some v)/\Q v H2
section
variable {X:Cx} {o i e value:Expr} {pos pos' tpos:Pos} {td ty tv:TE}
theorem MO (hu:X.A.units+1<cLine) (ho:PE X o td) (hi:PE X i ty) (hs:R4 i):PE X (.Subscript o i pos) (On td ty):=by
  intro pins s σ H Q I h;refine M0 PySem.F.slot_dict_getitem.lookup hs (thn (ho pins s σ H _ I h) λ u s1 ⟨x,H1,I1,rx,q1⟩=>thn (hi pins s1 σ H1 _ I1 q1) λ iv s2 ⟨y,H2,I2,ry,a,v,ex,g,q2⟩=> ?_);subst ex;obtain rfl:u=Value.ref a:=rx;exact ⟨HS I2 g,Ku hu I2 g ry λ w' s3 I3 rw'=>⟨v,H2,I3,rw',q2⟩⟩
end
theorem Ij {P:Program} {w:World} {H:Hp} (h:Heap) (hb:sysModules<h.objs.size):ObjOk P w H (h.push { cls:= .type "dict",data:= .dict #[] }) h.objs.size (.dK []):=
  ⟨Nat.zero_le _,beq_eq_false_iff_ne.mpr (Ne.symm (Nat.ne_of_lt hb)),[], .nil,Heap.DictOf.new h⟩
def Pb:TE:=λ _ H Q=>∀ p,H p=none->Q (.ref p) (upd H p (.dK []))
section
variable {X:Cx} {pos:Pos}
theorem FZ:PE X (.Dict [] [] pos) Pb:=λ pins s σ H Q I h=>
  wpAny_Dict_empty ⟨.ref s.heap.objs.size,_,I.laid (a:=s.heap.objs.size) (o:= .dK []) (t':=s.toks) (λ _ _ q=>Heap.get?_push_of_some _ q) (Nat.le_refl _) (Ij s.heap I.big),rfl,h _ (I.hok.fresh (Nat.le_refl _))⟩
end
def Em:List (TE × TE)->St->Hp->(List (V × V)->Hp->Prop)->Prop
  | [],_,H,Q=>Q [] H
  | (tk,tv)::r,σ,H,Q=>tk σ H λ x H1=>tv σ H1 λ y H2=>Em r σ H2 λ ps H3=>Q ((x,y)::ps) H3
abbrev VV:List (V × V)->List (Value × Value)->Prop:=Paired λ p q=>RelV p.1 q.1/\RelV p.2 q.2
def PPs (X:Cx) (pos:Pos) (keys:List (Option Expr)) (values:List Expr) (trs:List (TE × TE)):Prop:=
  ∀ (pins:List (Addr × Obj)) (s:Shared) (σ:St) (H:Hp) (Q:List (V × V)->Hp->Prop),Inv X pins σ H s->Em trs σ H Q->
    wpAny (model X.prog X.w) X.A (evalPairs (pairTrees keys values X.env pos)) (λ vs s'=>∃ ps H',Inv X pins σ H' s'/\VV ps vs/\Q ps H') X.xe s
theorem MC {X:Cx} {pos:Pos}:PPs X pos [] [] []:=λ pins s σ H Q I h=>pairTrees_nil_walk ⟨[],H,I, .nil,h⟩
theorem HM {X:Cx} {pos:Pos} {k v:Expr} {ks:List (Option Expr)} {vs:List Expr} {tk tv:TE} {trs:List (TE × TE)} (hk:PE X k tk) (hv:PE X v tv) (hr:PPs X pos ks vs trs):
    PPs X pos (some k::ks) (v::vs) ((tk,tv)::trs):=λ pins s σ H Q I h=>
  pairTrees_cons_walk (thn (hk pins s σ H _ I h) λ u s1 ⟨x,H1,I1,rx,q1⟩=>thn (hv pins s1 σ H1 _ I1 q1) λ w2 s2 ⟨y,H2,I2,ry,q2⟩=>
    thn (hr pins s2 σ H2 _ I2 q2) λ ws s3 ⟨ps,H3,I3,rel,q3⟩=>⟨(x,y)::ps,H3,I3, .cons ⟨rx,ry⟩ rel,q3⟩)
def Ep (kvs more:List (Key × V)):List (Key × V):=more.foldl (λ acc kv=>Iq acc kv.1 kv.2) kvs
theorem KV.merge:∀ {more:List (Key × V)} {rs:List (Key × Value)} {kvs:List (Key × V)} {vs:List (Key × Value)},KV more rs->KV kvs vs->KV (Ep kvs more) (merged vs rs):=by
  intro more rs kvs vs r;unfold KV at r
  induction r generalizing kvs vs with
  | nil=>intro q;exact q
  | @cons p q ps qs h t ih=>
    intro r0;have e:KV (Iq kvs p.1 p.2) (stored vs q.1 q.2):=by
      have:=r0.put p.1 h.2;rw [<-h.1];exact this
    exact ih e
theorem DT:∀ (more kvs:List (Key × V)),(Ep kvs more).length<=kvs.length+more.length
  | [],kvs=>by show kvs.length<=kvs.length+0;omega
  | p::r,kvs=>by
    have h1:=DT r (Iq kvs p.1 p.2);have h2:=Im kvs p.1 p.2;show (Ep (Iq kvs p.1 p.2) r).length<=_;rw [List.length_cons];omega
theorem Fs {P:Program} {w:World}:∀ {kvs:List (Key × V)} {ws:List (Value × Value)},VV (kvs.map λ kv=>(kV kv.1,kv.2)) ws->∃ rs,Carries (AV P w) ws rs/\KV kvs rs
  | [],_,r=>by rw [List.map_nil] at r;cases r;exact ⟨[],True.intro, .nil⟩
  | p::kvs,_,r=>by
    rw [List.map_cons] at r;cases r with
    | @cons a b as bs h t=>
      obtain ⟨rs,c,q⟩:=Fs (P:=P) (w:=w) t;obtain ⟨b1,b2⟩:=b;exact ⟨(p.1,b2)::rs,⟨JF h.1,rfl,c⟩, .cons ⟨rfl,h.2⟩ q⟩
def Of (trs:List (TE × TE)):TE:=λ σ H Q=>∀ p,H p=none->Em trs σ (upd H p (.dK [])) λ ps H2=>H2 p=some (.dK [])/\∃ kvs:List (Key × V),ps=kvs.map (λ kv=>(kV kv.1,kv.2))/\kvs.length<=15/\Q (.ref p) (upd H2 p (.dK (Ep [] kvs)))
theorem NR {X:Cx} {pos:Pos} {keys:List (Option Expr)} {values:List Expr} {trs:List (TE × TE)} (h:PPs X pos keys values trs) (hall:keys.all (·.isSome)=true) (hl:keys.length=values.length) (h0:keys≠[])
    (h15:keys.length<=15):PE X (.Dict keys values pos) (Of trs):=by
  intro pins s σ H Q I q;have hn:=I.hok.fresh (Nat.le_refl s.heap.objs.size);have I1:=I.laid (a:=s.heap.objs.size) (o:= .dK []) (h':=s.heap.push { cls:= .type "dict",data:= .dict #[] }) (t':=s.toks) (λ _ _ q=>Heap.get?_push_of_some _ q) (Nat.le_refl _) (Ij s.heap I.big);refine wpAny_Dict_walk (knd:=AV X.prog X.w) hall hl h0 h15 (thn (h pins _ σ _ _ I1 (q _ hn)) λ ws s2 ⟨ps,H2,I2,rel,e,kvs,ep,lk,q2⟩=> ?_);subst ep;obtain ⟨rs,c,rk⟩:=Fs (P:=X.prog) (w:=X.w) rel;obtain ⟨z,hd,vs0,r0,dd⟩:=QD I2.hok e;cases r0;refine ⟨rs,c,dd,λ h' dd' hs=>⟨.ref s.heap.objs.size,_,?_,rfl,q2⟩⟩;have hz:(Ep [] kvs).length<=sizeLine:=by
    have h1:=DT kvs [];rw [List.length_nil] at h1;rw [sizeLine_eq];omega
  have he:∃ q,h'.get? s.heap.objs.size=some q:=let ⟨q,_,_,hq,_⟩:=dd';⟨q,hq⟩;exact M4 I2 (by rw [e];exact True.intro) hs he (Pt hz hd (rk.merge .nil) dd')
structure M1 (X:Cx) (o:Expr) (m:Str) (apos:Pos) (e:Expr) (cpos:Pos):Prop where
  base:attributeBase o m X.env (eval o X.env)=eval o X.env
  few:((backTo cpos (starEach [e] X.env)).all (λ x=> !x.1)&&(backToKw cpos (keywordEach [] X.env)).all (λ x=>x.1.isSome)
    && decide (([e]:List Expr).length+([]:List Keyword).length+(if ([]:List Keyword).isEmpty then 0 else 1)<30))=true
  line:(apos.endLine == cpos.line)=true
  trees:backTo cpos (starEach [e] X.env)=[(false,eval e X.env)]
structure M2 (X:Cx) (o:Expr) (m:Str) (apos:Pos) (e f:Expr) (cpos:Pos):Prop where
  base:attributeBase o m X.env (eval o X.env)=eval o X.env
  few:((backTo cpos (starEach [e,f] X.env)).all (λ x=> !x.1)&&(backToKw cpos (keywordEach [] X.env)).all (λ x=>x.1.isSome)
    && decide (([e,f]:List Expr).length+([]:List Keyword).length+(if ([]:List Keyword).isEmpty then 0 else 1)<30))=true
  line:(apos.endLine == cpos.line)=true
  trees:backTo cpos (starEach [e,f] X.env)=[(false,eval e X.env),(false,eval f X.env)]
def IsD (H:Hp) (a:Addr):Prop:=(∃ kvs,Rd H a (.dK kvs))\/∃ kvs,Rd H a (.dT kvs)
theorem OS {X:Cx} {pins:List (Addr × Obj)} {σ:St} {H:Hp} {s:Shared} {a:Addr} (I:Inv X pins σ H s) (d:IsD H a):
    s.TypeIs (.ref a) "dict"/\(∀ b,Value.ref a= .ref b->∃ ob,s.heap.get? b=some ob/\ob.dict=none)/\(a == sysModules)=false:=by
  rcases d with ⟨kvs,e⟩ | ⟨kvs,e⟩
  · obtain ⟨_,hd,vs,_,dd⟩:=Ig I.hok e;refine ⟨dd.typeIs,λ b q=> ?_,hd⟩;cases q;obtain ⟨ob,_,_,h1,h2,_⟩:=dd;exact ⟨ob,h1,h2.2.1⟩
  · obtain ⟨_,hd,xs,_,dd⟩:=Jt I.hok e;refine ⟨dd.typeIs,λ b q=> ?_,hd⟩;cases q;obtain ⟨ob,_,_,h1,h2,_⟩:=dd;exact ⟨ob,h1,h2.2.1⟩
section
variable {X:Cx} {pins:List (Addr × Obj)} {σ:St} {H:Hp} {s:Shared} {a:Addr} {y d:V} {u r:Value} {o:Option V} {A:Around} {E:Value->Shared->Prop}
theorem Pq {Q:Value->Shared->Prop} (hu:A.units+1<cLine) (I:Inv X pins σ H s) (g:DGet H a y o) (ry:RelV y u) (rd:RelV d r) (h:∀ w' s',Inv X pins σ H s'->RelV (o.getD d) w'->Q w' s'):
    wpAny (model X.prog X.w) A (call (.builtin "dict.get") [.ref a,u,r]) Q E s:=by
  rcases g with ⟨kvs,k,e,ey,l⟩ | ⟨kvs,k,b,e,ey,eb,l⟩
  · subst ey;obtain ⟨z,hd,vs,rel,dd⟩:=Ig I.hok e;refine call_meetsIn PySem.F.slot_dict_get dd.typeIs PySem.F.entry_dict_get (PySem.F.args_dict_get_3 _ _ _) (meets_dict_get_default (AV X.prog X.w) a (JF ry) hd r) ⟨_,dd.mapOf,h _ _ (I.tok _) ?_⟩;rw [l];exact (rel.val k).getD rd
  · subst ey;cases (show u=Value.ref b from ry);obtain ⟨z,hd,xs,rel,dd⟩:=Jt I.hok e;refine call_meetsIn PySem.F.slot_dict_get dd.typeIs PySem.F.entry_dict_get (PySem.F.args_dict_get_3 _ _ _) (meetsH_dict_get_default (tupleKind (AV X.prog X.w)) a b hd r) ⟨tupleKind_room_in1 hu,k,xs,IS I.hok eb,dd,h _ _ (I.tok _) ?_⟩;rw [l];exact (rel.val k).getD rd
end
def LE (td ty tx:TE):TE:=λ σ H Q=>td σ H λ x H1=>∃ a,x= .ref a/\IsD H1 a/\ty σ H1 λ y H2=>tx σ H2 λ z H3=>∃ o,DGet H3 a y o/\Q (o.getD z) H3
section
variable {X:Cx} {o e f:Expr} {apos cpos:Pos} {td ty tx:TE}
theorem MB (hu:X.A.units+1<cLine) (ho:PE X o td) (he:PE X e ty) (hf:PE X f tx) (m:M2 X o "get" apos e f cpos):PE X (.Call (.Attribute o "get" apos) [e,f] [] cpos) (LE td ty tx):=by
  intro pins s σ H Q I h;refine wpAny_Call_method m.base m.few m.line PySem.F.plainAttrs_dict PySem.F.slot_dict_get PySem.F.type_dict_get (thn (ho pins s σ H _ I h) λ u s1 ⟨x,H1,I1,rx,a,ex,d,q1⟩=> ?_);subst ex;obtain rfl:u=Value.ref a:=rx;obtain ⟨t1,t2,_⟩:=OS I1 d;refine ⟨t1,t2,?_⟩;rw [m.trees];refine Calls.callWith_builtin rfl (Calls.evalArgs_plain (Calls.spliced_cons (thn (he pins s1 σ H1 _ I1 q1) λ iv s2 ⟨y,H2,I2,ry,q2⟩=>
    Calls.spliced_cons (thn (hf pins s2 σ H2 _ I2 q2) λ fv s3 ⟨z,H3,I3,rz,ov,g,q3⟩=>Calls.spliced_nil ?_))))
  exact Pq hu I3 g ry rz λ w' s4 I4 rw'=>⟨_,H3,I4,rw',q3⟩
end
section
variable {X:Cx} {pins:List (Addr × Obj)} {σ:St} {H:Hp} {s:Shared} {a:Addr} {kvs:List (Key × V)} {A:Around} {E:Value->Shared->Prop}
end
section
variable {X:Cx} {pins:List (Addr × Obj)} {σ:St} {H:Hp} {s:Shared} {a:Addr} {y:V} {u:Value} {A:Around} {E:Value->Shared->Prop}
end
section
variable {P:Program} {w:World} {K:PySem.W.Frag} {mg:Str->Option Value} {base:Heap}
end
section
variable {X:Cx}
end
section
variable {κ:Type} [DecidableEq κ]
end
def A3 (cells:List (Str × Addr)):List (Str × NameKind)->List (Str × Addr)->List (Str × Addr)
  | [],acc=>acc
  | (n,k)::r,acc=>A3 cells r (if k= .free then (match cells.lookup n with | some a=>(n,a)::acc | none=>acc) else acc)
theorem DZ {env:Env}:∀ (names:List (Str × NameKind)) (acc:List (Str × Addr)),(∀ y∈names,y.2= .free->∃ c,env.cells.lookup y.1=some c)->
    (forIn names acc λ (x:Str × NameKind) (r:List (Str × Addr))=>
      (if (x.2 == NameKind.free)=true then (do let a <-cellOf env x.1;pure (ForInStep.yield ((x.1,a)::r))) else pure (ForInStep.yield r):Sem (ForInStep (List (Str × Addr)))))=(pure (A3 env.cells names acc):Sem (List (Str × Addr)))
  | [],acc,_=>rfl
  | (n,k)::rest,acc,h=>by
    rw [List.forIn_cons];have ih:=λ acc'=>DZ (env:=env) rest acc' λ y hy=>h y (List.mem_cons_of_mem _ hy);by_cases hk:k= .free
    · subst hk;obtain ⟨c,hc⟩:=h (n, .free) List.mem_cons_self rfl;have hc:env.cells.lookup n=some c:=hc;have e:cellOf env n=pure c:=by unfold cellOf;rw [hc]
      simp only [beq_self_eq_true,if_true,e,pure_bind,A3,hc];exact ih _
    · have hb:(k == NameKind.free)=false:=by simpa using hk
      simp only [hb,Bool.false_eq_true,if_false,pure_bind,A3,if_neg hk];exact ih _
theorem DY {env:Env} {scope:Scope} (h:∀ y∈scope.names,y.2= .free->∃ c,env.cells.lookup y.1=some c):closureFor scope env=pure (A3 env.cells scope.names []):=by
  have e:=DZ (env:=env) scope.names [] h;unfold closureFor;simp only [bind_pure_comp,bind_pure,map_pure] at*;exact e
theorem FW {cells:List (Str × Addr)}:∀ (names:List (Str × NameKind)) (acc:List (Str × Addr)),(∀ x c,acc.lookup x=some c->cells.lookup x=some c)->∀ x c,(A3 cells names acc).lookup x=some c->cells.lookup x=some c
  | [],acc,h,x,c,e=>h x c e
  | (n,k)::r,acc,h,x,c,e=>by
    refine FW r _ ?_ x c e;intro y d q;split at q
    · split at q
      · rename_i a ha
        rw [List.lookup_cons] at q;split at q
        · rename_i hy
          cases q;rw [eq_of_beq hy];exact ha
        · exact h y d q
      · exact h y d q
    · exact h y d q
theorem F3 {cells:List (Str × Addr)}:∀ (names:List (Str × NameKind)) (acc:List (Str × Addr)) (x:Str),(((x,NameKind.free)∈names/\∃ c,cells.lookup x=some c)\/∃ c,acc.lookup x=some c)->∃ c,(A3 cells names acc).lookup x=some c
  | [],acc,x,h=>by
    rcases h with ⟨h,_⟩ | h
    · cases h
    · exact h
  | (n,k)::r,acc,x,h=>by
    refine F3 r _ x ?_;have up:(∃ c,acc.lookup x=some c)->∃ c,(if k= .free then (match cells.lookup n with | some a=>(n,a)::acc | none=>acc) else acc).lookup x=some c:=by
      rintro ⟨c,hc⟩;split
      · split
        · rename_i a ha
          rw [List.lookup_cons];split
          · exact ⟨_,rfl⟩
          · exact ⟨c,hc⟩
        · exact ⟨c,hc⟩
      · exact ⟨c,hc⟩
    rcases h with ⟨h,c,hc⟩ | h
    · rcases List.mem_cons.mp h with e | e
      · cases e;right;refine ⟨c,?_⟩;rw [if_pos rfl,hc,List.lookup_cons,beq_self_eq_true]
      · exact .inl ⟨e,c,hc⟩
    · exact .inr (up h)
theorem FF (env:Env) (x:Str):∀ names:List (Str × NameKind),
    (names.map λ (n,k)=>if (k == NameKind.free&&env.scope.kind == .function&&env.kindOf n == some .cell) then (n,NameKind.cell) else (n,k)).lookup x=
      (names.lookup x).map λ k=>if (k == NameKind.free&&env.scope.kind == .function&&env.kindOf x == some .cell)=true then NameKind.cell else k
  | []=>rfl
  | (n,k)::r=>by
    have ih:=FF env x r;show List.lookup x ((if (k == NameKind.free&&env.scope.kind == .function&&env.kindOf n == some .cell)=true then (n,NameKind.cell) else (n,k))::_)=_;cases hx:x == n with
    | true=>
      have e:x=n:=eq_of_beq hx;subst e;by_cases hc:(k == NameKind.free&&env.scope.kind == .function&&env.kindOf x == some .cell)=true
      · rw [if_pos hc,List.lookup_cons,List.lookup_cons,beq_self_eq_true];simp only [Option.map_some,if_pos hc]
      · rw [if_neg hc,List.lookup_cons,List.lookup_cons,beq_self_eq_true];simp only [Option.map_some,if_neg hc]
    | false=>
      have e:(List.lookup x ((n,k)::r))=List.lookup x r:=by rw [List.lookup_cons,hx]
      rw [e, <-ih];split <;> rw [List.lookup_cons,hx]
structure BlkScope (X:Cx) (scope:Scope) (own:List Str) (fr:List (Str × Nat)):Prop where
  kind:scope.kind= .function
  nocell:∀ y∈scope.names,y.2≠ .cell
  loc:∀ y∈scope.names,y.2= .local->scope.names.lookup y.1=some .local
  free:∀ y∈scope.names,y.2= .free->(X.env.scope.names.lookup y.1=some .cell\/X.env.scope.names.lookup y.1=some .free)
  fr:∀ p∈fr,X.N[p.2]?=some p.1/\(p.1,NameKind.free)∈scope.names
  only:∀ x,(x,NameKind.free)∈scope.names->scope.names.lookup x=some .free
def Ba (X:Cx) (scope:Scope) (own:List Str) (fr:List (Str × Nat)) (C:Addr) (ex:List Addr) (s:Shared) (H:Hp):Cx where
  prog:=X.prog
  w:=X.w
  K:=X.K
  mg:=X.mg
  base:=X.base
  A:=X.A
  N:=own++fr.map (·.1)
  s₀:=s
  H₀:=H
  env:=compEnvC scope (A3 X.env.cells scope.names []) C X.env
  outer:=X.stack
  stack:=X.stack
  ex:=ex
  fn:=λ _=>false
  calm:=X.calm
  pn:=[]
  xe:=λ _ _=>False
def EL (own:List Str) (fr:List (Str × Nat)) (σ:St):St:=own.map (λ _=>none)++fr.map (λ p=>(σ[p.2]?).getD none)
section
variable {X:Cx} {pins:List (Addr × Obj)} {σ:St} {H:Hp} {s:Shared} {scope:Scope} {own:List Str} {fr:List (Str × Nat)} {fp:List Addr}
theorem BlkScope.cells (S:BlkScope X scope own fr) (ok:X.Ok):∀ y∈scope.names,y.2= .free->∃ c,X.env.cells.lookup y.1=some c:=λ y hy e=>ok.has y.1 (S.free y hy e)
theorem Inv.block {h':Heap} {t':Nat} {m:Str->Option Value} (I:Inv X pins σ H s) (S:BlkScope X scope own fr) (hf:∀ b∈fp,DQ X pins H b) (hlt:∀ b∈fp,b<s.heap.objs.size)
    (hns:h'.Ns s.heap.objs.size m) (k:∀ b o,s.heap.get? b=some o->h'.get? b=some o):
    Inv (Ba X scope own fr s.heap.objs.size fp s H) [] (EL own fr σ) H { s with heap:=h',toks:=t' }:=by
  have cs:∀ x c,(A3 X.env.cells scope.names []).lookup x=some c->X.env.cells.lookup x=some c:=FW _ _ (λ _ _ e=>by simp at e);have ck:∀ c v,s.heap.IsCell c v->h'.IsCell c v:=λ c v ⟨o,ho,hd⟩=>⟨o,k _ _ ho,hd⟩;have kf:∀ x,(x,NameKind.free)∈scope.names->∃ c,X.env.cells.lookup x=some c/\(A3 X.env.cells scope.names []).lookup x=some c:=λ x hx=>by
    obtain ⟨c0,e0⟩:=S.cells I.ok (x, .free) hx rfl;obtain ⟨c,e⟩:=F3 (cells:=X.env.cells) scope.names [] x (.inl ⟨hx,c0,e0⟩);exact ⟨c,cs _ _ e,e⟩
  have rel:∀ x,(compEnvC scope (A3 X.env.cells scope.names []) s.heap.objs.size X.env).kindOf x=(scope.names.lookup x).map λ k=>if (k == NameKind.free&&X.env.scope.kind == .function&&X.env.kindOf x == some .cell)=true then NameKind.cell else k:=λ x=>FF X.env x scope.names
  have nc:∀ x,scope.names.lookup x≠some .cell:=λ x e=>S.nocell _ (PySem.mem_of_lookup e) rfl;refine ⟨⟨I.ok.mod,S.kind,I.ok.glob,I.ok.blt,Nat.le_refl _,λ x y c e1 e2=>I.ok.inj x y c (cs _ _ e1) (cs _ _ e2),λ x hx=> ?_,λ x c e _=>(nomatch e),I.ok.hd,I.ok.frames, .inl rfl,
    λ b hb=>⟨Nat.ne_of_lt (hlt b hb),λ x c e=>(hf b hb).2.2.2.2.1 x c (cs _ _ e)⟩,I.bs,Nat.le_trans I.ok.bsz I.sz,λ b o e hb=> ?_,λ b hb z=>(List.mem_cons.mp (I.stkSub b z)).elim (hf b hb).2.1 (hf b hb).2.2.1,I.stack,I.stkFree⟩,
    rfl,I.bare,Un.kept k,⟨m,hns,λ i x v e1 e2 e3=> ?_⟩,λ x c e=> ?_,I.hok.fresh (Nat.le_refl _),λ x c e=>I.freeC x c (cs _ _ e),λ p hp=>absurd (show p∈([]:List (Addr × Obj)) from hp) (by simp),I.hok.kept k,?_⟩
  · have hx:(compEnvC scope (A3 X.env.cells scope.names []) s.heap.objs.size X.env).kindOf x=some .cell\/(compEnvC scope (A3 X.env.cells scope.names []) s.heap.objs.size X.env).kindOf x=some .free:=hx;rw [rel x] at hx;have q:scope.names.lookup x=some .free:=by
      cases e:scope.names.lookup x with
      | none=>rw [e] at hx;simp at hx
      | some kk=>
        rw [e] at hx;simp only [Option.map_some,Option.some.injEq] at hx;by_cases hk:kk= .free
        · rw [hk]
        · have hb:(kk == NameKind.free)=false:=by simpa using hk
          simp only [hb,Bool.false_and,Bool.false_eq_true,if_false] at hx;rcases hx with hx | hx
          · rw [hx] at e;exact absurd e (nc x)
          · exact absurd hx hk
    obtain ⟨c,_,e⟩:=kf x (PySem.mem_of_lookup q);exact ⟨c,e⟩
  · rcases (hf b hb).2.2.2.1 with z | z
    · exact I.ok.noex b o e z
    · exact absurd (Nat.lt_of_lt_of_le (Heap.lt_size (I.ok.bs b o e).1) z) (Nat.lt_irrefl _)
  · have e1:(own++fr.map (·.1))[i]?=some x:=e1;have e2:(EL own fr σ)[i]?=some (some v):=e2;unfold EL at e2;by_cases hi:i<own.length
    · rw [List.getElem?_append_left (by simpa using hi),List.getElem?_map] at e2;rw [List.getElem?_eq_getElem hi] at e2;simp at e2
    · rw [List.getElem?_append_right (by simpa using hi),List.getElem?_map,List.length_map] at e2;rw [List.getElem?_append_right (by omega),List.getElem?_map] at e1;cases ep:fr[i - own.length]? with
      | none=>rw [ep] at e1;simp at e1
      | some p=>
        rw [ep] at e1 e2;simp only [Option.map_some,Option.some.injEq] at e1 e2;subst e1;obtain ⟨h1,h2⟩:=S.fr p (List.mem_of_getElem? ep);have e4:σ[p.2]?=some (some v):=by
          cases q:σ[p.2]? with
          | none=>rw [q] at e2;simp at e2
          | some z=>rw [q] at e2;simp at e2;rw [e2]
        have kx:=S.free _ h2 rfl;obtain ⟨m0,hn0,hl0⟩:=I.loc;obtain ⟨u,r,l⟩:=hl0 p.2 p.1 v h1 e4 (kx.elim (λ z=> .inr (.inl z)) λ z=> .inr (.inr z));refine ⟨u,r,?_⟩;rcases l with ⟨z,_⟩ | ⟨_,c,hc,hcell⟩
        · have z:X.env.scope.names.lookup p.1=some .local:=z;rcases kx with y | y <;> (rw [y] at z;cases z)
        · obtain ⟨c',q1,q2⟩:=kf p.1 h2;rw [hc] at q1;cases q1;refine .inr ⟨?_,c,q2,ck _ _ hcell⟩;show (compEnvC scope (A3 X.env.cells scope.names []) s.heap.objs.size X.env).kindOf p.1=some .cell\/(compEnvC scope (A3 X.env.cells scope.names []) s.heap.objs.size X.env).kindOf p.1=some .free;have e3:(compEnvC scope (A3 X.env.cells scope.names []) s.heap.objs.size X.env).kindOf p.1=some .local\/(compEnvC scope (A3 X.env.cells scope.names []) s.heap.objs.size X.env).kindOf p.1=some .cell\/(compEnvC scope (A3 X.env.cells scope.names []) s.heap.objs.size X.env).kindOf p.1=some .free:=e3;rcases e3 with e3 | e3
          · exfalso;rw [rel] at e3;cases e:scope.names.lookup p.1 with
            | none=>rw [e] at e3;cases e3
            | some kk=>
              rw [e] at e3;simp only [Option.map_some,Option.some.injEq] at e3;by_cases hk:kk= .free
              · subst hk;split at e3 <;> cases e3
              · have hb:(kk == NameKind.free)=false:=by simpa using hk
                simp only [hb,Bool.false_and,Bool.false_eq_true,if_false] at e3;subst e3;have:=S.only p.1 h2;rw [this] at e;cases e
          · exact e3
  · obtain ⟨v,z⟩:=I.cell x c (cs _ _ e);exact ⟨v,ck _ _ z⟩
  · unfold EL;show _=(own++fr.map (·.1)).length;simp
end
theorem Iv {prog:Program} {w:World} {A:Around} {R:Result->Shared->Prop} {s:Shared} {elt target iter:Expr} {ifs:List Expr} {scope:Scope} {pos:Pos} {it acc:Value} {env:Env} (I:Nat->Shared->Prop)
    (turn:∀ n s,I n s->wpAny (model prog w) A (pyNext it) (λ r s₁=>match r with
      | none=>R (.ok .next) s₁
      | some v=>wpAny (model prog w) A (letOwnedTupleGo target it v) (λ _ s₁'=>wpAny (model prog w) A (assign target env v) (λ _ s₂=>
          wpAny (model prog w) A (forIn ifs true λ c r=>if r=true then do let ok <-isTrue c env (eval c env);pure (ForInStep.yield ok) else pure (ForInStep.yield r)) (λ ok s₃=>
            if ok=true then wpAny (model prog w) A (eval elt env) (λ x s₄=>
              wpAny (model prog w) A (call (.builtin "list.append") [acc,x]) (λ _ s₅=>∃ m,m<n/\I m s₅) (λ _ _=>False) s₄) (λ _ _=>False) s₃
            else ∃ m,m<n/\I m s₃) (λ _ _=>False) s₂) (λ _ _=>False) s₁') (λ _ _=>False) s₁) (λ _ _=>False) s)
    (n:Nat) (h:I n s):codeAny (model prog w) A (.compLoop (.ListComp elt [⟨target,iter,ifs,0⟩] scope pos) 0 it acc env) R s:=by
  refine codeAny_loop rfl I (λ n s hI=> ?_) n h;show wpAny _ A ((compTurn (.ListComp elt [⟨target,iter,ifs,0⟩] scope pos) 0 it acc env).onRaise (λ x=>do noteFrame x env;theTreesLotGoes x)) _ _ s;refine wpAny_noted ?_;rw [compTurn_list];refine wpAny_bind (wpAny_standAt (wpAny_bind (wpAny_mono (turn n s hI) (λ r s₁ h₁=> ?_) λ _ _ f=>f.elim)));cases r with
  | none=>exact wpAny_pure h₁
  | some v=>
    refine wpAny_bind (wpAny_mono h₁ (λ _ s₁' h₁'=>wpAny_bind (wpAny_mono h₁' (λ _ s₂ h₂=>wpAny_bind (wpAny_mono h₂ (λ ok s₃ h₃=> ?_) λ _ _ f=>f.elim)) λ _ _ f=>f.elim)) λ _ _ f=>f.elim);cases ok with
    | false=>exact wpAny_pure ⟨rfl,h₃⟩
    | true=>
      exact wpAny_bind (wpAny_bind (wpAny_mono h₃ (λ x s₄ h₄=>wpAny_bind (wpAny_mono h₄ (λ _ s₅ h₅=>wpAny_pure (wpAny_pure ⟨rfl,h₅⟩)) λ _ _ f=>f.elim)) λ _ _ f=>f.elim))
section
variable {X:Cx}
def PTs (X:Cx) (ifs:List Expr) (tc:TT):Prop:=
  ∀ (pins:List (Addr × Obj)) (s:Shared) (σ:St) (H:Hp) (Q:Bool->Hp->Prop),Inv X pins σ H s->tc σ H Q->
    wpAny (model X.prog X.w) X.A (forIn ifs true λ c r=>if r=true then do let ok <-isTrue c X.env (eval c X.env);pure (ForInStep.yield ok) else pure (ForInStep.yield r)) (TP X pins σ Q) X.xe s
def Ma:TT:=λ _ H Q=>Q true H
theorem AG:PTs X [] Ma:=λ _ _ _ H _ I h=>wpAny_tests_nil ⟨H,I,h⟩
theorem Jx {c:Expr} {tc:TT} (h:PT X c tc):PTs X [c] tc:=λ pins s σ H Q I q=>wpAny_tests_one (h pins s σ H Q I q)
def Kp (σ0 σ:St):Prop:=σ.length=σ0.length/\∀ (i:Nat) (v:V),σ0[i]?=some (some v)->σ[i]?=some (some v)
theorem Kp.refl (σ:St):Kp σ σ:=⟨rfl,λ _ _ h=>h⟩
theorem Kp.set {σ0 σ:St} {i:Nat} {v:V} (k:Kp σ0 σ) (h:σ0[i]?=some none):Kp σ0 (σ.set i (some v)):=by
  refine ⟨by rw [List.length_set];exact k.1,λ j u e=> ?_⟩;by_cases hj:i=j
  · subst hj;rw [h] at e;cases e
  · rw [List.getElem?_set_ne hj];exact k.2 j u e
def Ez (J:It) (σ0:St) (g:TG) (tc:TT) (te:TE) (Q:VK) (H1:Hp) (D:Addr):Prop:=
  ∃ W:Nat->Nat->List V->Hp->Prop,(∃ m,W 0 m [] (upd H1 D (.lst [])))/\∀ i m ys H,W i m ys H->
    (J.stop i H/\Q (.ref D) H)\/(J.go i H/\∃ N:List V->Hp->Prop,(∀ ys' H',N ys' H'->∃ m',m'<m/\W (i+1) m' ys' H')/\∀ x H',J.yld i H x H'->g x σ0 H' λ σ2 H2=>Kp σ0 σ2/\tc σ2 H2 λ b H3=>
      if b=true then te σ2 H3 λ y H4=>H4 D=some (.lst ys)/\ys.length<sizeLine/\N (ys++[y]) (upd H4 D (.lst (ys++[y]))) else N ys H3)
def GQ (wi:TI) (own:List Str) (fr:List (Str × Nat)) (g:TG) (tc:TT) (te:TE):TE:=λ σ H Q=>wi σ H λ J H1=>∀ D,H1 D=none->Ez J (EL own fr σ) g tc te Q H1 D
theorem HK {elt tg iter:Expr} {ifs:List Expr} {scope:Scope} {pos:Pos} {own:List Str} {fr:List (Str × Nat)} {g:TG} {tc:TT} {te:TE} (hc:X.calm=true) (S:BlkScope X scope own fr)
    (hg:∀ C ex s H,PG (Ba X scope own fr C ex s H) tg g) (ht:∀ C ex s H,PTs (Ba X scope own fr C ex s H) ifs tc) (he:∀ C ex s H,PE (Ba X scope own fr C ex s H) elt te)
    {pins:List (Addr × Obj)} {σ:St} {H:Hp} {s:Shared} {it:Addr} {fp:List Addr} {tn:Nat->Heap->Prop} {J:It} {E:Value->Shared->Prop}
    (I:Inv X pins σ H s) (T:Turn X.prog X.w X.K tg J fp it tn) (st:tn 0 s.heap) (hf:∀ b∈fp,DQ X pins H b) {Q:VK}
    (h:∀ D,H D=none->Ez J (EL own fr σ) g tc te Q H D)
    {RR:Value->Addr->Result->Shared->Prop}
    (hR:∀ D C H' s',Inv X pins σ H' s'->(∃ m,s'.heap.Ns C m)->DQ X pins H' C->Q (.ref D) H'->RR (.ref D) C (.ok .next) s'):
    wpAny (model X.prog X.w) X.A (newList []) (λ acc s₃=>wpAny (model X.prog X.w) X.A (newFunctionEnv scope X.env.globals (A3 X.env.cells scope.names []) [] X.env.qual none .none (some X.env)) (λ cenv s₄=>
      codeAny (model X.prog X.w) X.A (.compStart (.ListComp elt [⟨tg,iter,ifs,0⟩] scope pos) 0 (.ref it) acc { cenv with scope:=relabel scope X.env }) (RR acc cenv.locals) s₄) E s₃) E s:=by
  have hDn:H s.heap.objs.size=none:=I.fresh;obtain ⟨W,⟨m0,w0⟩,turn⟩:=h s.heap.objs.size hDn;have I3:Inv X pins σ (upd H s.heap.objs.size (.lst [])) { s with heap:=s.heap.push { cls:= .type "list",data:= .seq ([]:List Value).toArray },toks:=s.toks }:=I.lnew .nil (Nat.zero_le _);refine wpAny_newObj_type ?_;generalize hs3:({ s with heap:=s.heap.push { cls:= .type "list",data:= .seq ([]:List Value).toArray } }:Shared)=s3 at I3 ⊢;have I3:Inv X pins σ (upd H s.heap.objs.size (.lst [])) s3:=I3;have old3:∀ b o,s.heap.get? b=some o->s3.heap.get? b=some o:=λ b o e=>by rw [<-hs3];exact Heap.get?_push_of_some _ e
  have hobj:∀ b∈fp,∃ o,s.heap.get? b=some o/\∀ v,o.data≠ .cell v:=T.obj 0 _ st;have hne:∀ b∈fp,b≠s.heap.objs.size:=λ b hb=>by obtain ⟨o,e,_⟩:=hobj b hb;exact Nat.ne_of_lt (Heap.lt_size e)
  have hf3:∀ b∈fp,DQ X pins (upd H s.heap.objs.size (.lst [])) b:=λ b hb=>⟨by rw [Af (hne b hb)];exact (hf b hb).1,(hf b hb).2⟩;have hlt3:∀ b∈fp,b<s3.heap.objs.size:=λ b hb=>by obtain ⟨o,e,_⟩:=hobj b hb;exact Heap.lt_size (old3 b o e)
  refine wpAny_newFunctionEnv S.nocell (by intro y hy;simp at hy) (λ h₁ hns hsb=> ?_) S.kind;have keep:∀ b o,s3.heap.get? b=some o->h₁.get? b=some o:=λ b o e=>hsb.extBut b o (Nat.ne_of_lt (Heap.lt_size e)) (Heap.get?_push_of_some _ e);have J0:=I3.block (t':=s3.toks+([]:List (Str × Value)).length) S hf3 hlt3 hns keep;have st3:tn 0 h₁:=T.keep 0 _ _ st λ b hb o e=>keep b o (old3 b o e);have loop:codeAny (model X.prog X.w) X.A (.compLoop (.ListComp elt [⟨tg,iter,ifs,0⟩] scope pos) 0 (.ref it) (.ref s.heap.objs.size) (compEnvC scope (A3 X.env.cells scope.names []) s3.heap.objs.size X.env))
      (RR (.ref s.heap.objs.size) s3.heap.objs.size) { s3 with heap:=h₁,toks:=s3.toks+([]:List (Str × Value)).length }:=by
    have stat:∀ {H':Hp},(∀ b∈fp,H' b=none)->∀ b∈fp,DQ (Ba X scope own fr s3.heap.objs.size fp s3 (upd H s.heap.objs.size (.lst []))) [] H' b:=λ {H'} hn b hb=>
      ⟨hn b hb,Nat.ne_of_lt (hlt3 b hb),J0.ok.exfs b hb, .inl hb,(J0.ok.exf b hb).2,λ p hp=>absurd (show p∈([]:List (Addr × Obj)) from hp) (by simp)⟩
    refine Iv (λ n s'=>∃ i ys H',Inv (Ba X scope own fr s3.heap.objs.size fp s3 (upd H s.heap.objs.size (.lst []))) [] (EL own fr σ) H' s'/\tn i s'.heap/\(∀ b∈fp,H' b=none)/\W i n ys H') ?_ m0
      ⟨0,[],_,J0,st3,λ b hb=>(hf3 b hb).1,w0⟩
    rintro n s4 ⟨i,ys,H4,I4,st4,fr4,w4⟩;rcases turn i n ys H4 w4 with ⟨stop,q⟩ | ⟨go,N,hN,step⟩
    · refine thn (T.done (Ba X scope own fr s3.heap.objs.size fp s3 (upd H s.heap.objs.size (.lst []))) rfl rfl rfl hc i [] s4 _ H4 (λ _ _=>False) I4 (stat fr4) st4 stop) λ r s5 ⟨hr,I5⟩=> ?_;subst hr;obtain ⟨m,hn,_⟩:=id I5.loc;exact hR _ _ H4 s5 (I3.call' I5.os I5.base I5.hok I5.bare λ b hb=>⟨(hf3 b hb).2.2.2.1,(hf3 b hb).2.1,(hf3 b hb).2.2.2.2.1,(hf3 b hb).2.2.2.2.2⟩) ⟨m,hn⟩ (I3.fpOk (Nat.le_refl _) I5.free) q
    · refine thn (T.item (Ba X scope own fr s3.heap.objs.size fp s3 (upd H s.heap.objs.size (.lst []))) rfl rfl rfl hc i [] s4 _ H4 (λ _ _=>False) I4 (stat fr4) st4 go) λ r s5 ⟨u,hr,h5⟩=> ?_;subst hr;refine thn h5 λ _ s6 ⟨x,H6,I6,r6,y6,st6,fr6⟩=> ?_;have I6':=I6.pinned (stat fr6) (T.obj _ _ st6);refine thn (hg _ _ _ _ _ s6 _ H6 x u _ I6' r6 (step x H6 y6)) λ _ s7 ⟨σ7,H7,I7,kp,q7⟩=> ?_;refine thn (ht _ _ _ _ _ s7 σ7 H7 _ I7 q7) λ b s8 ⟨H8,I8,q8⟩=> ?_;have again:∀ {s9:Shared} {H9:Hp} {ys':List V},Inv (Ba X scope own fr s3.heap.objs.size fp s3 (upd H s.heap.objs.size (.lst []))) ([]++FJ fp s6.heap) σ7 H9 s9->N ys' H9->
          ∃ m,m<n/\∃ i ys H',Inv (Ba X scope own fr s3.heap.objs.size fp s3 (upd H s.heap.objs.size (.lst []))) [] (EL own fr σ) H' s9/\tn i s9.heap/\(∀ b∈fp,H' b=none)/\W i m ys H':=λ {s9 H9 ys'} I9 n9=>by
        obtain ⟨m',hm,w9⟩:=hN ys' H9 n9;refine ⟨m',hm,i+1,ys',H9,I9.unpinned.weak kp.1.symm kp.2,T.keep _ _ _ st6 λ b hb o e=>(I9.pin (b,o) (List.mem_append_right _ (List.mem_append_right _ (Cw hb e)))).1,λ b hb=> ?_,w9⟩;obtain ⟨o,e,d⟩:=T.obj _ _ st6 b hb;exact (I9.pin (b,o) (List.mem_append_right _ (List.mem_append_right _ (Cw hb e)))).2.1
      cases b with
      | false=>
        rw [if_neg Bool.false_ne_true] at q8 ⊢;exact again I8 q8
      | true=>
        rw [if_pos rfl] at q8 ⊢;refine thn (he _ _ _ _ _ s8 σ7 H8 _ I8 q8) λ xv s9 ⟨y,H9,I9,r9,hD,hl,n9⟩=> ?_;refine thn (GJ _ s9 σ7 H9 (.ref s.heap.objs.size) [y] (.ref s.heap.objs.size) [xv] (λ _ H'=>H'=upd H9 s.heap.objs.size (.lst (ys++[y]))) I9 rfl (.cons r9 .nil) ⟨_,ys,y,rfl,rfl,hD,hl,rfl⟩) λ _ s10 ⟨_,H10,I10,_,q10⟩=> ?_;subst q10;exact again I10 n9
  exact codeAny_compStart_list loop (T.self _ 0 _ _ _ st3 loop)
theorem Jz {elt tg iter:Expr} {ifs:List Expr} {scope:Scope} {pos:Pos} {own:List Str} {fr:List (Str × Nat)} {wi:TI} {g:TG} {tc:TT} {te:TE} (hc:X.calm=true) (S:BlkScope X scope own fr) (hi:PI X tg iter wi)
    (hg:∀ C ex s H,PG (Ba X scope own fr C ex s H) tg g) (ht:∀ C ex s H,PTs (Ba X scope own fr C ex s H) ifs tc) (he:∀ C ex s H,PE (Ba X scope own fr C ex s H) elt te)
    (hs:∀ x,foldedSetIterable iter X.env x=pure x:=by intro _;rfl):PE X (.ListComp elt [⟨tg,iter,ifs,0⟩] scope pos) (GQ wi own fr g tc te):=by
  intro pins s σ H Q I h;rw [eval_ListComp];refine wpAny_comprehension_free (use:=none) rfl hs (DY (S.cells I.ok)) S.kind S.loc (thn (hi pins s σ H _ I h) λ xv s₁ h₁=>thn h₁ λ itv s₂ h₂=> ?_);obtain ⟨it,fp,tn,J,H2,rfl,I2,T,st2,f2,h2⟩:=h₂;refine HK (RR:=λ acc C=>compPost (model X.prog X.w) X.A X.xe none (EP X pins σ Q) acc C) hc S hg ht he I2 T st2 f2 h2 ?_;rintro D C H' s' I' ⟨m,hn⟩ f q;exact ⟨m,hn,λ h' sb=>⟨.ref D,H',I'.turned (t':=s'.toks) (it:=C) (λ b o hb e=>(sb.2 b hb).trans e) f.1 f.2.1 f.2.2.2.1 f.2.2.2.2.1 f.2.2.2.2.2,rfl,q⟩⟩
theorem NH {i:Nat} {x:Str} {px spos:Pos} {elt tg iter:Expr} {ifs:List Expr} {scope:Scope} {pos:Pos} {own:List Str} {fr:List (Str × Nat)} {wi:TI} {g:TG} {tc:TT} {te:TE} (hN:X.N.Nodup) (hix:X.N[i]?=some x) (hx:Loc X.env.scope x)
    (hc:X.calm=true) (S:BlkScope X scope own fr) (hi:PI X tg iter wi)
    (hg:∀ C ex s H,PG (Ba X scope own fr C ex s H) tg g) (ht:∀ C ex s H,PTs (Ba X scope own fr C ex s H) ifs tc) (he:∀ C ex s H,PE (Ba X scope own fr C ex s H) elt te)
    (hsw:swapsWith (.ListComp elt [⟨tg,iter,ifs,0⟩] scope pos) (some (.Name x px)) spos.line X.env=pure true:=by rfl)
    (hf:X.fn x=true\/X.env.scope.names.lookup x=some .local:=by first | exact .inl rfl | exact .inr rfl | assumption)
    (hs:∀ x,foldedSetIterable iter X.env x=pure x:=by intro _;rfl):PS X (.Assign [.Name x px] (.ListComp elt [⟨tg,iter,ifs,0⟩] scope pos) spos) (Lu (GQ wi own fr g tc te) (AU i)):=by
  intro pins s σ H D I h;rw [exec_Assign_Name_used _ _ _ _ hsw];refine wpAny_bind (wpAny_standAt (wpAny_bind ?_));show wpAny _ X.A (do let _ <-comprehension (.ListComp elt [⟨tg,iter,ifs,0⟩] scope pos) scope X.env _ (newList []) false (eval iter X.env) (some (assign (.Name x px) X.env))) _ _ s;refine wpAny_bind (wpAny_mono (wpAny_comprehension_free (use:=some (assign (.Name x px) X.env)) (Q:=λ _ s'=>SP X pins D .next s') rfl hs (DY (S.cells I.ok)) S.kind S.loc
    (thn (hi pins s σ H _ I h) λ xv s₁ h₁=>thn h₁ λ itv s₂ h₂=> ?_)) (λ _ s' hq=>wpAny_pure (wpAny_pure hq)) λ _ _ e=>e)
  obtain ⟨it,fp,tn,J,H2,rfl,I2,T,st2,f2,h2⟩:=h₂;refine HK (Q:=λ x H1=>AU i x σ H1 D.nx) (RR:=λ acc C=>compPost (model X.prog X.w) X.A X.xe (some (assign (.Name x px) X.env)) (λ _ s'=>SP X pins D .next s') acc C) hc S hg ht he I2 T st2 f2 h2 ?_;rintro Dl C H' s' I' ⟨m,hn⟩ f q;obtain ⟨o,es,ep,ho,hd,r⟩:=hn;have pinC:∀ v,o.data≠ .cell v:=λ v z=>by rw [hd] at z;cases z
  have I'':Inv X (pins++[(C,o)]) σ H' s':=I'.pins_of λ p hp=>(List.mem_append.mp hp).elim (λ z=>I'.pin p (List.mem_append_right _ z)) λ z=>by
    have e:p=(C,o):=by simpa using z
    subst e;exact ⟨ho,f.1,f.2.1,f.2.2.1,pinC⟩
  show wpAny _ X.A (assign (.Name x px) X.env (.ref Dl)) _ _ s';refine wpAny_assign_Name (BS I'' hN hix hx (v:= .ref Dl) rfl (λ s2 I2=> ?_) hf);have pc:=(I2.pin (C,o) (List.mem_append_right _ (List.mem_append_right _ (by simp)))).1;refine ⟨m,⟨o,es,ep,pc,hd,r⟩,λ h' sb=>⟨_,H',?_,q⟩⟩;exact (I2.unpinned (pl:=[(C,o)])).turned (t':=s2.toks) (it:=C) (λ b o hb e=>(sb.2 b hb).trans e) f.1 f.2.1 f.2.2.2.1 f.2.2.2.2.1 f.2.2.2.2.2
end
section
variable {X:Cx} {tg:Expr}
end
end L2
namespace MS
open PySem PySem.StrLaws Builtin Builtin.Str
end MS
namespace MN
open PySem PySem.StrLaws PySem.NumText Builtin Builtin.Str
def SX (c:Nat):Bool:=decide (48<=c)&&decide (c<=57)
def Mt (cs:List Nat):Option Nat:=if (decide (1<=cs.length)&&decide (cs.length<=3)&&cs.all SX&& !(decide (1<cs.length)&&cs.head? == some 48))=true then some (digitsVal cs) else none
theorem Ls:∀ m,m<1000->Mt ((Nat.toDigits 10 m).map Char.toNat)=some m:=by decide +kernel
theorem Ly {i:Int} (h0:0<=i) (h1:i<1000):Mt (Str.ofString (toString i)).cps.toList=some i.toNat:=by
  obtain ⟨m,rfl⟩:=Int.eq_ofNat_of_zero_le h0;rw [PySem.W.KIN.signs_num];exact Ls m (by omega)
theorem num_len {i:Int} (h0:0<=i) (h1:i<1000):(Str.ofString (toString i)).length<=3:=by
  have h:=Ly h0 h1;unfold Mt at h;split at h
  · rename_i hc
    simp only [Bool.and_eq_true,decide_eq_true_iff] at hc;have:=hc.1.1.2;simpa [Str.length] using this
  · cases h
end MN
namespace L2
open PySem PySem.Spec PyProof.Rows
section
variable {X:Cx}
theorem EZ:∀ {ns:List Int} {l:List (Int × Tok)},Vals (ns.map V.int) (l.map λ p=>Value.int p.1 p.2)->l.map (·.1)=ns
  | [],[],_=>rfl
  | n::ns,p::l,r=>by
    cases r with
    | cons r1 r2=>
      obtain ⟨t,e⟩:=r1;injection e with e1 e2;rw [List.map_cons,EZ r2,e1]
  | [],_::_,r=>by cases r
  | _::_,[],r=>by cases r
theorem LW (hc:X.calm=true):Bt X (.builtin "sum") (λ xs H Q=>∃ (p:Addr) (ns:List Int),xs=[.ref p]/\SqL X.K H p (ns.map V.int)/\Q (.int ns.sum) H):=by
  intro pins s σ H xs us Q I r h;obtain ⟨p,ns,rfl,hq,q⟩:=h;obtain ⟨u,rfl,rx⟩:=FK r;cases rx;obtain ⟨its,rv,pl,_⟩:=I.list hq;obtain ⟨ps,e⟩:=(IntsAre.allInts (IT rv)).items;have e':its=ps.toList.map λ p=>Value.int p.1 p.2:=by
    have:=congrArg Array.toList e;simpa [intItems] using this
  have hl:=pl.isList;rw [e] at hl;refine sum_intListG (I.ok.hd hc) hl λ h' tk t' hk=> ?_;have es:preSum (numAt ps) ps.size=ns.sum:=by
    rw [preSum_eq,List.take_of_length_le (by simp),EZ (ns:=ns) (l:=ps.toList) (by rw [<-e'];exact rv)]
  rw [es];exact ⟨.int ns.sum,H,I.kept hk,⟨t',rfl⟩,q⟩
theorem Kt (bs:List Bool):(List.range bs.length).all (λ i=>bs.getD i true)=bs.all id:=by
  rw [Bool.eq_iff_iff,List.all_eq_true,List.all_eq_true];constructor
  · intro h b hb;obtain ⟨i,hi,rfl⟩:=List.getElem_of_mem hb;have:=h i (by simpa using hi);rw [List.getD_eq_getElem?_getD,List.getElem?_eq_getElem hi] at this;exact this
  · intro h i hi;have hi:i<bs.length:=by simpa using hi
    rw [List.getD_eq_getElem?_getD,List.getElem?_eq_getElem hi];exact h _ (List.getElem_mem hi)
theorem Lp (hc:X.calm=true):Bt X (.builtin "all") (λ xs H Q=>∃ (p:Addr) (bs:List Bool),xs=[.ref p]/\SqL X.K H p (bs.map V.bl)/\Q (.bl (bs.all id)) H):=by
  intro pins s σ H xs us Q I r h;obtain ⟨p,bs,rfl,hq,q⟩:=h;obtain ⟨u,rfl,rx⟩:=FK r;cases rx;obtain ⟨its,rv,pl,_⟩:=I.list hq;have hl:=rv.length;rw [List.length_map] at hl;obtain ⟨o,ho,_⟩:=id pl.isList;have hne:p≠s.heap.objs.size:=Nat.ne_of_lt (Heap.lt_size ho);refine call_all_walk (wpAny_pyIter_list pl.isList ?_);refine ⟨s.heap.objs.size,_,_,_,_,_,λ i=>bs.getD i true,rfl,Walks.list (A:=X.A.in1) (I.ok.hd hc) _ p hne its.toArray,⟨⟨_,Heap.get?_push_size _ rfl,rfl,rfl⟩,pl.isList.at λ o e=>Heap.get?_push_of_some _ e⟩,?_,λ h' tk hk=> ?_⟩
  · intro i v s' Q' E' hv hQ';have hv:its[i]?=some v:=by simpa using hv
    have hi:i<bs.length:=by rw [hl];exact (List.getElem?_eq_some_iff.mp hv).1
    obtain ⟨u,hu,ru⟩:=rv.get (i:=i) (x:= .bl (bs.getD i true)) (by rw [List.getElem?_map,List.getD_eq_getElem?_getD,List.getElem?_eq_getElem hi];rfl);rw [hu] at hv;cases hv;cases ru;exact wpAny_truthy_bool hQ'
  · have e:its.toArray.size=bs.length:=by rw [List.size_toArray];exact hl.symm
    rw [e,Kt];exact ⟨.bl _,H,I.kept λ b o e=>hk b o (λ z=>by simp at z;exact absurd (Heap.lt_size e) (by rw [z];exact Nat.lt_irrefl _)) (Heap.get?_push_of_some _ e),rfl,q⟩
theorem HL:Bt X (.builtin "isinstance") (λ xs H Q=>∃ x n t b,xs=[x, .ty n]/\TyOf X.K H x t/\PySem.W.kitOne X.K t (.type n)=some b/\Q (.bl b) H):=by
  intro pins s σ H xs us Q I r h;obtain ⟨x,n,t,b,rfl,ty,e,q⟩:=h;obtain ⟨u,c,rfl,rx,rc⟩:=JK r;cases rc;exact GN I rx ty e λ tk=>⟨.bl b,H,I.tok tk,rfl,q⟩
def LJ (K:PySem.W.Frag):R2:=λ x y H Q=>∃ l b xs zs,x= .ref l/\y= .ref b/\SqL K H l xs/\SqL K H b zs/\xs.length+zs.length<=sizeLine/\∀ p,H p=none->Q (.ref p) (upd H p (.lst (xs++zs)))
theorem Nd:OpR X (binaryOp .Add) (LJ X.K):=by
  intro pins s σ H x y v u Q I rx ry h;obtain ⟨l,b,xs,zs,rfl,rfl,hH,hB,hz,q⟩:=h;cases rx;cases ry;obtain ⟨its,r,pl,_⟩:=I.list hH;obtain ⟨its2,r2,pl2,_⟩:=I.list hB;have h1:=r.length;have h2:=r2.length;obtain ⟨⟨cls,dd,data,sl⟩,n,ho,hc,hdd,hd⟩:=pl;obtain ⟨⟨cls2,dd2,data2,sl2⟩,n2,ho2,hc2,hdd2,hd2⟩:=pl2;simp only at hc hdd hd hc2 hdd2 hd2;subst hc hdd hd hc2 hdd2 hd2;refine concat_meets ⟨_,ho,rfl⟩ ⟨_,ho2,rfl⟩ noFill_list_add seq_list_add PySem.F.slot_list_add PySem.F.entry_list_add (PySem.F.args_list_add_2 _ _) (list_addW l b its.toArray its2.toArray n n2 none none sl sl2 (by rw [List.size_toArray,List.size_toArray];omega)) ⟨ho,ho2,?_⟩;have e:its.toArray++its2.toArray=(its++its2).toArray:=by simp
  rw [e];exact ⟨.ref _,_,I.lnew (t':=s.toks) (r.append r2) (by rw [List.length_append];omega),rfl,q _ I.fresh⟩
def De (xs ys:List V):Bool:=xs.length == ys.length&&(List.range xs.length).all λ i=>eqV (xs.getD i .non) (ys.getD i .non)
theorem Gw {xs:List V} (h:xs.all Bu=true) {i:Nat} (hi:i<xs.length):Bu (xs.getD i .non)=true:=by
  rw [List.getD_eq_getElem?_getD,List.getElem?_eq_getElem hi];exact (List.all_eq_true.mp h) _ (List.getElem_mem hi)
def IU (K:PySem.W.Frag) (neg:Bool):R2:=λ x y H Q=>∃ p q xs ys,x= .ref p/\y= .ref q/\SqL K H p xs/\SqL K H q ys/\xs.all Bu=true/\ys.all Bu=true/\Q (.bl (if neg then !De xs ys else De xs ys)) H
theorem FV {A:Around} {s:Shared} {xs ys:List V} {its its2:List Value} (r:Vals xs its) (r2:Vals ys its2) (fx:xs.all Bu=true) (fy:ys.all Bu=true):
    ∀ j (h1:j<its.toArray.size) (h2:j<its2.toArray.size),SeqAt.EqAt A s its.toArray[j] its2.toArray[j] (eqV (xs.getD j .non) (ys.getD j .non)):=λ j h1 h2=>by
  have l1:=r.length;have l2:=r2.length;have h1':j<its.length:=by simpa using h1
  have h2':j<its2.length:=by simpa using h2
  have g1:xs[j]?=some (xs.getD j .non):=by rw [List.getD_eq_getElem?_getD,List.getElem?_eq_getElem (by omega)];rfl
  have g2:ys[j]?=some (ys.getD j .non):=by rw [List.getD_eq_getElem?_getD,List.getElem?_eq_getElem (by omega)];rfl
  obtain ⟨u,e1,ru⟩:=r.get g1;obtain ⟨u2,e2,ru2⟩:=r2.get g2;have q1:its.toArray[j]=u:=by rw [List.getElem?_eq_getElem h1'] at e1;simpa using Option.some.inj e1
  have q2:its2.toArray[j]=u2:=by rw [List.getElem?_eq_getElem h2'] at e2;simpa using Option.some.inj e2
  rw [q1,q2];exact K1 ru ru2 (Gw fx (by omega)) (Gw fy (by omega))
theorem OW (hu:X.A.units<cLine):OpR X (compareOp .Eq) (IU X.K false):=by
  intro pins s σ H x y v u Q I rx ry h;obtain ⟨p,q,xs,ys,rfl,rfl,h1,h2,fx,fy,hq⟩:=h;cases rx;cases ry;obtain ⟨its,r,pl,_⟩:=I.list h1;obtain ⟨its2,r2,pl2,_⟩:=I.list h2;have l1:=r.length;have l2:=r2.length;by_cases hl:xs.length=ys.length
  · refine SeqAt.eq_listAt pl.isList pl2.isList (by simp;omega) hu (FV r r2 fx fy) ⟨.bl _,H,I,rfl,?_⟩;have e:De xs ys=(List.range its.toArray.size).all λ i=>eqV (xs.getD i .non) (ys.getD i .non):=by
      unfold De;rw [hl,beq_self_eq_true,Bool.true_and,List.size_toArray, <-l1,hl]
    rw [<-e];exact hq
  · refine SeqAt.eq_list_lengthsAt pl.isList pl2.isList (by simp;omega) hu ⟨.bl _,H,I,rfl,?_⟩;have e:De xs ys=false:=by unfold De;rw [beq_eq_false_iff_ne.mpr hl,Bool.false_and]
    rw [<-e];exact hq
theorem OH (hu:X.A.units<cLine):OpR X (compareOp .NotEq) (IU X.K true):=by
  intro pins s σ H x y v u Q I rx ry h;obtain ⟨p,q,xs,ys,rfl,rfl,h1,h2,fx,fy,hq⟩:=h;cases rx;cases ry;obtain ⟨its,r,pl,_⟩:=I.list h1;obtain ⟨its2,r2,pl2,_⟩:=I.list h2;have l1:=r.length;have l2:=r2.length;by_cases hl:xs.length=ys.length
  · refine SeqAt.RcNeAt.lists pl.isList pl2.isList (by simp;omega) hu (FV r r2 fx fy) _ _ _ _ ⟨.bl _,H,I,rfl,?_⟩;have e:De xs ys=(List.range its.toArray.size).all λ i=>eqV (xs.getD i .non) (ys.getD i .non):=by
      unfold De;rw [hl,beq_self_eq_true,Bool.true_and,List.size_toArray, <-l1,hl]
    rw [<-e];exact hq
  · refine SeqAt.RcNeAt.lists_lengths pl.isList pl2.isList (by simp;omega) hu _ _ _ _ ⟨.bl _,H,I,rfl,?_⟩;have e:De xs ys=false:=by unfold De;rw [beq_eq_false_iff_ne.mpr hl,Bool.false_and]
    rw [e] at hq;exact hq
theorem MT {α:Type} [DecidableEq α] (f:α->V) (hf:∀ a b,eqV (f a) (f b)=decide (a=b)) (as bs:List α):De (as.map f) (bs.map f)=decide (as=bs):=by
  unfold De;rw [Bool.eq_iff_iff,Bool.and_eq_true,List.all_eq_true,decide_eq_true_iff,beq_iff_eq,List.length_map,List.length_map];constructor
  · rintro ⟨h1,h2⟩;refine List.ext_getElem h1 λ i g1 g2=> ?_;have:=h2 i (by simpa using g1);rw [List.getD_eq_getElem?_getD,List.getD_eq_getElem?_getD,List.getElem?_map,List.getElem?_map,List.getElem?_eq_getElem g1,List.getElem?_eq_getElem g2] at this;have:=(hf _ _).symm.trans this;exact of_decide_eq_true this
  · rintro rfl;refine ⟨rfl,λ i hi=> ?_⟩;have hi:i<as.length:=by simpa using hi
    rw [List.getD_eq_getElem?_getD,List.getElem?_map,List.getElem?_eq_getElem hi];show eqV (f as[i]) (f as[i])=true;rw [hf];exact decide_eq_true rfl
theorem HY (as bs:List Int):De (as.map V.int) (bs.map V.int)=decide (as=bs):=MT V.int (λ a b=>by show (a == b)=_;rw [Bool.eq_iff_iff,beq_iff_eq,decide_eq_true_iff]) as bs
theorem ED (as:List Int):(as.map V.int).all Bu=true:=by simp [Bu]
end
def CallF (P:Program) (w:World) (K:PySem.W.Frag) (mg:Str->Option Value) (base:Heap) (x:Str) (k:Nat) (ps:List Str) (sp:Sp):Prop:=
  ∃ f fd,mg x=some (.ref f)/\PySem.W.keepIn K (.ref f)=true/\FnOk P w K mg base CX0 k f fd ps sp/\Binds K fd ps []
section
variable {X:Cx} {x:Str} {k:Nat} {ps:List Str} {sp:Sp} {e:Expr} {es:List Expr} {t:TA} {p pos:Pos}
theorem Aj (h:CallF X.prog X.w X.K X.mg X.base x k ps sp) (hr:Room k X.A) (ha:PA X (e::es) t) (hg:Gl X x:=by rfl) (hdb:(x == ("__debug__":Str))=false:=by decide)
    (he:starEach (e::es) X.env=(false,eval e X.env)::starEach es X.env:=by rfl) (hpl:(backTo pos (starEach es X.env)).any (·.1)=false:=by rfl):
    PE X (.Call (.Name x p) (e::es) [] pos) (GG sp [] E0 t):=by
  obtain ⟨f,fd,hm,hk,F,hb⟩:=h;exact JW F hr hg hm hk hb .nil LZ ha hdb he hpl
end
structure DefAt (K:PySem.W.Frag) (mg:Str->Option Value) (x:Str) (st:Stmt) (ps:List Str) (f:Addr) (fd:FuncData):Prop where
  fn:Fun K x x st f fd
  at':mg x=some (.ref f)
  bi:Binds K fd ps []
theorem DefAt.call {P:Program} {w:World} {K:PySem.W.Frag} {mg:Str->Option Value} {base:Heap} {x:Str} {st:Stmt} {ps:List Str} {f:Addr} {fd:FuncData} {k:Nat} {sp:Sp} (d:DefAt K mg x st ps f fd)
    (F:FnOk P w K mg base CX0 k f fd ps sp):CallF P w K mg base x k ps sp:=⟨f,fd,d.at',d.fn.kp,F,d.bi⟩
def LK:V->Bool | .int _=>true | _=>false
def Og:V->Bool | .bl _=>true | _=>false
def O6:V->Bool | .str _=>true | _=>false
def Ty (K:PySem.W.Frag) (H:Hp) (x:V):Prop:=∃ n,TyOf K H x (.type n)
def CH (n T:String):Option Bool:=if (Value.type n == Value.type T)=true then some true else if PySem.W.kitMeta T=true then (fastBuiltinMro n).map (·.contains (.type T)) else none
section
variable {K:PySem.W.Frag} {H:Hp} {x:V} {n:String}
theorem kb {n T:String} {b:Bool} (h:CH n T=some b):PySem.W.kitOne K (.type n) (.type T)=some b:=h
theorem NP (h:TyOf K H x (.type n)):PySem.W.kitOne K (.type n) (.type "int")=some (LK x||Og x):=by
  cases h <;> first
    | exact (show PySem.W.kitOne K _ _=some true from kb (by decide +kernel))
    | exact (show PySem.W.kitOne K _ _=some false from kb (by decide +kernel))
theorem Ih (h:TyOf K H x (.type n)):PySem.W.kitOne K (.type n) (.type "bool")=some (Og x):=by
  cases h <;> first
    | exact (show PySem.W.kitOne K _ _=some true from kb (by decide +kernel))
    | exact (show PySem.W.kitOne K _ _=some false from kb (by decide +kernel))
theorem MQ (h:TyOf K H x (.type n)):PySem.W.kitOne K (.type n) (.type "str")=some (O6 x):=by
  cases h <;> first
    | exact (show PySem.W.kitOne K _ _=some true from kb (by decide +kernel))
    | exact (show PySem.W.kitOne K _ _=some false from kb (by decide +kernel))
end
section
variable {X:Cx}
def Own (mg:Str->Option Value) (names:List Str):Prop:=∀ x∈names,mg x=none
theorem DJ:bootBuiltins "all"=some (.builtin "all"):=by decide +kernel
theorem Bo {x:Str} {T:String} {pos:Pos} (hg:Gl X x) (hm:X.mg x=none) (hv:bootBuiltins x=some (.type T)) (hn:x≠"__name__":=by decide) (hd:(x == ("__debug__":Str))=false:=by decide):PE X (.Name x pos) (tC (.ty T)):=
  MU hg hm hv (show RelV (.ty T) (.type T) from rfl) hn hd
end
def Fb (N:List Str) (scope:Scope):List (Str × Nat):=scope.names.filterMap λ y=>if y.2= .free then (N.findIdx? λ n=>decide (n=y.1)).map λ i=>(y.1,i) else none
def Er (sc:Scope) (N:List Str) (scope:Scope) (own:List Str) (fr:List (Str × Nat)):Bool:=
  decide (scope.kind= .function)&&
  (scope.names.all λ y=>decide (y.2≠ .cell)&&(decide (y.2≠ .local)||decide (scope.names.lookup y.1=some .local))&&
    (decide (y.2≠ .free)||((decide (sc.names.lookup y.1=some .cell)||decide (sc.names.lookup y.1=some .free))&&decide (scope.names.lookup y.1=some .free))))&&
  (fr.all λ p=>decide (N[p.2]?=some p.1)&&decide ((p.1,NameKind.free)∈scope.names))&&
  (own.all λ x=>decide (scope.names.lookup x=some .local))&&decide ((own++fr.map (·.1)).Nodup)
section
variable {X:Cx} {scope:Scope} {own:List Str} {fr:List (Str × Nat)}
theorem BlkScope.of (h:Er X.env.scope X.N scope own fr=true):BlkScope X scope own fr:=by
  unfold Er at h;simp only [Bool.and_eq_true,List.all_eq_true,decide_eq_true_iff,Bool.or_eq_true] at h;obtain ⟨⟨⟨⟨h1,h2⟩,h3⟩,h4⟩,h5⟩:=h;exact ⟨h1,λ y hy=>(h2 y hy).1.1,λ y hy e=>(h2 y hy).1.2.resolve_left (λ z=>z e),λ y hy e=>((h2 y hy).2.resolve_left (λ z=>z e)).1,λ p hp=>h3 p hp,λ x hx=>((h2 _ hx).2.resolve_left (λ z=>z rfl)).2⟩
theorem Kd (h:Er X.env.scope X.N scope own fr=true):(∀ x∈own,scope.names.lookup x=some .local)/\(own++fr.map (·.1)).Nodup:=by
  unfold Er at h;simp only [Bool.and_eq_true,List.all_eq_true,decide_eq_true_iff,Bool.or_eq_true] at h;exact ⟨h.1.2,h.2⟩
theorem G9 {i:Nat} {x:Str} {px:Pos} (h:Er X.env.scope X.N scope own fr=true) (hi:own[i]?=some x) (C:Addr) (ex:List Addr) (s:Shared) (H:Hp):PG (Ba X scope own fr C ex s H) (.Name x px) (AU i):=by
  obtain ⟨h1,h2⟩:=Kd h;have hl:(relabel scope X.env).names.lookup x=some .local:=lookup_relabel_local (h1 x (List.mem_of_getElem? hi));have hlt:=(List.getElem?_eq_some_iff.mp hi).1;refine Bj h2 ?_ (.inl hl) (.inr hl);show (own++fr.map (·.1))[i]?=some x;rw [List.getElem?_append_left hlt];exact hi
theorem AX {elt iter:Expr} {x:Str} {px:Pos} {ifs:List Expr} {pos:Pos} {wi:TI} {tc:TT} {te:TE} (hi:PI X (.Name x px) iter wi)
    (ht:∀ C ex s H,PTs (Ba X scope [x] (Fb X.N scope) C ex s H) ifs tc) (he:∀ C ex s H,PE (Ba X scope [x] (Fb X.N scope) C ex s H) elt te)
    (hb:Er X.env.scope X.N scope [x] (Fb X.N scope)=true:=by with_unfolding_all rfl) (hc:X.calm=true:=by rfl)
    (hs:∀ x,foldedSetIterable iter X.env x=pure x:=by intro _;rfl):PE X (.ListComp elt [⟨.Name x px,iter,ifs,0⟩] scope pos) (GQ wi [x] (Fb X.N scope) (AU 0) tc te):=
  Jz hc (.of hb) hi (λ C ex s H=>G9 hb rfl C ex s H) ht he hs
theorem Cg {i:Nat} {y x:Str} {py px spos:Pos} {elt iter:Expr} {ifs:List Expr} {pos:Pos} {wi:TI} {tc:TT} {te:TE} (hN:X.N.Nodup) (hix:X.N[i]?=some y) (hx:Loc X.env.scope y) (hi:PI X (.Name x px) iter wi)
    (ht:∀ C ex s H,PTs (Ba X scope [x] (Fb X.N scope) C ex s H) ifs tc) (he:∀ C ex s H,PE (Ba X scope [x] (Fb X.N scope) C ex s H) elt te)
    (hb:Er X.env.scope X.N scope [x] (Fb X.N scope)=true:=by with_unfolding_all rfl) (hc:X.calm=true:=by rfl)
    (hsw:swapsWith (.ListComp elt [⟨.Name x px,iter,ifs,0⟩] scope pos) (some (.Name y py)) spos.line X.env=pure true:=by rfl)
    (hf:X.fn y=true\/X.env.scope.names.lookup y=some .local:=by first | exact .inl rfl | exact .inr rfl | assumption)
    (hs:∀ x,foldedSetIterable iter X.env x=pure x:=by intro _;rfl):
    PS X (.Assign [.Name y py] (.ListComp elt [⟨.Name x px,iter,ifs,0⟩] scope pos) spos) (Lu (GQ wi [x] (Fb X.N scope) (AU 0) tc te) (AU i)):=
  NH hN hix hx hc (.of hb) hi (λ C ex s H=>G9 hb rfl C ex s H) ht he hsw hf hs
theorem OZ {σ:L2.St} {H:Hp} {A B:Hp->Prop} (h:A H):Ma σ H (λ b H3=>if b=true then A H3 else B H3):=by
  show (if true=true then A H else B H);exact Dj h
end
def Lv (K:PySem.W.Frag):List V->Hp->VK->Prop:=λ xs H Q=>∃ x n,xs=[x]/\Qd K x H n/\Q (.int n) H
def P4 (K:PySem.W.Frag):List V->Hp->VK->Prop:=λ xs H Q=>∃ (p:Addr) (ns:List Int),xs=[.ref p]/\SqL K H p (ns.map V.int)/\Q (.int ns.sum) H
def PY (K:PySem.W.Frag):List V->Hp->VK->Prop:=λ xs H Q=>∃ (p:Addr) (bs:List Bool),xs=[.ref p]/\SqL K H p (bs.map V.bl)/\Q (.bl (bs.all id)) H
def Oc (K:PySem.W.Frag):List V->Hp->VK->Prop:=λ xs H Q=>∃ x n t b,xs=[x, .ty n]/\TyOf K H x t/\PySem.W.kitOne K t (.type n)=some b/\Q (.bl b) H
def Fk (K:PySem.W.Frag):List V->Hp->VK->Prop:=λ xs H Q=>∃ p ys,xs=[.ref p]/\(SqL K H p ys\/SqT K H p ys)/\∀ l,H l=none->Q (.ref l) (upd H l (.lst ys))
def Hu (K:PySem.W.Frag):List V->Hp->VK->Prop:=λ xs H Q=>∃ p ys,xs=[.ref p]/\((SqL K H p ys/\∀ l,H l=none->Q (.ref l) (upd H l (.tup ys)))\/(SqT K H p ys/\Q (.ref p) H))
section
variable {X:Cx} {K:PySem.W.Frag}
theorem CQ (hK:X.K=K:=by rfl):Bt X (.builtin "len") (Lv K):=by subst hK;exact LP
theorem NX (hK:X.K=K:=by rfl) (hc:X.calm=true:=by rfl):Bt X (.builtin "sum") (P4 K):=by subst hK;exact LW hc
theorem JI (hK:X.K=K:=by rfl) (hc:X.calm=true:=by rfl):Bt X (.builtin "all") (PY K):=by subst hK;exact Lp hc
theorem Bc (hK:X.K=K:=by rfl):Bt X (.builtin "isinstance") (Oc K):=by subst hK;exact HL
theorem ES (hK:X.K=K:=by rfl):Bt X (.type "list") (Fk K):=by subst hK;exact G0
theorem BN (hK:X.K=K:=by rfl):Bt X (.type "tuple") (Hu K):=by subst hK;exact Gm
theorem Bh (hK:X.K=K:=by rfl):IxR X (OR K):=by subst hK;exact MK
theorem JU (hK:X.K=K:=by rfl):IxR X (Pr K):=by subst hK;exact OT
theorem T1 (hK:X.K=K:=by rfl):OpR X (compareOp .In) (rIn K false):=by subst hK;exact KN
theorem EW (hK:X.K=K:=by rfl):OpR X (binaryOp .Add) (LJ K):=by subst hK;exact Nd
theorem Oj (hu:X.A.units<cLine) (hK:X.K=K:=by rfl):OpR X (compareOp .Eq) (IU K false):=by subst hK;exact OW hu
theorem Od (hu:X.A.units<cLine) (hK:X.K=K:=by rfl):OpR X (compareOp .NotEq) (IU K true):=by subst hK;exact OH hu
theorem Oe (hK:X.K=K:=by rfl):SlR X (OM K):=by subst hK;exact NI
theorem BH {tg l:Expr} {tl:TE} (hl:PE X l tl) (hK:X.K=K:=by rfl):PI X tg l (JD K tl):=by subst hK;exact MZ hl
theorem JT {tg l:Expr} {tl:TE} (hl:PE X l tl) (hK:X.K=K:=by rfl):PI X tg l (OV K tl):=by subst hK;exact PP hl
end
section
variable {X:Cx} {pins:List (Addr × Obj)} {σ:St} {H:Hp} {s:Shared} {h':Heap}
theorem Inv.turnedL {t':Nat} (ch:List Addr) (I:Inv X pins σ H s) (hf:∀ b∈ch,DQ X pins H b) (k:∀ b o,b∉ch->s.heap.get? b=some o->h'.get? b=some o):Inv X pins σ H { s with heap:=h',toks:=t' }:=by
  have nit:∀ b u,H b=some u->b∉ch:=λ b u e z=>by rw [(hf b z).1] at e;cases e
  refine I.step (g':=s.gens) (d':=s.drawn) (ch:=ch) (λ b hb=> ?_) (λ b o _ _ hc e _=>k b o hc e) (λ b o _ _ hc e _=>⟨o.slots,k b o hc e⟩) (λ _ _ _ _ n=>n)
    (λ b o hc e=>⟨o,k b o hc e⟩) (λ _ _ e=>e) (λ _ _ _ e=>e) (λ b ps e=>⟨#[],by rw [e];simp⟩) (λ m hm=> ?_) (λ b u e=> ?_) I.bare
  · obtain ⟨f0,f1,f2,f3,f4,f5⟩:=hf b hb;exact ⟨f3,f1,f4,f5⟩
  · obtain ⟨o,es,ep,ho,r⟩:=hm;exact ⟨o,es,ep,k _ o (λ z=>(hf _ z).2.1 rfl) ho,r⟩
  · refine (I.hok b u e).stay (λ c v hc q=>k c v ?_ q) (λ _ q=>q) λ _ _ q=>q;rcases hc with z | z
    · rw [z];exact nit b u e
    · exact nit c _ z
end
def Ite (K:PySem.W.Frag) (a:Addr):It:=
  ⟨λ i H=>∃ xs x,SqL K H a xs/\xs[i]?=some x,λ i H v H'=>∃ p x,H p=none/\v= .ref p/\H'=upd H p (.tup [.int i,x])/\∀ xs,SqL K H a xs->xs[i]?=some x,λ i H=>∃ xs,SqL K H a xs/\xs.length<=i⟩
theorem LU {X:Cx} {pins:List (Addr × Obj)} {H:Hp} {b p:Addr} {o:HO} (h:DQ X pins H b) (n:b≠p):DQ X pins (upd H p o) b:=⟨by rw [Af n];exact h.1,h.2⟩
theorem J9 {P:Program} {w:World} {K:PySem.W.Frag} {elts:List Expr} {k:Nat} {pos:Pos} (a e it:Addr) (hne:e≠it):
    Turn P w K (.Tuple elts k pos) (Ite K a) [e,it] e (λ i h=>(∃ old,IsEnum h e it i old)/\h.IsListIter it a i) where
  mem:=by simp
  obj:=λ i h st b hb=>by
    obtain ⟨⟨old,he⟩,o,eo,c,d⟩:=st;rcases List.mem_cons.mp hb with z | z
    · subst z;exact ⟨_,he,λ v z=>by cases (show Data.fields _=Data.cell v from z)⟩
    · have z:b=it:=by simpa using z
      subst z;exact ⟨o,eo,λ v z=>by rw [d] at z;cases z⟩
  keep:=λ i h h' st kp=>by
    obtain ⟨⟨old,he⟩,hi⟩:=st;exact ⟨⟨old,kp e (by simp) _ he⟩,hi.at λ o z=>kp it (by simp) o z⟩
  item:=by
    intro X hP hw hK hc i pins s σ H E I hf st hg;subst hP hw hK;obtain ⟨xs,x,hq,hx⟩:=hg;obtain ⟨its,rv,p,hz⟩:=I.list hq;obtain ⟨u,hu,ru⟩:=rv.get hx;obtain ⟨⟨old,he⟩,hi⟩:=st;have hel:e<s.heap.objs.size:=Heap.lt_size he;have hil:it<s.heap.objs.size:=by obtain ⟨_,z,_⟩:=hi;exact Heap.lt_size z
    refine wpAny_pyNext_enum_item he hi p.isList (x:=u) (by simpa using hu) hne λ h' ho hi' hT hsz hk=> ?_;have I0:=I.laid (h':=s.heap.push { cls:= .type "tuple",data:= .seq #[.int i s.toks,u] }) (a:=s.heap.objs.size) (o:= .tup [.int i,x]) (t':=s.toks+1) (λ _ _ q=>Heap.get?_push_of_some _ q) (Nat.le_refl _)
      ⟨(by show 2<=sizeLine;decide),[.int i s.toks,u], .cons ⟨_,rfl⟩ (.cons ru .nil),⟨_,Heap.get?_push_size _ rfl,rfl,_,rfl⟩⟩
    have f0:∀ b∈[e,it],DQ X pins (upd H s.heap.objs.size (.tup [.int i,x])) b:=λ b hb=>LU (hf b hb) (by
      rcases List.mem_cons.mp hb with z | z
      · rw [z];exact Nat.ne_of_lt hel
      · rw [show b=it by simpa using z];exact Nat.ne_of_lt hil)
    have I1:=Inv.turnedL (t':=s.toks+1) (h':=h') [e,it] I0 f0 (λ b o hb z=>by
      have hb1:b≠e:=λ q=>hb (by simp [q]);have hb2:b≠it:=λ q=>hb (by simp [q]);rcases Heap.get?_push_cases (show (s.heap.push { cls:= .type "tuple",data:= .seq #[.int i s.toks,u] }).get? b=some o from z) with ⟨q1,q2⟩ | q
      · rw [q1,q2];exact hT
      · exact hk b o hb1 hb2 q)
    refine ⟨.ref s.heap.objs.size,rfl,wpAny_letOwnedTupleGo_enum (s:={ s with heap:=h',toks:=s.toks+1 }) ho λ h2 he2 sb=> ?_⟩;refine ⟨.ref s.heap.objs.size,_,Inv.turnedL (t':=s.toks+1) (h':=h2) [e,it] I1 f0 (λ b o hb z=>(sb.2 b λ q=>hb (by simp [q])).trans z),rfl,⟨_,x,I.fresh,rfl,rfl,λ ys hy=>by rw [I.list_inj hy hq];exact hx⟩,⟨⟨u,by simpa using he2⟩,hi'.at λ o z=>(sb.2 it hne.symm).trans z⟩,λ b hb=>(f0 b hb).1⟩
  done:=by
    intro X hP hw hK hc i pins s σ H E I hf st hg;subst hP hw hK;obtain ⟨xs,hq,hx⟩:=hg;obtain ⟨its,rv,p,hz⟩:=I.list hq;obtain ⟨⟨old,he⟩,hi⟩:=st;have hl:=rv.length;exact wpAny_pyNext_enum_end (I.ok.hd hc) he hi p.isList (by simp;omega) λ h' eb=>⟨rfl,I.turnedL (t':=s.toks) [e,it] hf λ b o hb z=>eb b o (λ q=>hb (by simp [q])) z⟩
  self:=λ _ _ _ _ _ st h=>by
    obtain ⟨⟨old,he⟩,_⟩:=st;exact wpAny_pyIter_enum he h
section
variable {X:Cx} {elts:List Expr} {k:Nat} {tpos:Pos} {K:PySem.W.Frag}
def N3 (K:PySem.W.Frag) (ta:TA):TI:=λ σ H R=>ta σ H λ vs H1=>∃ a,vs=[.ref a]/\(∃ xs,SqL K H1 a xs)/\R (Ite K a) H1
theorem Kk:bootBuiltins "enumerate"=some (.type "enumerate"):=by decide +kernel
theorem K5:bootBuiltins "zip"=some (.type "zip"):=by decide +kernel
theorem NB {l:Expr} {ta:TA} {p pos:Pos} (hg:Gl X "enumerate") (hm:X.mg "enumerate"=none) (ha:PA X [l] ta) (hK:X.K=K:=by rfl) (hs:starEach [l] X.env=[(false,eval l X.env)]:=by rfl):PI X (.Tuple elts k tpos) (.Call (.Name "enumerate" p) [l] [] pos) (N3 K ta):=by
  subst hK;intro pins s σ H R I h;refine Call_ (C5 I hg hm Kk (PyProof.Rows.callWith_type1 (thn (ha pos pins s σ H _ I h) λ us s1 ⟨vs,H1,I1,r1,q1⟩=> ?_) hs rfl));obtain ⟨a,e,⟨xs,hq⟩,q⟩:=q1;subst e;cases r1 with
  | cons r rr=>
    cases rr;cases r;obtain ⟨its,rv,pl,hz⟩:=I1.list hq;refine call_enumerate_list pl.isList λ h' he hi hsz hk=> ?_;refine wpAny_pyIter_enum he ?_;have I2:=I1.kept (t':=s1.toks) hk;refine ⟨s1.heap.objs.size+1,[s1.heap.objs.size+1,s1.heap.objs.size],_,_,H1,rfl,I2,J9 a _ _ (Nat.succ_ne_self _),⟨⟨_,he⟩,hi⟩,λ b hb=> ?_,q⟩;have hb':s1.heap.objs.size<=b:=by
      rcases List.mem_cons.mp hb with z | z
      · rw [z];exact Nat.le_succ _
      · have z:b=s1.heap.objs.size:=by simpa using z
        rw [z];exact Nat.le_refl _
    exact I1.fpOk hb' (I1.hok.fresh hb')
end
section
variable {X:Cx} {elts:List Expr} {k:Nat} {tpos:Pos} {K:PySem.W.Frag}
end
def BD (tp:Bool) (h:Heap) (it l:Addr) (i:Nat):Prop:=if tp=true then h.IsTupleIter it l i else h.IsListIter it l i
def BC (tp:Bool) (h:Heap) (l:Addr) (xs:Array Value):Prop:=if tp=true then h.IsTuple l xs else h.IsList l xs
theorem AE {tp:Bool} {h h':Heap} {it l:Addr} {i:Nat} (x:BD tp h it l i) (k:∀ o,h.get? it=some o->h'.get? it=some o):BD tp h' it l i:=by
  cases tp with
  | false=>obtain ⟨o,e,r⟩:=(show h.IsListIter it l i from x);exact (show h'.IsListIter it l i from ⟨o,k o e,r⟩)
  | true=>obtain ⟨o,e,r⟩:=(show h.IsTupleIter it l i from x);exact (show h'.IsTupleIter it l i from ⟨o,k o e,r⟩)
theorem Dq {tp:Bool} {h h':Heap} {l:Addr} {xs:Array Value} (x:BC tp h l xs) (k:∀ o,h.get? l=some o->h'.get? l=some o):BC tp h' l xs:=by
  cases tp with
  | false=>obtain ⟨o,e,r⟩:=(show h.IsList l xs from x);exact (show h'.IsList l xs from ⟨o,k o e,r⟩)
  | true=>obtain ⟨o,e,r⟩:=(show h.IsTuple l xs from x);exact (show h'.IsTuple l xs from ⟨o,k o e,r⟩)
theorem DI {tp:Bool} {h:Heap} {it l:Addr} {i:Nat} (x:BD tp h it l i):∃ o,h.get? it=some o/\o.data= .fields #[.ref l, .int i 0]:=by
  cases tp with
  | false=>obtain ⟨o,e,_,d⟩:=(show h.IsListIter it l i from x);exact ⟨o,e,d⟩
  | true=>obtain ⟨o,e,_,d⟩:=(show h.IsTupleIter it l i from x);exact ⟨o,e,d⟩
theorem Gy {tp:Bool} {h:Heap} {l:Addr} {xs:Array Value} (x:BC tp h l xs):∃ o n,h.get? l=some o/\o.data= .seq xs n:=by
  cases tp with
  | false=>obtain ⟨o,e,_,n,d⟩:=(show h.IsList l xs from x);exact ⟨o,n,e,d⟩
  | true=>obtain ⟨o,e,_,n,d⟩:=(show h.IsTuple l xs from x);exact ⟨o,n,e,d⟩
section
variable {prog:Program} {w:World} {A:Around} {E:Value->Shared->Prop} {s:Shared}
theorem FG {tp:Bool} {it l:Addr} {i:Nat} {xs:Array Value} {x:Value} {Q:Value->Shared->Prop} (ht:BD tp s.heap it l i) (hq:BC tp s.heap l xs) (hx:xs[i]?=some x)
    (k:∀ h',BD tp h' it l (i+1)->Heap.SameBut it s.heap h'->Q x { s with heap:=h' }):wpAny (model prog w) A (Builtin.SmallTypes.nextOf (.ref it)) Q E s:=by
  cases tp with
  | false=>exact wpAny_nextOf_list_item (show s.heap.IsListIter it l i from ht) (show s.heap.IsList l xs from hq) hx k
  | true=>
    have ht:s.heap.IsTupleIter it l i:=ht;obtain ⟨ob,eb,cb,db⟩:=id ht;obtain ⟨ol,el,_,nl,dl⟩:=(show s.heap.IsTuple l xs from hq);unfold Builtin.SmallTypes.nextOf;refine wpAny_bind (wpAny_callSpecial?_slot (name:=Str.ofString "__next__") ht.typeIs F.slot_tuple_iterator_next (wpAny_call_entry F.slot_tuple_iterator_next ht.typeIs F.entry_tuple_iterator_next ?_ (F.args_tuple_iterator_next_1 _)));show wpAny _ _ (field (.ref it) 0 >>= _) _ _ s;refine wpAny_bind (wpAny_field eb db (x:= .ref l) rfl ?_);show wpAny _ _ (if (Value.ref l == Value.none)=true then _ else _) _ _ s;rw [if_neg (show ¬ ((Value.ref l == Value.none)=true) from Bool.false_ne_true)];show wpAny _ _ (field (.ref it) 1 >>= _) _ _ s;refine wpAny_bind (wpAny_field eb db (x:= .int i 0) rfl ?_);show wpAny _ _ (seqItems? (.ref l) >>= _) _ _ s;refine wpAny_bind (wpAny_seqItems el dl ?_);simp only [Int.toNat_natCast,hx];refine wpAny_bind (wpAny_setField eb db (by simp) (wpAny_pure ⟨x,rfl,wpAny_pure (k _ ?_ (Heap.SameBut.update ..))⟩));exact (show Heap.IsTupleIter _ it l (i+1) from ⟨_,Heap.get?_update_self _ eb (Obj.isFreed_of_fields (Obj.data_mapFields db _)),(Obj.cls_mapFields ..).trans cb,by rw [Obj.data_mapFields db];simp [rawInt]⟩)
theorem Jq {tp:Bool} {it l:Addr} {i:Nat} {xs:Array Value} {Q:Value->Shared->Prop} (hh:A.handled=none) (ht:BD tp s.heap it l i) (hq:BC tp s.heap l xs) (hx:xs[i]?=none)
    (k:∀ h' e,Heap.ExtBut it s.heap h'->(∃ o,h'.get? e=some o/\o.cls= .type "StopIteration")->E (.ref e) { s with heap:=h' }):wpAny (model prog w) A (Builtin.SmallTypes.nextOf (.ref it)) Q E s:=by
  cases tp with
  | false=>exact wpAny_nextOf_list_end hh (show s.heap.IsListIter it l i from ht) (show s.heap.IsList l xs from hq) hx k
  | true=>
    have ht:s.heap.IsTupleIter it l i:=ht;obtain ⟨ob,eb,cb,db⟩:=id ht;obtain ⟨ol,el,_,nl,dl⟩:=(show s.heap.IsTuple l xs from hq);unfold Builtin.SmallTypes.nextOf;refine wpAny_bind (wpAny_callSpecial?_slot (name:=Str.ofString "__next__") ht.typeIs F.slot_tuple_iterator_next (wpAny_call_entry F.slot_tuple_iterator_next ht.typeIs F.entry_tuple_iterator_next ?_ (F.args_tuple_iterator_next_1 _)));show wpAny _ _ (field (.ref it) 0 >>= _) _ _ s;refine wpAny_bind (wpAny_field eb db (x:= .ref l) rfl ?_);show wpAny _ _ (if (Value.ref l == Value.none)=true then _ else _) _ _ s;rw [if_neg (show ¬ ((Value.ref l == Value.none)=true) from Bool.false_ne_true)];show wpAny _ _ (field (.ref it) 1 >>= _) _ _ s;refine wpAny_bind (wpAny_field eb db (x:= .int i 0) rfl ?_);show wpAny _ _ (seqItems? (.ref l) >>= _) _ _ s;refine wpAny_bind (wpAny_seqItems el dl ?_);simp only [Int.toNat_natCast,hx];refine wpAny_bind (wpAny_rule (wpAny_bind (wpAny_setField eb db (by simp) ?_)));show wpAny _ _ (newExc (.type "StopIteration") [] >>= _) _ _ _;refine wpAny_bind ?_;simp only [newExc,newTuple];refine wpAny_bind (wpAny_newObj_type ?_ (by size_fits));refine wpAny_bind (m:=firstArgMember _ _) (wpAny_of_eq (a:=Value.none) (by first | rfl | (simp only [firstArgMember];rfl)) ?_);refine wpAny_newObj_type ?_ (by size_fits);simp only [raiseNew];refine wpAny_bind (wpAny_handled ?_)
    first | rw [show A.in1.handled=none from hh] | rw [hh]
    exact wpAny_bind (wpAny_pure (wpAny_throw (k _ _ (((Heap.SameBut.update ..).extBut.push _).push _) ⟨_,Heap.get?_push_size _ rfl,rfl⟩)))
end
section
variable {prog:Program} {w:World} {A:Around} {E:Value->Shared->Prop} {s:Shared}
structure ZipSt (t1 t2:Bool) (h:Heap) (z TI TO i1 i2 l1 l2:Addr) (k:Nat):Prop where
  hz:IsZip h z TI TO .none
  hTI:IsPair h TI (.ref i1) (.ref i2)
  hTO:∃ c d,IsPair h TO c d
  h1:BD t1 h i1 l1 k
  h2:BD t2 h i2 l2 k
theorem KB {t1 t2:Bool} {z TI TO i1 i2 l1 l2:Addr} {k:Nat} {xs ys:Array Value} {x y:Value} {Q:Value->Shared->Prop} (D:ZipApart z TI TO i1 i2 l1 l2) (Z:ZipSt t1 t2 s.heap z TI TO i1 i2 l1 l2 k)
    (q1:BC t1 s.heap l1 xs) (q2:BC t2 s.heap l2 ys) (hx:xs[k]?=some x) (hy:ys[k]?=some y)
    (fin:∀ h',IsZip h' z TI TO (rawInt s.heap.objs.size)->IsPair h' TO x y->BD t1 h' i1 l1 (k+1)->BD t2 h' i2 l2 (k+1)->IsPair h' s.heap.objs.size x y->
      (∀ c o,c≠z->c≠TO->c≠i1->c≠i2->s.heap.get? c=some o->h'.get? c=some o)->Q (.ref s.heap.objs.size) { s with heap:=h' }):
    wpAny (model prog w) A (Builtin.«zip.__next__» ⟨[.ref z],[]⟩) (λ fin s'=>∃ v,fin= .done (.ret v)/\Q v s') E s:=by
  obtain ⟨hz,hTI,⟨c0,d0,hTO⟩,g1,g2⟩:=Z;show wpAny _ _ (field (.ref z) 2 >>= _) _ _ _;refine wpAny_bind (wpAny_field hz rfl (x:= .bool false) rfl ?_);show wpAny _ _ (field (.ref z) 3 >>= _) _ _ _;refine wpAny_bind (wpAny_field hz rfl (x:= .ref TI) rfl (wpAny_bind (wpAny_seqItems hTI rfl ?_)));show wpAny _ _ (Builtin.SmallTypes.ownedTupleIsFree (.ref z) >>= _) _ _ _;refine wpAny_bind ?_;unfold Builtin.SmallTypes.ownedTupleIsFree;refine wpAny_bind (wpAny_field hz rfl (x:= .none) rfl (wpAny_pure ?_));simp only [if_true];refine wpAny_bind (wpAny_rule (wpAny_bind (wpAny_field hz rfl (x:= .ref TO) rfl (wpAny_bind (wpAny_setField_rec hz (by simp) λ a1 za b1=> ?_)))));replace za:IsZip a1 z TI TO .ellipsis:=za;refine wpAny_bind ?_;simp only [List.zipIdx_cons,List.zipIdx_nil,List.forIn_cons,List.forIn_nil];refine wpAny_bind (wpAny_bind (wpAny_onRaise ?_));show wpAny _ _ (Builtin.SmallTypes.nextOf (.ref i1) >>= _) _ _ _;refine wpAny_bind (FG (s:={ s with heap:=a1 }) (AE g1 λ o e=>b1.extBut _ o D.i1z e) (Dq q1 λ o e=>b1.extBut _ o D.l1z e) hx λ a2 i1a b2=>wpAny_pure ?_);have to2:IsPair a2 TO c0 d0:=b2.extBut _ _ D.TOi1 (b1.extBut _ _ D.TOz hTO);refine wpAny_bind (wpAny_seqItems to2 rfl (wpAny_bind (wpAny_updateSeq_pair to2 λ a3 to3 b3=> ?_)));replace to3:IsPair a3 TO x d0:=to3;refine wpAny_bind (wpAny_letGo (wpAny_pure (wpAny_bind (wpAny_bind (wpAny_onRaise ?_)))));show wpAny _ _ (Builtin.SmallTypes.nextOf (.ref i2) >>= _) _ _ _;have up3:∀ c o,c≠z->c≠i1->c≠TO->s.heap.get? c=some o->a3.get? c=some o:=λ c o n1 n2 n3 e=>b3.extBut _ o n3 (b2.extBut _ o n2 (b1.extBut _ o n1 e));refine wpAny_bind (FG (s:={ s with heap:=a3 }) (AE g2 λ o e=>up3 _ o D.i2z D.i12.symm D.TOi2.symm e) (Dq q2 λ o e=>up3 _ o D.l2z D.l2i1 D.l2TO e) hy λ a4 i2a b4=>wpAny_pure ?_);have to4:IsPair a4 TO x d0:=b4.extBut _ _ D.TOi2 to3;refine wpAny_bind (wpAny_seqItems to4 rfl (wpAny_bind (wpAny_updateSeq_pair to4 λ a5 to5 b5=> ?_)));replace to5:IsPair a5 TO x y:=to5;refine wpAny_bind (wpAny_letGo (wpAny_pure (wpAny_pure (wpAny_bind (wpAny_seqItems to5 rfl (wpAny_bind (wpAny_newTuple ?_)))))));have sz:a5.objs.size=s.heap.objs.size:=by rw [b5.1,b4.1,b3.1,b2.1,b1.1]
  have z5:IsZip a5 z TI TO .ellipsis:=b5.extBut _ _ D.TOz.symm (b4.extBut _ _ D.i2z.symm (b3.extBut _ _ D.TOz.symm (b2.extBut _ _ D.i1z.symm za)));have k5:∀ c o,c≠z->c≠TO->c≠i1->c≠i2->s.heap.get? c=some o->a5.get? c=some o:=λ c o n1 n2 n3 n4 e=>b5.extBut _ _ n2 (b4.extBut _ _ n4 (up3 c o n1 n3 n2 e));have f1:BD t1 a5 i1 l1 (k+1):=AE i1a λ o e=>b5.extBut _ o D.TOi1.symm (b4.extBut _ o D.i12 (b3.extBut _ o D.TOi1.symm e));have f2:BD t2 a5 i2 l2 (k+1):=AE i2a λ o e=>b5.extBut _ o D.TOi2.symm e;have zlt:z<a5.objs.size:=Heap.lt_size z5;show wpAny _ _ (Builtin.SmallTypes.ownedTupleHandOut (.ref z) (.ref a5.objs.size) >>= _) _ _ _;refine wpAny_bind ?_;unfold Builtin.SmallTypes.ownedTupleHandOut;have z6:IsZip (a5.push { cls:= .type "tuple",data:= .seq #[x,y] }) z TI TO .ellipsis:=Heap.get?_push_of_some _ z5;refine wpAny_bind (wpAny_setField_rec z6 (by simp) λ a7 z7 b7=> ?_);replace z7:IsZip a7 z TI TO (rawInt a5.objs.size):=z7;refine wpAny_setField_rec z7 (by simp) λ a8 z8 b8=> ?_;replace z8:IsZip a8 z TI TO (rawInt a5.objs.size):=z8;have up:∀ c o,c≠z->a5.get? c=some o->a8.get? c=some o:=λ c o n e=>b8.extBut _ _ n (b7.extBut _ _ n (Heap.get?_push_of_some _ e));have t8:IsPair a8 a5.objs.size x y:=b8.extBut _ _ (Nat.ne_of_gt zlt) (b7.extBut _ _ (Nat.ne_of_gt zlt) (Heap.get?_push_size _ rfl));rw [sz] at z8 t8;refine wpAny_pure ⟨_,rfl,?_⟩;show Q (.ref a5.objs.size) _;rw [sz];exact fin a8 z8 (up _ _ D.TOz to5) (AE f1 λ o e=>up _ o D.i1z e) (AE f2 λ o e=>up _ o D.i2z e) t8 λ c o n1 n2 n3 n4 e=>up c o n1 (k5 c o n1 n2 n3 n4 e)
theorem Mo {t1 t2:Bool} {z TI TO i1 i2 l1 l2:Addr} {k:Nat} {xs ys:Array Value} {Q:Fin->Shared->Prop} (hh:A.handled=none) (D:ZipApart z TI TO i1 i2 l1 l2) (Z:ZipSt t1 t2 s.heap z TI TO i1 i2 l1 l2 k)
    (q1:BC t1 s.heap l1 xs) (q2:BC t2 s.heap l2 ys) (hend:xs[k]?=none\/ys[k]?=none)
    (fin:∀ h' e,(∀ c o,c≠z->c≠TO->c≠i1->c≠i2->s.heap.get? c=some o->h'.get? c=some o)->(∃ o,h'.get? e=some o/\o.cls= .type "StopIteration")->E (.ref e) { s with heap:=h' }):
    wpAny (model prog w) A (Builtin.«zip.__next__» ⟨[.ref z],[]⟩) Q E s:=by
  obtain ⟨hz,hTI,⟨c0,d0,hTO⟩,g1,g2⟩:=Z;show wpAny _ _ (field (.ref z) 2 >>= _) _ _ _;refine wpAny_bind (wpAny_field hz rfl (x:= .bool false) rfl ?_);show wpAny _ _ (field (.ref z) 3 >>= _) _ _ _;refine wpAny_bind (wpAny_field hz rfl (x:= .ref TI) rfl (wpAny_bind (wpAny_seqItems hTI rfl ?_)));show wpAny _ _ (Builtin.SmallTypes.ownedTupleIsFree (.ref z) >>= _) _ _ _;refine wpAny_bind ?_;unfold Builtin.SmallTypes.ownedTupleIsFree;refine wpAny_bind (wpAny_field hz rfl (x:= .none) rfl (wpAny_pure ?_));simp only [if_true];refine wpAny_bind (wpAny_rule (wpAny_bind (wpAny_field hz rfl (x:= .ref TO) rfl (wpAny_bind (wpAny_setField_rec hz (by simp) λ a1 za b1=> ?_)))));replace za:IsZip a1 z TI TO .ellipsis:=za;refine wpAny_bind ?_;simp only [List.zipIdx_cons,List.zipIdx_nil,List.forIn_cons,List.forIn_nil];refine wpAny_bind (wpAny_bind (wpAny_onRaise ?_));show wpAny _ _ (Builtin.SmallTypes.nextOf (.ref i1) >>= _) _ _ _;have g1':=AE g1 λ o e=>b1.extBut _ o D.i1z e;have q1':=Dq q1 λ o e=>b1.extBut _ o D.l1z e;cases hx:xs[k]? with
  | none=>
    refine wpAny_bind (Jq (s:={ s with heap:=a1 }) hh g1' q1' hx λ a2 e b2 he=> ?_);obtain ⟨oe,eo,ce⟩:=he;have z2:IsZip a2 z TI TO .ellipsis:=b2 _ _ D.i1z.symm za;have nz:e≠z:=λ q=>by subst q;rw [z2] at eo;cases eo;simp at ce
    exact wpAny_setField_rec z2 (by simp) λ a3 _ b3=>fin a3 e (λ c o n1 _ n3 _ q=>b3.extBut _ _ n1 (b2 _ _ n3 (b1.extBut _ _ n1 q))) ⟨oe,b3.extBut _ _ nz eo,ce⟩
  | some x=>
    have hy:ys[k]?=none:=by
      rcases hend with q | q
      · rw [hx] at q;cases q
      · exact q
    refine wpAny_bind (FG (s:={ s with heap:=a1 }) g1' q1' hx λ a2 i1a b2=>wpAny_pure ?_);have to2:IsPair a2 TO c0 d0:=b2.extBut _ _ D.TOi1 (b1.extBut _ _ D.TOz hTO);refine wpAny_bind (wpAny_seqItems to2 rfl (wpAny_bind (wpAny_updateSeq_pair to2 λ a3 to3 b3=> ?_)));refine wpAny_bind (wpAny_letGo (wpAny_pure (wpAny_bind (wpAny_bind (wpAny_onRaise ?_)))));show wpAny _ _ (Builtin.SmallTypes.nextOf (.ref i2) >>= _) _ _ _;have up3:∀ c o,c≠z->c≠i1->c≠TO->s.heap.get? c=some o->a3.get? c=some o:=λ c o n1 n2 n3 e=>b3.extBut _ o n3 (b2.extBut _ o n2 (b1.extBut _ o n1 e));refine wpAny_bind (Jq (s:={ s with heap:=a3 }) hh (AE g2 λ o e=>up3 _ o D.i2z D.i12.symm D.TOi2.symm e) (Dq q2 λ o e=>up3 _ o D.l2z D.l2i1 D.l2TO e) hy λ a4 e b4 he=> ?_);obtain ⟨oe,eo,ce⟩:=he;have z4:IsZip a4 z TI TO .ellipsis:=b4 _ _ D.i2z.symm (b3.extBut _ _ D.TOz.symm (b2.extBut _ _ D.i1z.symm za));have nz:e≠z:=λ q=>by subst q;rw [z4] at eo;cases eo;simp at ce
    exact wpAny_setField_rec z4 (by simp) λ a5 _ b5=>fin a5 e (λ c o n1 n2 n3 n4 q=>b5.extBut _ _ n1 (b4 _ _ n4 (up3 c o n1 n3 n2 q))) ⟨oe,b5.extBut _ _ nz eo,ce⟩
def Ip (tp:Bool):String:=if tp=true then "tuple_iterator" else "list_iterator"
theorem Ia {tp:Bool} {l:Addr} {xs:Array Value} {Q:Value->Shared->Prop} (hq:BC tp s.heap l xs) (k:Q (.ref s.heap.objs.size) { s with heap:=s.heap.push { cls:= .type (Ip tp),data:= .fields #[.ref l, .int 0 0] } }):
    wpAny (model prog w) A (pyIter (.ref l)) Q E s:=by
  cases tp with
  | false=>exact wpAny_pyIter_list (show s.heap.IsList l xs from hq) k
  | true=>exact wpAny_pyIter_tuple (show s.heap.IsTuple l xs from hq) k
theorem Gz {tp:Bool} {h:Heap} {l:Addr}:BD tp (h.push { cls:= .type (Ip tp),data:= .fields #[.ref l, .int 0 0] }) h.objs.size l 0:=by
  cases tp with
  | false=>exact (show Heap.IsListIter _ _ l 0 from ⟨_,Heap.get?_push_size _ rfl,rfl,rfl⟩)
  | true=>exact (show Heap.IsTupleIter _ _ l 0 from ⟨_,Heap.get?_push_size _ rfl,rfl,rfl⟩)
abbrev zs1 (t1:Bool) (h:Heap) (l1:Addr):Heap:=h.push { cls:= .type (Ip t1),data:= .fields #[.ref l1, .int 0 0] }
abbrev zs2 (t1 t2:Bool) (h:Heap) (l1 l2:Addr):Heap:=(zs1 t1 h l1).push { cls:= .type (Ip t2),data:= .fields #[.ref l2, .int 0 0] }
abbrev zs3 (t1 t2:Bool) (h:Heap) (l1 l2:Addr):Heap:=(zs2 t1 t2 h l1 l2).push { cls:= .type "tuple",data:= .seq #[.ref h.objs.size, .ref (zs1 t1 h l1).objs.size] }
abbrev zs4 (t1 t2:Bool) (h:Heap) (l1 l2:Addr):Heap:=(zs3 t1 t2 h l1 l2).push { cls:= .type "tuple",data:= .seq #[.none, .none] }
abbrev zs5 (t1 t2:Bool) (h:Heap) (l1 l2:Addr):Heap:=(zs4 t1 t2 h l1 l2).push { cls:= .type "zip",data:= .fields #[.none, .bool false, .bool false, .ref (zs2 t1 t2 h l1 l2).objs.size, .ref (zs3 t1 t2 h l1 l2).objs.size] }
theorem Jb (t1 t2:Bool) (l1 l2:Addr) (xs ys:Array Value):
    Meets (Builtin.«zip.__new__» ⟨[.type "zip", .ref l1, .ref l2],[]⟩) (λ _ R s=>BC t1 s.heap l1 xs/\BC t2 s.heap l2 ys/\
      R (.ok (.ret (.ref (zs4 t1 t2 s.heap l1 l2).objs.size))) { s with heap:=zs5 t1 t2 s.heap l1 l2 }):=
  .of_wp λ prog w A R s h=>by
    obtain ⟨hp,g,d,tk,os⟩:=s;obtain ⟨m1,m2,h⟩:=h;have hsub:=sub_zip;have M1:BC t1 (Shared.heap ⟨hp,g,d,tk,os⟩) l1 xs:=m1;have M2:BC t2 (Shared.heap ⟨hp.push { cls:= .type (Ip t1),data:= .fields #[.ref l1, .int 0 0] },g,d,tk,os⟩) l2 ys:=Dq m2 λ o e=>Heap.get?_push_of_some _ e
    wp_walk using Ia M1,Ia M2
    exact ⟨_,rfl,h⟩
theorem Kq {t1 t2:Bool} {l1 l2:Addr} {xs ys:Array Value} {Q:Value->Shared->Prop} (m1:BC t1 s.heap l1 xs) (m2:BC t2 s.heap l2 ys)
    (k:∀ h',ZipSt t1 t2 h' (s.heap.objs.size+4) (s.heap.objs.size+2) (s.heap.objs.size+3) s.heap.objs.size (s.heap.objs.size+1) l1 l2 0->
      (∀ c o,s.heap.get? c=some o->h'.get? c=some o)->Q (.ref (s.heap.objs.size+4)) { s with heap:=h' }):
    wpAny (model prog w) A (call (.type "zip") [.ref l1, .ref l2]) Q E s:=by
  refine callType_new F.called_zip (by decide) (F.typeCall_zip_2 _ _) (F.newCall_zip_2 _ _) (λ obj=>F.args_object_init_3 obj _ _) F.entry_zip_new (Jb t1 t2 l1 l2 xs ys) ⟨m1,m2,?_⟩;have n1:(zs1 t1 s.heap l1).objs.size=s.heap.objs.size+1:=Heap.size_push ..;have n2:(zs2 t1 t2 s.heap l1 l2).objs.size=s.heap.objs.size+2:=by rw [Heap.size_push,n1]
  have n3:(zs3 t1 t2 s.heap l1 l2).objs.size=s.heap.objs.size+3:=by rw [Heap.size_push,n2]
  have n4:(zs4 t1 t2 s.heap l1 l2).objs.size=s.heap.objs.size+4:=by rw [Heap.size_push,n3]
  have g5:(zs5 t1 t2 s.heap l1 l2).get? (zs4 t1 t2 s.heap l1 l2).objs.size=some _:=Heap.get?_push_size _ rfl;have g4:(zs5 t1 t2 s.heap l1 l2).get? (zs3 t1 t2 s.heap l1 l2).objs.size=some _:=Heap.get?_push_of_some _ (Heap.get?_push_size _ rfl);have g3:(zs5 t1 t2 s.heap l1 l2).get? (zs2 t1 t2 s.heap l1 l2).objs.size=some _:=Heap.get?_push_of_some _ (Heap.get?_push_of_some _ (Heap.get?_push_size _ rfl));have up2:∀ c o,(zs2 t1 t2 s.heap l1 l2).get? c=some o->(zs5 t1 t2 s.heap l1 l2).get? c=some o:=λ c o e=>Heap.get?_push_of_some _ (Heap.get?_push_of_some _ (Heap.get?_push_of_some _ e));have s2:BD t2 (zs5 t1 t2 s.heap l1 l2) (zs1 t1 s.heap l1).objs.size l2 0:=AE Gz λ o e=>up2 _ o e;have s1:BD t1 (zs5 t1 t2 s.heap l1 l2) s.heap.objs.size l1 0:=AE Gz λ o e=>up2 _ o (Heap.get?_push_of_some _ e);show _/\_;rw [n2,n3,n4] at g5;rw [n1,n2] at g3;rw [n3] at g4;rw [n1] at s2;rw [n4];exact ⟨⟨_,g5,rfl⟩,k _ ⟨g5,g3,⟨_,_,g4⟩,s1,s2⟩ λ c o e=>up2 c o (Heap.get?_push_of_some _ (Heap.get?_push_of_some _ e))⟩
end
def SqS (tp:Bool) (K:PySem.W.Frag) (H:Hp) (a:Addr) (xs:List V):Prop:=if tp=true then SqT K H a xs else SqL K H a xs
theorem DH {X:Cx} {pins:List (Addr × Obj)} {σ:St} {H:Hp} {s:Shared} {tp:Bool} {a:Addr} {xs:List V} (I:Inv X pins σ H s) (h:SqS tp X.K H a xs):∃ its:List Value,Vals xs its/\BC tp s.heap a its.toArray:=by
  cases tp with
  | false=>
    obtain ⟨its,r,p,_⟩:=I.list (show SqL X.K H a xs from h);exact ⟨its,r,(show s.heap.IsList a its.toArray from p.isList)⟩
  | true=>
    obtain ⟨its,r,p,_⟩:=I.tuple (show SqT X.K H a xs from h);exact ⟨its,r,(show s.heap.IsTuple a its.toArray from p)⟩
theorem Ju {X:Cx} {pins:List (Addr × Obj)} {σ:St} {H:Hp} {s:Shared} {tp:Bool} {a:Addr} {xs ys:List V} (I:Inv X pins σ H s) (h:SqS tp X.K H a xs) (h2:SqS tp X.K H a ys):xs=ys:=by
  cases tp with
  | false=>exact I.list_inj h h2
  | true=>exact I.tuple_inj h h2
def Izs (t1 t2:Bool) (K:PySem.W.Frag) (a b:Addr):It:=
  ⟨λ i H=>∃ xs ys x y,SqS t1 K H a xs/\SqS t2 K H b ys/\xs[i]?=some x/\ys[i]?=some y,
   λ i H v H'=>∃ p x y,H p=none/\v= .ref p/\H'=upd H p (.tup [x,y])/\(∀ xs,SqS t1 K H a xs->xs[i]?=some x)/\∀ ys,SqS t2 K H b ys->ys[i]?=some y,
   λ i H=>∃ xs ys,SqS t1 K H a xs/\SqS t2 K H b ys/\(xs.length<=i\/ys.length<=i)⟩
theorem NC {P:Program} {w:World} {K:PySem.W.Frag} {elts:List Expr} {k:Nat} {pos:Pos} (t1 t2:Bool) (a b z TI TO i1 i2:Addr) (D:ZipApart z TI TO i1 i2 a b):
    Turn P w K (.Tuple elts k pos) (Izs t1 t2 K a b) [z,TI,TO,i1,i2] z (λ i h=>ZipSt t1 t2 h z TI TO i1 i2 a b i) where
  mem:=by simp
  obj:=λ i h st c hc=>by
    obtain ⟨hz,hTI,⟨x,y,hTO⟩,h1,h2⟩:=st;obtain ⟨o1,e1,d1⟩:=DI h1;obtain ⟨o2,e2,d2⟩:=DI h2;simp only [List.mem_cons,List.not_mem_nil,or_false] at hc;rcases hc with q | q | q | q | q
    · subst q;exact ⟨_,hz,λ v z=>by cases (show Data.fields _=Data.cell v from z)⟩
    · subst q;exact ⟨_,hTI,λ v z=>by cases (show Data.seq _ _=Data.cell v from z)⟩
    · subst q;exact ⟨_,hTO,λ v z=>by cases (show Data.seq _ _=Data.cell v from z)⟩
    · subst q;exact ⟨o1,e1,λ v z=>by rw [d1] at z;cases z⟩
    · subst q;exact ⟨o2,e2,λ v z=>by rw [d2] at z;cases z⟩
  keep:=λ i h h' st kp=>by
    obtain ⟨hz,hTI,⟨x,y,hTO⟩,h1,h2⟩:=st;exact ⟨kp z (by simp) _ hz,kp TI (by simp) _ hTI,⟨x,y,kp TO (by simp) _ hTO⟩,AE h1 λ o q=>kp i1 (by simp) o q,AE h2 λ o q=>kp i2 (by simp) o q⟩
  item:=by
    intro X hP hw hK hc i pins s σ H E I hf st hg;subst hP hw hK;obtain ⟨xs,ys,x,y,hq1,hq2,hx,hy⟩:=hg;obtain ⟨its,rv,p1⟩:=DH I hq1;obtain ⟨its2,rv2,p2⟩:=DH I hq2;obtain ⟨u,hu,ru⟩:=rv.get hx;obtain ⟨u2,hu2,ru2⟩:=rv2.get hy;have lt:∀ q∈[z,TI,TO,i1,i2],q<s.heap.objs.size:=λ q hq=>by
      obtain ⟨hz,hTI,⟨c,d,hTO⟩,h1,h2⟩:=id st;obtain ⟨_,e1,_⟩:=DI h1;obtain ⟨_,e2,_⟩:=DI h2;simp only [List.mem_cons,List.not_mem_nil,or_false] at hq;rcases hq with q' | q' | q' | q' | q'
      · subst q';exact Heap.lt_size hz
      · subst q';exact Heap.lt_size hTI
      · subst q';exact Heap.lt_size hTO
      · subst q';exact Heap.lt_size e1
      · subst q';exact Heap.lt_size e2
    have hT0:s.TypeIs (.ref z) "zip":=⟨_,st.hz,rfl⟩;unfold pyNext;refine wpAny_bind (wpAny_attempt (wpAny_callSpecial?_slot (name:=Str.ofString "__next__") hT0 F.slot_zip_next (wpAny_call_entry F.slot_zip_next hT0 F.entry_zip_next
      (KB D st p1 p2 (x:=u) (y:=u2) (by simpa using hu) (by simpa using hu2) λ h' hz' hTO' h1' h2' hT hk=>wpAny_pure ?_) (F.args_zip_next_1 _))))
    have I0:=I.laid (h':=s.heap.push { cls:= .type "tuple",data:= .seq #[u,u2] }) (a:=s.heap.objs.size) (o:= .tup [x,y]) (t':=s.toks) (λ _ _ q=>Heap.get?_push_of_some _ q) (Nat.le_refl _)
      ⟨(by show 2<=sizeLine;decide),[u,u2], .cons ru (.cons ru2 .nil),⟨_,Heap.get?_push_size _ rfl,rfl,_,rfl⟩⟩
    have f0:∀ b∈[z,TI,TO,i1,i2],DQ X pins (upd H s.heap.objs.size (.tup [x,y])) b:=λ b hb=>LU (hf b hb) (Nat.ne_of_lt (lt b hb));have I1:=Inv.turnedL (t':=s.toks) (h':=h') [z,TI,TO,i1,i2] I0 f0 (λ b o hb q=>by
      rcases Heap.get?_push_cases (show (s.heap.push { cls:= .type "tuple",data:= .seq #[u,u2] }).get? b=some o from q) with ⟨q1,q2⟩ | q
      · rw [q1,q2];exact hT
      · exact hk b o (λ e=>hb (by simp [e])) (λ e=>hb (by simp [e])) (λ e=>hb (by simp [e])) (λ e=>hb (by simp [e])) q)
    refine ⟨.ref s.heap.objs.size,rfl,wpAny_letOwnedTupleGo_zip (s:={ s with heap:=h' }) hz' λ h3 hz3 sb=> ?_⟩;refine ⟨.ref s.heap.objs.size,_,Inv.turnedL (t':=s.toks) (h':=h3) [z,TI,TO,i1,i2] I1 f0 (λ b o hb q=>(sb.2 b λ e=>hb (by simp [e])).trans q),rfl,
      ⟨_,x,y,I.fresh,rfl,rfl,λ l hl=>by rw [Ju I hl hq1];exact hx,λ l hl=>by rw [Ju I hl hq2];exact hy⟩,
      ⟨hz3,(sb.2 TI D.TIz).trans (hk TI _ D.TIz D.TITO D.TIi1 D.TIi2 st.hTI),⟨u,u2,(sb.2 TO D.TOz).trans hTO'⟩,AE h1' λ o q=>(sb.2 i1 D.i1z).trans q,AE h2' λ o q=>(sb.2 i2 D.i2z).trans q⟩,λ b hb=>(f0 b hb).1⟩
  done:=by
    intro X hP hw hK hc i pins s σ H E I hf st hg;subst hP hw hK;obtain ⟨xs,ys,hq1,hq2,hx⟩:=hg;obtain ⟨its,rv,p1⟩:=DH I hq1;obtain ⟨its2,rv2,p2⟩:=DH I hq2;have hl:=rv.length;have hl2:=rv2.length;have hT0:s.TypeIs (.ref z) "zip":=⟨_,st.hz,rfl⟩;unfold pyNext;refine wpAny_bind (wpAny_attempt (wpAny_callSpecial?_slot (name:=Str.ofString "__next__") hT0 F.slot_zip_next (wpAny_call_entry F.slot_zip_next hT0 F.entry_zip_next
      (Mo (I.ok.hd hc) D st p1 p2 (hx.elim (λ q=> .inl (by simp;omega)) λ q=> .inr (by simp;omega)) λ h' e eb he=> ?_) (F.args_zip_next_1 _))))
    obtain ⟨oe,eo,ce⟩:=he;refine wpAny_bind (wpAny_isInstance (T:="StopIteration") (b:=true) ⟨oe,eo,ce⟩ isSubtype_stop (wpAny_pure ?_));exact ⟨rfl,I.turnedL (t':=s.toks) [z,TI,TO,i1,i2] hf λ b o hb q=>eb b o (λ e=>hb (by simp [e])) (λ e=>hb (by simp [e])) (λ e=>hb (by simp [e])) (λ e=>hb (by simp [e])) q⟩
  self:=λ _ _ _ _ _ st h=>wpAny_pyIter_zip st.hz h
section
variable {X:Cx} {elts:List Expr} {k:Nat} {tpos:Pos} {K:PySem.W.Frag}
def iZs (K:PySem.W.Frag) (ta:TA):TI:=λ σ H R=>ta σ H λ vs H1=>∃ t1 t2 a b,vs=[.ref a, .ref b]/\(∃ xs,SqS t1 K H1 a xs)/\(∃ ys,SqS t2 K H1 b ys)/\R (Izs t1 t2 K a b) H1
theorem RF {l m:Expr} {ta:TA} {p pos:Pos} (hg:Gl X "zip") (hm:X.mg "zip"=none) (ha:PA X [l,m] ta) (hK:X.K=K:=by rfl) (hs:starEach [l,m] X.env=[(false,eval l X.env),(false,eval m X.env)]:=by rfl) (hs2:starEach [m] X.env=[(false,eval m X.env)]:=by rfl):
    PI X (.Tuple elts k tpos) (.Call (.Name "zip" p) [l,m] [] pos) (iZs K ta):=by
  subst hK;intro pins s σ H R I h;refine Call_ (C5 I hg hm K5 (PyProof.Rows.callWith_type1 (thn (ha pos pins s σ H _ I h) λ us s1 ⟨vs,H1,I1,r1,q1⟩=> ?_) (by rw [hs,hs2]) (by rw [hs2];rfl)));obtain ⟨t1,t2,a,b,e,⟨xs,hq⟩,⟨ys,hq2⟩,q⟩:=q1;subst e;cases r1 with
  | cons r rr=>
    cases rr with
    | cons r' rr=>
    cases rr;cases r;cases r';obtain ⟨its,rv,pl⟩:=DH I1 hq;obtain ⟨its2,rv2,pl2⟩:=DH I1 hq2;obtain ⟨oa,_,ea,_⟩:=Gy pl;obtain ⟨ob,_,eb,_⟩:=Gy pl2;refine Kq pl pl2 λ h' st hk=> ?_;refine wpAny_pyIter_zip st.hz ?_;have I2:=I1.kept (t':=s1.toks) hk;refine ⟨s1.heap.objs.size+4,_,_,_,H1,rfl,I2,NC t1 t2 a b _ _ _ _ _ (PySem.W.ktu_apart s1.heap.objs.size a b (Heap.lt_size ea) (Heap.lt_size eb)),st,λ c hc=> ?_,q⟩;have hb':s1.heap.objs.size<=c:=by
      simp only [List.mem_cons,List.not_mem_nil,or_false] at hc;rcases hc with q | q | q | q | q <;> rw [q] <;> first | exact Nat.le_refl _ | exact Nat.le_add_right _ _
    exact I1.fpOk hb' (I1.hok.fresh hb')
end
section
variable {X:Cx} {K:PySem.W.Frag}
theorem AC:bootBuiltins "list"=some (.type "list"):=by decide +kernel
theorem Ay:bootBuiltins "tuple"=some (.type "tuple"):=by decide +kernel
def LF (K:PySem.W.Frag):List V->Hp->VK->Prop:=λ xs H Q=>∃ (x:V) (p:Addr) (ns:List String) (t:Value) (b:Bool),xs=[x, .ref p]/\H p=some (.tup (ns.map V.ty))/\TyOf K H x t/\PySem.W.kitAny K t (ns.map Value.type)=some b/\Q (.bl b) H
theorem Jv:∀ {ns:List String} {us:List Value},Vals (ns.map V.ty) us->us=ns.map Value.type
  | [],us,r=>by cases r;rfl
  | n::ns,us,r=>by
    cases r with
    | cons r1 r2=>
      cases r1;rw [Jv r2];rfl
theorem NE (hK:X.K=K:=by rfl):Bt X (.builtin "isinstance") (LF K):=by
  subst hK;intro pins s σ H xs us Q I r h;obtain ⟨x,p,ns,t,b,rfl,hp,ty,e,q⟩:=h;obtain ⟨u,c,rfl,rx,rc⟩:=JK r;cases rc;obtain ⟨_,its,rt,ot,e1,e2,nt,e3⟩:=(show ObjOk X.prog X.w H s.heap p (.tup (ns.map V.ty)) from I.hok p _ hp);have ei:=Jv rt;subst ei;have htp:s.heap.get? p=some ⟨.type "tuple",ot.dict, .seq (ns.map Value.type).toArray nt,ot.slots⟩:=by
    rw [e1];obtain ⟨c,d,da,sl⟩:=ot;simp only at e2 e3;rw [e2,e3]
  have fin:∀ tk,EP X pins σ Q (.bool b) { s with toks:=tk }:=λ tk=>⟨.bl b,H,I.tok tk,rfl,q⟩;cases ty with
  | non=>cases (show u=Value.none from rx);exact PySem.W.kia_tup PySem.W.kitx_none I.kIn True.intro htp e (λ z=>nomatch z) fin
  | bl y=>cases (show u=Value.bool y from rx);exact PySem.W.kia_tup PySem.W.kitx_bool I.kIn True.intro htp e (λ z=>nomatch z) fin
  | int i=>obtain ⟨t,q⟩:=(show ∃ t,u=Value.int i t from rx);cases q;exact PySem.W.kia_tup PySem.W.kitx_int I.kIn True.intro htp e (λ z=>nomatch z) fin
  | str y=>obtain ⟨t,q⟩:=(show ∃ t,u=Value.str y t from rx);cases q;exact PySem.W.kia_tup PySem.W.kitx_str I.kIn True.intro htp e (λ z=>nomatch z) fin
  | flt y=>obtain ⟨t,q⟩:=(show ∃ t,u=Value.float y t from rx);cases q;exact PySem.W.kia_tup PySem.W.kitx_float I.kIn True.intro htp e (λ z=>nomatch z) fin
  | @lst a xs ea=>
    cases (show u=Value.ref a from rx);obtain ⟨_,_,n,_,h1⟩:=(show ObjOk X.prog X.w H s.heap a (.lst xs) from I.hok a _ ea);exact PySem.W.kia_tup PySem.W.kitx_list I.kIn ⟨_,h1,rfl⟩ htp e (λ z=>nomatch z) fin
  | @frz a ob xs ea=>
    cases (show u=Value.ref a from rx);obtain ⟨_,_,_,n,_,h1⟩:=(show ObjOk X.prog X.w H s.heap a (.frz ob (.lst xs)) from I.hok a _ ea);exact PySem.W.kia_tup PySem.W.kitx_list I.kIn ⟨_,h1,rfl⟩ htp e (λ z=>nomatch z) fin
  | @tup a xs ea=>
    cases (show u=Value.ref a from rx);obtain ⟨_,_,_,p⟩:=(show ObjOk X.prog X.w H s.heap a (.tup xs) from I.hok a _ ea);obtain ⟨o,h1,h2,_⟩:=p;exact PySem.W.kia_tup PySem.W.kitx_tuple I.kIn ⟨o,h1,h2⟩ htp e (λ z=>nomatch z) fin
  | @dK a kvs ea=>
    cases (show u=Value.ref a from rx);obtain ⟨_,_,vs,_,p⟩:=(show ObjOk X.prog X.w H s.heap a (.dK kvs) from I.hok a _ ea);obtain ⟨o,es,ep,h1,h2,_⟩:=p;exact PySem.W.kia_tup PySem.W.kitx_dict I.kIn ⟨o,h1,h2.1⟩ htp e (λ z=>nomatch z) fin
  | @dT a kvs ea=>
    cases (show u=Value.ref a from rx);obtain ⟨_,_,xs,_,o,es,ep,h1,h2,_⟩:=(show ObjOk X.prog X.w H s.heap a (.dT kvs) from I.hok a _ ea);exact PySem.W.kia_tup PySem.W.kitx_dict I.kIn ⟨o,h1,h2.1⟩ htp e (λ z=>nomatch z) fin
  | @ins a C dx fs ea cl ha hn htk hm=>
    cases (show u=Value.ref a from rx);obtain ⟨mA,O,_⟩:=EF I.hok ea;obtain ⟨od,J,_⟩:=O.look;exact PySem.W.kia_tup (PySem.W.kitx_own (cl.get _) cl.hd ha hn htk hm) I.kIn J htp e (λ z=>nomatch z) fin
variable {scope:Scope} {fr:List (Str × Nat)}
theorem NL {x y:Str} {px py pt:Pos} {k:Nat} (h:Er X.env.scope X.N scope [x,y] fr=true) (hc:X.calm=true) (C:Addr) (ex:List Addr) (s:Shared) (H:Hp) (hK:X.K=K:=by rfl):
    PG (Ba X scope [x,y] fr C ex s H) (.Tuple [.Name x px, .Name y py] k pt) (Kn K 2 (CV (AU 0) (CV (AU 1) Je))):=by
  subst hK;exact PJ (X:=Ba X scope [x,y] fr C ex s H) hc (Br (G9 h rfl C ex s H) (Br (G9 h rfl C ex s H) J1))
theorem Ft {elt iter:Expr} {x y:Str} {px py pt:Pos} {k:Nat} {ifs:List Expr} {pos:Pos} {wi:TI} {tc:TT} {te:TE} (hi:PI X (.Tuple [.Name x px, .Name y py] k pt) iter wi)
    (ht:∀ C ex s H,PTs (Ba X scope [x,y] (Fb X.N scope) C ex s H) ifs tc) (he:∀ C ex s H,PE (Ba X scope [x,y] (Fb X.N scope) C ex s H) elt te) (hK:X.K=K:=by rfl)
    (hb:Er X.env.scope X.N scope [x,y] (Fb X.N scope)=true:=by with_unfolding_all rfl) (hc:X.calm=true:=by rfl)
    (hs:∀ x,foldedSetIterable iter X.env x=pure x:=by intro _;rfl):PE X (.ListComp elt [⟨.Tuple [.Name x px, .Name y py] k pt,iter,ifs,0⟩] scope pos) (GQ wi [x,y] (Fb X.N scope) (Kn K 2 (CV (AU 0) (CV (AU 1) Je))) tc te):=
  Jz hc (.of hb) hi (λ C ex s H=>NL hb hc C ex s H hK) ht he hs
end
section
variable {K:PySem.W.Frag} {D:Addr} {σ0:St} {tc:TT} {te:TE} {Q:VK} {H:Hp}
theorem MI {t1 t2:Bool} {a b:Addr} {xs zs:List V} (hlen:xs.length=zs.length) (Pv:Nat->List V->Hp->Prop) (h0:Pv 0 [] (upd H D (.lst [])))
    (hl:∀ i ys H,i<=xs.length->Pv i ys H->SqS t1 K H a xs/\SqS t2 K H b zs)
    (hs:∀ i x z ys H p,xs[i]?=some x->zs[i]?=some z->Pv i ys H->H p=none->Kp σ0 ((σ0.set 0 (some x)).set 1 (some z))/\tc ((σ0.set 0 (some x)).set 1 (some z)) (upd H p (.tup [x,z])) λ b H3=>
      if b=true then te ((σ0.set 0 (some x)).set 1 (some z)) H3 λ y H4=>H4 D=some (.lst ys)/\ys.length<sizeLine/\Pv (i+1) (ys++[y]) (upd H4 D (.lst (ys++[y]))) else Pv (i+1) ys H3)
    (hd:∀ ys H,Pv xs.length ys H->Q (.ref D) H):
    Ez (Izs t1 t2 K a b) σ0 (Kn K 2 (CV (AU 0) (CV (AU 1) Je))) tc te Q H D:=by
  refine ⟨λ i m ys H=>m=xs.length - i/\i<=xs.length/\Pv i ys H,⟨_,rfl,Nat.zero_le _,h0⟩,?_⟩;rintro i m ys H ⟨rfl,hi,p⟩;obtain ⟨q1,q2⟩:=hl i ys H hi p;by_cases hlt:i<xs.length
  · refine .inr ⟨⟨xs,zs,xs[i],zs[i]'(by omega),q1,q2,by simp [hlt],by simp⟩,Pv (i+1),λ ys' H' p'=>⟨xs.length - (i+1),by omega,rfl,hlt,p'⟩,λ x H' y=> ?_⟩;obtain ⟨pp,v,z,hp,rfl,rfl,hv,hz⟩:=y;exact ⟨pp,_,rfl,SqT.of Ac,rfl,_,_,rfl,_,_,rfl,rfl,hs i v z ys H pp (hv xs q1) (hz zs q2) p hp⟩
  · have e:i=xs.length:=by omega
    subst e;exact .inl ⟨⟨xs,zs,q1,q2, .inl (Nat.le_refl _)⟩,hd ys H p⟩
end
inductive Dt where
  | non | bl (b:Bool) | int (i:Int) | str (z:Str) | lst (xs:List Dt) | tup (xs:List Dt)
inductive Rp (H:Hp) (F:Addr->Prop):Nat->V->Dt->Prop where
  | non {n:Nat}:Rp H F n .non .non
  | bl {n:Nat} (b:Bool):Rp H F n (.bl b) (.bl b)
  | int {n:Nat} (i:Int):Rp H F n (.int i) (.int i)
  | str {n:Nat} (z:Str):Rp H F n (.str z) (.str z)
  | lst {n:Nat} {a:Addr} {vs:List V} {ds:List Dt} (h:H a=some (.lst vs)) (f:F a) (b:vs.length<=100000) (l:vs.length=ds.length) (e:∀ (i:Nat) (v:V) (d:Dt),vs[i]?=some v->ds[i]?=some d->Rp H F n v d):Rp H F (n+1) (.ref a) (.lst ds)
  | tup {n:Nat} {a:Addr} {vs:List V} {ds:List Dt} (h:H a=some (.tup vs)) (b:vs.length<=100000) (l:vs.length=ds.length) (e:∀ (i:Nat) (v:V) (d:Dt),vs[i]?=some v->ds[i]?=some d->Rp H F n v d):Rp H F (n+1) (.ref a) (.tup ds)
theorem Rp.mono {H H':Hp} {F F':Addr->Prop} {n:Nat} {v:V} {d:Dt} (r:Rp H F n v d) (k:∀ a o,H a=some o->(∀ xs,o= .lst xs->F a)->H' a=some o) (f:∀ a,F a->F' a):Rp H' F' n v d:=by
  induction r with
  | non=>exact .non
  | bl b=>exact .bl b
  | int i=>exact .int i
  | str z=>exact .str z
  | lst h p b l e ih=>exact .lst (k _ _ h λ _ _=>p) (f _ p) b l λ i v d h1 h2=>ih i v d h1 h2
  | tup h b l e ih=>exact .tup (k _ _ h λ xs q=>by cases q) b l λ i v d h1 h2=>ih i v d h1 h2
theorem Rp.same {H H':Hp} {F:Addr->Prop} {n:Nat} {v:V} {d:Dt} (r:Rp H F n v d) (s:Same H H'):Rp H' F n v d:=r.mono (λ a o h _=>s a o h) λ _ h=>h
theorem Rp.imp {H:Hp} {F F':Addr->Prop} {n:Nat} {v:V} {d:Dt} (r:Rp H F n v d) (f:∀ a,F a->F' a):Rp H F' n v d:=r.mono (λ a o h _=>h) f
theorem Rp.up {H:Hp} {F:Addr->Prop} {n m:Nat} {v:V} {d:Dt} (r:Rp H F n v d) (h:n<=m):Rp H F m v d:=by
  induction r generalizing m with
  | non=>exact .non
  | bl b=>exact .bl b
  | int i=>exact .int i
  | str z=>exact .str z
  | lst h p b l e ih=>
    cases m with
    | zero=>exact absurd h (by omega)
    | succ m=>exact .lst ‹_› p b l λ i v d h1 h2=>ih i v d h1 h2 (by omega)
  | tup h b l e ih=>
    cases m with
    | zero=>exact absurd h (by omega)
    | succ m=>exact .tup ‹_› b l λ i v d h1 h2=>ih i v d h1 h2 (by omega)
abbrev FT:Addr->Prop:=λ _=>True
abbrev FN (H:Hp):Addr->Prop:=λ a=>H a=none
theorem Rp.any {H:Hp} {F:Addr->Prop} {n:Nat} {v:V} {d:Dt} (r:Rp H F n v d):Rp H FT n v d:=r.imp λ _ _=>trivial
theorem Rp.new {H:Hp} {F:Addr->Prop} {n:Nat} {v:V} {d:Dt} {p:Addr} {o:HO} (r:Rp H F n v d) (h:H p=none):Rp (L2.upd H p o) F n v d:=r.same λ b u e=>by rw [Af (AB e h)];exact e
def Oy (ns:List Int):Dt:= .lst (ns.map .int)
theorem JL {H:Hp} {F:Addr->Prop} {n:Nat} {v:V} {ns:List Int} (r:Rp H F n v (Oy ns)):∃ a,v= .ref a/\H a=some (.lst (ns.map V.int))/\F a:=by
  unfold Oy at r;cases r with
  | @lst n a vs _ h f b l e=>
    refine ⟨a,rfl,?_,f⟩;rw [h];congr 2;refine List.ext_getElem (by simpa using l) λ i h1 h2=> ?_;have h2':i<ns.length:=by simpa using h2
    have:=e i vs[i] (.int ns[i]) (by simp [h1]) (by simp [h2']);cases hv:vs[i] <;> rw [hv] at this <;> cases this;simp
section
variable {t u:TS} {D:Ends} {σ:St} {H:Hp} {te ta tb tk:TE} {tt tu:TT} {g:TG} {Q:VK} {QT:Bool->Hp->Prop} {QA:List V->Hp->Prop} {i:Nat} {v x y:V} {r:R2} {tr:TA} {K:PySem.W.Frag}
theorem FE (h:t { D with nx:=u D } σ H):Qg t u D σ H:=h
theorem JR (h:D.nx σ H):Ox D σ H:=h
theorem O3 (h:te σ H λ x H1=>g x σ H1 D.nx):Lu te g D σ H:=h
theorem Jj {QS:St->Hp->Prop} (h:QS (σ.set i (some v)) H):AU i v σ H QS:=h
theorem OQ (e:σ[i]?=some (some v)) (h:Q v H):Mr i σ H Q:=⟨v,e,h⟩
theorem TR (h:Q v H):tC v σ H Q:=h
theorem Sf (h:ta σ H λ x H1=>tb σ H1 λ y H2=>r x y H2 Q):tOp r ta tb σ H Q:=h
theorem QJ {ru:V->Hp->VK->Prop} (h:ta σ H λ x H1=>ru x H1 Q):tUn ru ta σ H Q:=h
theorem AH {C:Int->Int->Prop} {gg:Int->Int->V} {a b:Int} (c:C a b) (h:Q (gg a b) H):rI C gg (.int a) (.int b) H Q:=⟨a,b,rfl,rfl,c,h⟩
theorem Po {gg:Int->Int->V} {a b:Int} (h:Q (gg a b) H):rI0 gg (.int a) (.int b) H Q:=⟨a,b,rfl,rfl,h⟩
theorem QB {gg:Int->V} {a:Int} (h:Q (gg a) H):rU gg (.int a) H Q:=⟨a,rfl,h⟩
theorem Pw {a b:Int} (h:Q (.bl (decide (a=b))) H):rEq (.int a) (.int b) H Q:=⟨rfl,by rw [show decide (V.int a=V.int b)=decide (a=b) by rw [Bool.eq_iff_iff];simp];exact h⟩
theorem Pe {a b:Int} (h:Q (.bl (!decide (a=b))) H):rNe (.int a) (.int b) H Q:=⟨rfl,by rw [show decide (V.int a=V.int b)=decide (a=b) by rw [Bool.eq_iff_iff];simp];exact h⟩
theorem OK {a b:Bool} (h:Q (.bl (decide (a=b))) H):rEq (.bl a) (.bl b) H Q:=⟨rfl,by rw [show decide (V.bl a=V.bl b)=decide (a=b) by rw [Bool.eq_iff_iff];simp];exact h⟩
theorem PK {a b:Bool} (h:Q (.bl (!decide (a=b))) H):rNe (.bl a) (.bl b) H Q:=⟨rfl,by rw [show decide (V.bl a=V.bl b)=decide (a=b) by rw [Bool.eq_iff_iff];simp];exact h⟩
theorem Pd (h:tt σ H λ c H1=>QT (!c) H1):P8 tt σ H QT:=h
theorem NS (h:te σ H λ x H'=>∃ k,x= .bl k/\QT k H'):Os te σ H QT:=h
theorem QL (h:te σ H λ x H'=>∃ k,x= .bl k/\QT k H'):tB te σ H QT:=h
theorem S0 {b:Bool} {R:Bool->Prop} (h:R b):∃ k,V.bl b= .bl k/\R k:=⟨b,rfl,h⟩
theorem Qx (h:tt σ H λ c H1=>if c=true then QT true H1 else tu σ H1 QT):tOr tt tu σ H QT:=h
theorem OP (h:tt σ H λ c H1=>if c=true then tu σ H1 QT else QT false H1):SA tt tu σ H QT:=h
theorem NM (h:ta σ H λ x H1=>∃ c,x= .bl c/\if c=true then tb σ H1 Q else Q (.bl false) H1):N1 ta tb σ H Q:=h
theorem M7 (h:ta σ H λ x H1=>∃ c,x= .bl c/\Q (.bl (!c)) H1):N5 ta σ H Q:=h
theorem Oz (h:tt σ H λ b H1=>if b=true then t D σ H1 else u D σ H1):Ky tt t u D σ H:=h
theorem Q3 (h:tt σ H λ c H1=>if c=true then ta σ H1 Q else tb σ H1 Q):tIf tt ta tb σ H Q:=h
theorem O8 (h:te σ H D.rt):Ta te D σ H:=h
theorem NK (h:te σ H λ _ H1=>D.nx σ H1):L5 te D σ H:=h
theorem O7 (h:QA [] H):KQ σ H QA:=h
theorem NF (h:te σ H λ x H1=>tr σ H1 λ xs H2=>QA (x::xs) H2):JM te tr σ H QA:=h
theorem OU (h:tr σ H λ xs H1=>xs.length<=sizeLine/\∀ p,H1 p=none->Q (.ref p) (upd H1 p (.lst xs))):SV tr σ H Q:=h
theorem PU (h:tr σ H λ xs H1=>xs.length<=sizeLine/\∀ p,H1 p=none->Q (.ref p) (upd H1 p (.tup xs))):Qy tr σ H Q:=h
theorem RK {rr:List V->Hp->VK->Prop} (h:tr σ H λ vs H1=>rr vs H1 Q):tCB rr tr σ H Q:=h
theorem Nz {sp:Sp} {E:XK} (h:tr σ H λ vs H1=>sp vs H1 Q E):GG sp [] E tr σ H Q:=by
  unfold GG;simpa using h
theorem Q8 {rs:V->Option Int->Option Int->Hp->VK->Prop} {tl th:TO} (h:te σ H λ x H1=>tl σ H1 λ l H2=>th σ H2 λ u H3=>rs x l u H3 Q):tSl rs te tl th σ H Q:=h
theorem Np {QO:Option Int->Hp->Prop} (h:te σ H λ x H1=>∃ i,x= .int i/\QO (some i) H1):Ow te σ H QO:=h
theorem Kz {QO:Option Int->Hp->Prop} (h:QO none H):Jw σ H QO:=h
theorem O5 {a:Int} {R:Int->Prop} (h:R a):∃ k,V.int a= .int k/\R k:=⟨a,rfl,h⟩
theorem LV {p:Addr} {xs:List V} {lo hi:Option Int} (c:SqL K H p xs) (h:∀ q,H q=none->Q (.ref q) (upd H q (.lst (Hq xs lo hi)))):OM K (.ref p) lo hi H Q:=⟨p,xs,rfl,c,h⟩
theorem MF {z:Str} (c:z.length<=sizeLine) (h:Q (.int z.length) H):Lv K [.str z] H Q:=⟨_,_,rfl,⟨c,rfl⟩,h⟩
theorem B4 {p:Addr} {xs:List V} (c:SqL K H p xs) (h:Q (.int xs.length) H):Lv K [.ref p] H Q:=⟨_,_,rfl, .inl ⟨xs,c,rfl⟩,h⟩
theorem He {p:Addr} {xs:List V} (c:SqT K H p xs) (h:Q (.int xs.length) H):Lv K [.ref p] H Q:=⟨_,_,rfl, .inr ⟨xs,c,rfl⟩,h⟩
theorem Lj {p:Addr} {ns:List Int} (c:SqL K H p (ns.map V.int)) (h:Q (.int ns.sum) H):P4 K [.ref p] H Q:=⟨p,ns,rfl,c,h⟩
theorem Ho {p:Addr} {bs:List Bool} (c:SqL K H p (bs.map V.bl)) (h:Q (.bl (bs.all id)) H):PY K [.ref p] H Q:=⟨p,bs,rfl,c,h⟩
theorem AM {n:String} {ty:Value} {b:Bool} (c:TyOf K H x ty) (e:PySem.W.kitOne K ty (.type n)=some b) (h:Q (.bl b) H):Oc K [x, .ty n] H Q:=⟨x,n,ty,b,rfl,c,e,h⟩
theorem Ah {p:Addr} {xs:List V} {k:Int} (c:SqL K H p xs) (e:atI xs k=some v) (h:Q v H):OR K (.ref p) (.int k) H Q:=⟨p,xs,k,v,rfl,rfl,c,e,h⟩
theorem G4 {p:Addr} {xs:List V} {k:Int} (c:SqT K H p xs) (e:atI xs k=some v) (h:Q v H):Pr K (.ref p) (.int k) H Q:=⟨p,xs,k,v,rfl,rfl,c,e,h⟩
theorem LG {z:Str} {k:Int} {c:Nat} (l:z.length<=sizeLine) (e:atI z.cps.toList k=some c) (h:Q (.str ⟨#[c]⟩) H):Sk (.str z) (.int k) H Q:=⟨z,k,c,rfl,rfl,l,e,h⟩
theorem OO {xs:List V} {B:Prop} (c:xs.length<=1000) (h:B):xs.length<=sizeLine/\B:=⟨Nat.le_trans c (by decide),h⟩
end
theorem FD {p A B:Prop} [Decidable p] (h1:p->A) (h2:¬ p->B):if decide p=true then A else B:=by
  by_cases h:p
  · rw [if_pos (decide_eq_true h)];exact h1 h
  · rw [if_neg (λ q=>h (of_decide_eq_true q))];exact h2 h
theorem L6 {p A B:Prop} [Decidable p] (h1:¬ p->A) (h2:p->B):if (!decide p)=true then A else B:=by
  by_cases h:p
  · rw [decide_eq_true h];exact DO (h2 h)
  · rw [decide_eq_false h];exact Dj (h1 h)
theorem PD {b:Bool} {A B:Prop} (h1:b=true->A) (h2:b=false->B):if b=true then A else B:=by
  cases b with
  | true=>exact Dj (h1 rfl)
  | false=>exact DO (h2 rfl)
def tyD:Dt->String | .non=>"NoneType" | .bl _=>"bool" | .int _=>"int" | .str _=>"str" | .lst _=>"list" | .tup _=>"tuple"
def CY:Dt->Bool | .lst _=>true | _=>false
def BI:Dt->Bool | .tup _=>true | _=>false
def T5:Dt->Bool | .bl _=>true | _=>false
theorem Rp.ty {K:PySem.W.Frag} {H:Hp} {F:Addr->Prop} {n:Nat} {v:V} {d:Dt} (r:Rp H F n v d):TyOf K H v (.type (tyD d)):=by
  cases r with
  | non=>exact .non
  | bl b=>exact .bl b
  | int i=>exact .int i
  | str z=>exact .str z
  | lst h _ _ _ _=>exact .lst h
  | tup h _ _ _=>exact .tup h
theorem Kw:CH "NoneType" "list"=some false/\CH "bool" "list"=some false/\CH "int" "list"=some false/\CH "str" "list"=some false/\CH "list" "list"=some true/\CH "tuple" "list"=some false:=by decide +kernel
theorem Fl {K:PySem.W.Frag} (d:Dt):PySem.W.kitOne K (.type (tyD d)) (.type "list")=some (CY d):=by
  obtain ⟨h1,h2,h3,h4,h5,h6⟩:=Kw;cases d with
  | non=>exact kb h1
  | bl _=>exact kb h2
  | int _=>exact kb h3
  | str _=>exact kb h4
  | lst _=>exact kb h5
  | tup _=>exact kb h6
theorem IF:CH "NoneType" "tuple"=some false/\CH "bool" "tuple"=some false/\CH "int" "tuple"=some false/\CH "str" "tuple"=some false/\CH "list" "tuple"=some false/\CH "tuple" "tuple"=some true:=by decide +kernel
theorem Ey {K:PySem.W.Frag} (d:Dt):PySem.W.kitOne K (.type (tyD d)) (.type "tuple")=some (BI d):=by
  obtain ⟨h1,h2,h3,h4,h5,h6⟩:=IF;cases d with
  | non=>exact kb h1
  | bl _=>exact kb h2
  | int _=>exact kb h3
  | str _=>exact kb h4
  | lst _=>exact kb h5
  | tup _=>exact kb h6
theorem Ko:CH "NoneType" "bool"=some false/\CH "bool" "bool"=some true/\CH "int" "bool"=some false/\CH "str" "bool"=some false/\CH "list" "bool"=some false/\CH "tuple" "bool"=some false:=by decide +kernel
theorem J3 {K:PySem.W.Frag} (d:Dt):PySem.W.kitOne K (.type (tyD d)) (.type "bool")=some (T5 d):=by
  obtain ⟨h1,h2,h3,h4,h5,h6⟩:=Ko;cases d with
  | non=>exact kb h1
  | bl _=>exact kb h2
  | int _=>exact kb h3
  | str _=>exact kb h4
  | lst _=>exact kb h5
  | tup _=>exact kb h6
theorem Qm {K:PySem.W.Frag} (d:Dt):PySem.W.kitAny K (.type (tyD d)) (["list","tuple"].map Value.type)=some (CY d||BI d):=by
  show (match PySem.W.kitOne K (.type (tyD d)) (.type "list") with
    | some true=>some true
    | some false=>(match PySem.W.kitOne K (.type (tyD d)) (.type "tuple") with
      | some true=>some true
      | some false=>some false
      | none=>none)
    | none=>none)=_
  rw [Fl,Ey];cases d <;> rfl
theorem K9 {K:PySem.W.Frag} {H:Hp} {Q:VK} {x:V} {p:Addr} {ns:List String} {t:Value} {b:Bool} (hp:H p=some (.tup (ns.map V.ty))) (c:TyOf K H x t) (e:PySem.W.kitAny K t (ns.map Value.type)=some b) (h:Q (.bl b) H):LF K [x, .ref p] H Q:=⟨x,p,ns,t,b,rfl,hp,c,e,h⟩
def A2:Dt->List Dt | .lst ds=>ds | .tup ds=>ds | _=>[]
theorem Rp.seq {K:PySem.W.Frag} {H:Hp} {F:Addr->Prop} {n:Nat} {v:V} {d:Dt} (r:Rp H F n v d) (h:(CY d||BI d)=true):
    ∃ m a vs,n=m+1/\v= .ref a/\SqS (BI d) K H a vs/\vs.length=(A2 d).length/\vs.length<=100000/\∀ (i:Nat) (x:V) (e:Dt),vs[i]?=some x->(A2 d)[i]?=some e->Rp H F m x e:=by
  cases r with
  | @lst m a vs ds q f b l e=>exact ⟨m,a,vs,rfl,rfl,(show SqL K H a vs from SqL.of q),l,b,e⟩
  | @tup m a vs ds q b l e=>exact ⟨m,a,vs,rfl,rfl,(show SqT K H a vs from SqT.of q),l,b,e⟩
  | non=>cases h
  | bl _=>cases h
  | int _=>cases h
  | str _=>cases h
theorem Jk {K:PySem.W.Frag} {H:Hp} {Q:VK} {tp:Bool} {p:Addr} {xs:List V} (c:SqS tp K H p xs) (h:Q (.int xs.length) H):Lv K [.ref p] H Q:=by
  cases tp with
  | false=>exact B4 c h
  | true=>exact He c h
theorem SqS.same {K:PySem.W.Frag} {H H':Hp} {tp:Bool} {p:Addr} {xs:List V} (c:SqS tp K H p xs) (s:Same H H'):SqS tp K H' p xs:=by
  cases tp with
  | false=>exact (show SqL K H' p xs from s.seq c)
  | true=>
    rcases (show SqT K H p xs from c) with (q | ⟨o,q⟩) | q
    · exact (show SqT K H' p xs from .inl (.inl (s _ _ q)))
    · exact (show SqT K H' p xs from .inl (.inr ⟨o,s _ _ q⟩))
    · exact (show SqT K H' p xs from .inr q)
theorem Ag {H:Hp} {p:Addr} {o:HO} (h:H p=none):Same H (upd H p o):=λ b u e=>by rw [Af (AB e h)];exact e
theorem Fm {H H':Hp} {D:Addr} {o:HO} (s:Same H H') (h:H D=none):Same H (upd H' D o):=λ b u e=>by rw [Af (AB e h)];exact s b u e
theorem KM {v:V} {d:Dt} {H:Hp} {F:Addr->Prop} {n:Nat} (r:Rp H F n v d) (h:(CY d||BI d)=false):PL v v=true:=by
  cases r with
  | non=>rfl
  | bl _=>rfl
  | int _=>rfl
  | str _=>rfl
  | lst _ _ _ _ _=>cases h
  | tup _ _ _ _=>cases h
theorem Nc {v u:V} {d:Dt} {H:Hp} {F:Addr->Prop} {n:Nat} (r:Rp H F n v d) (r2:Rp H F n u d) (h:(CY d||BI d)=false):v=u:=by
  cases r with
  | non=>cases r2;rfl
  | bl _=>cases r2;rfl
  | int _=>cases r2;rfl
  | str _=>cases r2;rfl
  | lst _ _ _ _ _=>cases h
  | tup _ _ _ _=>cases h
structure SrcOk (J:It) (g:TG) (σ0:St) (H:Hp) (n:Nat) (st:Nat->St):Prop where
  go:∀ i H',i<n->Same H H'->J.go i H'
  stop:∀ H',Same H H'->J.stop n H'
  yld:∀ i H' x H'' (R:St->Hp->Prop),i<n->Same H H'->J.yld i H' x H''->(∀ H3,Same H' H3->R (st i) H3)->g x σ0 H'' R
  kp:∀ i,i<n->Kp σ0 (st i)
section
variable {J:It} {g:TG} {σ0:St} {H:Hp} {n:Nat} {st:Nat->St} {tc:TT} {te:TE} {Q:VK} {D:Addr}
theorem Rp.off {H:Hp} {F:Addr->Prop} {m:Nat} {v:V} {d:Dt} {D:Addr} {xs:List V} {o:HO} (r:Rp H F m v d) (hD:H D=some (.lst xs)) (hF:¬ F D):Rp (L2.upd H D o) F m v d:=by
  refine r.mono (λ a u e q=> ?_) λ _ h=>h;have n:a≠D:=λ z=>by
    subst z;rw [hD] at e;cases e;exact hF (q _ rfl)
  rw [Af n];exact e
theorem EO {m:Nat} {p:Nat->Bool} {G:Nat->Dt} (S:SrcOk J g σ0 H n st) (hD:H D=none) (hn:n<=100000)
    (ht:∀ i H' (R:Bool->Hp->Prop),i<n->Same H H'->(∀ H3,Same H' H3->R (p i) H3)->tc (st i) H' R)
    (he:∀ i H' (R:VK),i<n->p i=true->Same H H'->(∀ H3 y,Same H' H3->Rp H3 (FN H') m y (G i)->R y H3)->te (st i) H' R)
    (hd:∀ H' ys,Same H H'->H' D=some (.lst ys)->Rp H' (FN H) (m+1) (.ref D) (.lst (((List.range n).filter p).map G))->Q (.ref D) H'):
    Ez J σ0 g tc te Q H D:=by
  refine ⟨λ i k ys H'=>k=n - i/\i<=n/\Same H H'/\H' D=some (.lst ys)/\ys.length=(((List.range i).filter p).map G).length/\∀ (j:Nat) (y:V) (d:Dt),ys[j]?=some y->(((List.range i).filter p).map G)[j]?=some d->Rp H' (λ a=>H a=none/\a≠D) m y d,
    ⟨_,rfl,Nat.zero_le _,Fm (Same.refl _) hD,Ac,rfl,λ j y d q=>by simp at q⟩,?_⟩
  rintro i k ys H1 ⟨rfl,hi,s1,hl,len,el⟩;have bnd:∀ i,(((List.range i).filter p).map G).length<=i:=λ i=>by
    rw [List.length_map];exact Nat.le_trans (List.length_filter_le _ _) (by simp)
  by_cases hlt:i<n
  · refine .inr ⟨S.go i H1 hlt s1,λ ys' H'=>Same H H'/\H' D=some (.lst ys')/\ys'.length=(((List.range (i+1)).filter p).map G).length/\∀ (j:Nat) (y:V) (d:Dt),ys'[j]?=some y->(((List.range (i+1)).filter p).map G)[j]?=some d->Rp H' (λ a=>H a=none/\a≠D) m y d,
      λ ys' H' q=>⟨n - (i+1),by omega,rfl,hlt,q⟩,λ x H2 y=> ?_⟩
    refine S.yld i H1 x H2 _ hlt s1 y λ H3 s3=>⟨S.kp i hlt,?_⟩;refine ht i H3 _ hlt (s1.trans s3) λ H4 s4=> ?_;have hl4:H4 D=some (.lst ys):=s4 _ _ (s3 _ _ hl);have s14:Same H H4:=s1.trans (s3.trans s4);cases hp:p i with
    | false=>
      refine DO ⟨s14,hl4,?_,?_⟩
      · rw [List.range_succ,List.filter_append,List.filter_cons,hp];simpa using len
      · intro j y d h1 h2;have e:((List.range (i+1)).filter p).map G=((List.range i).filter p).map G:=by
          rw [List.range_succ,List.filter_append,List.filter_cons,hp];simp
        rw [e] at h2;exact (el j y d h1 h2).same (s3.trans s4)
    | true=>
      refine Dj ?_;refine he i H4 _ hlt hp s14 λ H5 y s5 ry=> ?_;have hl5:H5 D=some (.lst ys):=s5 _ _ hl4;have e:((List.range (i+1)).filter p).map G=((List.range i).filter p).map G++[G i]:=by
        rw [List.range_succ,List.filter_append,List.filter_cons,hp];simp
      refine ⟨hl5,?_,?_,Ac,?_,?_⟩
      · have:=bnd i;exact Nat.lt_of_le_of_lt (by omega:ys.length<=100000) (by decide)
      · exact Fm (s14.trans s5) hD
      · rw [e,List.length_append,List.length_append,len];rfl
      · intro j z d h1 h2;rw [e] at h2;have nF:¬ (H D=none/\D≠D):=λ q=>q.2 rfl;by_cases hj:j<ys.length
        · rw [List.getElem?_append_left hj] at h1;rw [List.getElem?_append_left (by omega)] at h2;exact ((el j z d h1 h2).same (s3.trans (s4.trans s5))).off hl5 nF
        · have ej:j=ys.length:=by
            have:=(List.getElem?_eq_some_iff.mp h1).1;rw [List.length_append] at this;have:([y]:List V).length=1:=rfl;omega
          subst ej;rw [List.getElem?_append_right (Nat.le_refl _),Nat.sub_self] at h1;rw [len,List.getElem?_append_right (Nat.le_refl _),Nat.sub_self] at h2;cases h1;cases h2;refine (ry.imp (F':=λ a=>H a=none/\a≠D) λ a ha=>⟨s14.free ha,λ q=> ?_⟩).off hl5 nF;subst q;rw [show H4 a=none from ha] at hl4;cases hl4
  · have e:i=n:=by omega
    subst e;refine .inl ⟨S.stop H1 s1,hd H1 ys s1 hl (.lst hl hD ?_ len λ j y d h1 h2=>(el j y d h1 h2).imp λ a q=>q.1)⟩;have:=bnd i;omega
theorem AI {m:Nat} {G:Nat->Dt} (S:SrcOk J g σ0 H n st) (hD:H D=none) (hn:n<=100000)
    (he:∀ i H' (R:VK),i<n->Same H H'->(∀ H3 y,Same H' H3->Rp H3 (FN H') m y (G i)->R y H3)->te (st i) H' R)
    (hd:∀ H' ys,Same H H'->H' D=some (.lst ys)->Rp H' (FN H) (m+1) (.ref D) (.lst ((List.range n).map G))->Q (.ref D) H'):
    Ez J σ0 g Ma te Q H D:=by
  refine EO (p:=λ _=>true) (m:=m) (G:=G) S hD hn (λ i H' R _ _ k=>k H' (Same.refl _)) (λ i H' R hi _ s k=>he i H' R hi s k) λ H' ys s hl r=>hd H' ys s hl ?_;have e:(List.range n).filter (λ _=>true)=List.range n:=by simp
  rw [e] at r;exact r
variable {K:PySem.W.Frag} {a b:Addr} {xs zs:List V}
theorem AY (h:SqL K H a xs) (h0:σ0[0]?=some none):SrcOk (Itl K a) (AU 0) σ0 H xs.length (λ i=>σ0.set 0 (some (xs.getD i .non))) where
  go:=λ i H' hi s=>⟨xs,xs[i],s.seq h,by simp [hi]⟩
  stop:=λ H' s=>⟨xs,s.seq h,Nat.le_refl _⟩
  yld:=λ i H' x H'' R hi s y k=>by
    obtain ⟨e,hv⟩:=y;subst e;have e:x=xs.getD i .non:=by
      have:=hv xs (s.seq h);rw [List.getD_eq_getElem?_getD,this];rfl
    subst e;exact k _ (Same.refl _)
  kp:=λ i hi=>(Kp.refl _).set h0
theorem Fi (h:SqT K H a xs) (h0:σ0[0]?=some none):SrcOk (Itt K a) (AU 0) σ0 H xs.length (λ i=>σ0.set 0 (some (xs.getD i .non))) where
  go:=λ i H' hi s=>⟨xs,xs[i],(SqS.same (tp:=true) h s),by simp [hi]⟩
  stop:=λ H' s=>⟨xs,(SqS.same (tp:=true) h s),Nat.le_refl _⟩
  yld:=λ i H' x H'' R hi s y k=>by
    obtain ⟨e,hv⟩:=y;subst e;have e:x=xs.getD i .non:=by
      have:=hv xs (SqS.same (tp:=true) h s);rw [List.getD_eq_getElem?_getD,this];rfl
    subst e;exact k _ (Same.refl _)
  kp:=λ i hi=>(Kp.refl _).set h0
theorem KH {lo:Int} {n:Nat} (h0:σ0[0]?=some none):SrcOk (Itr lo n) (AU 0) σ0 H n (λ i=>σ0.set 0 (some (.int (lo+i)))) where
  go:=λ i H' hi s=>hi
  stop:=λ H' s=>Nat.le_refl _
  yld:=λ i H' x H'' R hi s y k=>by
    obtain ⟨e,hv⟩:=y;subst e hv;exact k _ (Same.refl _)
  kp:=λ i hi=>(Kp.refl _).set h0
theorem Mf (h:SqL K H a xs) (h0:σ0[0]?=some none) (h1:σ0[1]?=some none):SrcOk (Ite K a) (Kn K 2 (CV (AU 0) (CV (AU 1) Je))) σ0 H xs.length (λ i=>(σ0.set 0 (some (.int i))).set 1 (some (xs.getD i .non))) where
  go:=λ i H' hi s=>⟨xs,xs[i],s.seq h,by simp [hi]⟩
  stop:=λ H' s=>⟨xs,s.seq h,Nat.le_refl _⟩
  yld:=λ i H' x H'' R hi s y k=>by
    obtain ⟨p,v,hp,rfl,rfl,hv⟩:=y;have e:v=xs.getD i .non:=by
      have:=hv xs (s.seq h);rw [List.getD_eq_getElem?_getD,this];rfl
    subst e;exact ⟨p,_,rfl,SqT.of Ac,rfl,_,_,rfl,_,_,rfl,rfl,k _ (Ag hp)⟩
  kp:=λ i hi=>((Kp.refl _).set h0).set h1
end
theorem AO {α β:Type} (f:α->β) (xs:List α) (d:α):(List.range xs.length).map (λ i=>f (xs.getD i d))=xs.map f:=by
  refine List.ext_getElem (by simp) λ i h1 h2=> ?_;have hi:i<xs.length:=by simpa using h2
  simp [List.getD_eq_getElem?_getD,hi]
theorem Lk (a b c:Int) (hc:c≠0):0<=Builtin.Range.rangeSize a b c/\Builtin.Range.rangeSize a b c<=(b - a).natAbs:=by
  unfold Builtin.Range.rangeSize;split
  · rename_i h
    split
    · rename_i h2
      have h3:0<=(b - a - 1) / c:=Int.ediv_nonneg (by omega) (by omega);have h4:(b - a - 1) / c<=b - a - 1:=Int.ediv_le_self _ (by omega);omega
    · omega
  · rename_i h
    split
    · rename_i h2
      have h3:0<=(a - b - 1) / (-c):=Int.ediv_nonneg (by omega) (by omega);have h4:(a - b - 1) / (-c)<=a - b - 1:=Int.ediv_le_self _ (by omega);omega
    · omega
theorem M8 {a b c:Int} (ha: -(2 ^ 40)<=a/\a<2 ^ 40) (hb: -(2 ^ 40)<=b/\b<2 ^ 40) (hc: -(2 ^ 20)<=c/\c<2 ^ 20) (h0:c≠0):Builtin.Range.small a b c=true:=by
  have h:=Lk a b c h0;unfold Builtin.Range.small;simp only [Builtin.Range.rangeFitsLong,Bool.and_eq_true,Bool.or_eq_true,decide_eq_true_eq,beq_iff_eq];generalize Builtin.Range.rangeSize a b c=n at h;have hn:(b - a).natAbs<2 ^ 42:=by omega
  refine ⟨⟨⟨⟨by omega,by omega⟩,by omega⟩,by omega⟩, .inr ?_⟩;split <;> rw [Bool.and_eq_true,decide_eq_true_eq,decide_eq_true_eq] <;> omega
def Itc (lo c:Int) (n:Nat):It:=⟨λ i _=>i<n,λ i H x H'=>H'=H/\x= .int (lo+i*c),λ i _=>n<=i⟩
theorem Hy {P:Program} {w:World} {K:PySem.W.Frag} {tg:Expr} (it:Addr) (lo c:Int) (n:Nat):Turn P w K tg (Itc lo c n) [it] it (λ i h=>IsRangeIter h it (lo+(i:Nat)*c) ((n:Int) - (i:Nat)) c) where
  mem:=by simp
  obj:=λ i h st b hb=>by
    have e:b=it:=by simpa using hb
    subst e;exact ⟨_,st,λ v z=>by cases (show Data.fields _=Data.cell v from z)⟩
  keep:=λ i h h' st k=>k it (by simp) _ st
  item:=by
    intro X hP hw hK hc i pins s σ H E I hf st hg;subst hP hw hK;obtain ⟨f0,f1,f2,f3,f4,f5⟩:=hf it (by simp);have W:=Walks.range (prog:=X.prog) (w:=X.w) (I.ok.hd hc) it lo c n;refine W.item i s _ _ hg st λ v h' tk hv st' kk=> ?_;obtain ⟨t,rfl⟩:=hv;have I1:Inv X pins σ H { s with heap:=h',toks:=tk }:=I.turned (λ b o hb e=>kk b o (by simpa using hb) e) f0 f1 f3 f4 f5;exact ⟨_,rfl,JP (s:={ s with heap:=h',toks:=tk }) (n:="range_iterator") st' rfl rfl (by decide) ⟨.int (lo+i*c),H,I1,⟨t,rfl⟩,⟨rfl,rfl⟩,st',λ b hb=>(hf b hb).1⟩⟩
  done:=by
    intro X hP hw hK hc i pins s σ H E I hf st hg;subst hP hw hK;obtain ⟨f0,f1,f2,f3,f4,f5⟩:=hf it (by simp);exact wpAny_pyNext_range_end (I.ok.hd hc) st (by have:n<=i:=hg;omega) λ h' eb=>⟨rfl,I.turned (t':=s.toks) (λ b o hb e=>eb b o hb e) f0 f1 f3 f4 f5⟩
  self:=λ _ _ _ _ _ st h=>wpAny_pyIter_rangeiter st h
section
variable {X:Cx} {tg:Expr}
def N0 (ta:TA):TI:=λ σ H R=>ta σ H λ vs H1=>∃ i j c:Int,vs=[.int i, .int j, .int c]/\(-(2 ^ 40)<=i/\i<2 ^ 40)/\(-(2 ^ 40)<=j/\j<2 ^ 40)/\(-(2 ^ 20)<=c/\c<2 ^ 20)/\c≠0/\R (Itc i c (Builtin.Range.rangeSize i j c).toNat) H1
theorem KC {a b c:Expr} {ta:TA} {p pos:Pos} (hg:Gl X "range") (hm:X.mg "range"=none) (ha:PA X [a,b,c] ta) (hs:starEach [a,b,c] X.env=[(false,eval a X.env),(false,eval b X.env),(false,eval c X.env)]:=by rfl)
    (hs2:starEach [b,c] X.env=[(false,eval b X.env),(false,eval c X.env)]:=by rfl):PI X tg (.Call (.Name "range" p) [a,b,c] [] pos) (N0 ta):=by
  intro pins s σ H R I h;refine Call_ (C5 I hg hm boot_range (PyProof.Rows.callWith_type1 (thn (ha pos pins s σ H _ I h) λ us s1 ⟨vs,H1,I1,r1,q1⟩=> ?_) (by rw [hs,hs2]) (by rw [hs2];rfl)));obtain ⟨i,j,k,e,h1,h2,h3,h0,q⟩:=q1;subst e;cases r1 with
  | cons r rr=>
    cases rr with
    | cons r' rr=>
      cases rr with
      | cons r'' rr=>
        cases rr;obtain ⟨t,rfl⟩:=r;obtain ⟨t',rfl⟩:=r';obtain ⟨t'',rfl⟩:=r'';refine call_range_3 h0 ?_ (.inl (PyProof.noPylong_small (by omega)));refine wpAny_pyIter_range (IsRange.new ..) (M8 h1 h2 h3 h0) ?_;have I2:Inv X pins σ H1 { s1 with heap:=s1.heap.push { cls:= .type "range",data:= .fields #[.int i t, .int j t', .int k t''] },toks:=s1.toks }:=I1.kept λ b o e=>Heap.get?_push_of_some _ e;refine ⟨(s1.heap.push { cls:= .type "range",data:= .fields #[.int i t, .int j t', .int k t''] }).objs.size,[(s1.heap.push { cls:= .type "range",data:= .fields #[.int i t, .int j t', .int k t''] }).objs.size],_,_,H1,rfl,
          I2.kept (t':=s1.toks) λ b o e=>Heap.get?_push_of_some _ e,Hy _ i k (Builtin.Range.rangeSize i j k).toNat,?_,λ b hb=> ?_,q⟩
        · have e1:i+((0:Nat):Int)*k=i:=by simp
          have e2:(((Builtin.Range.rangeSize i j k).toNat:Nat):Int) - ((0:Nat):Int)=Builtin.Range.rangeSize i j k:=by have:=(Lk i j k h0).1;omega
          show IsRangeIter _ _ (i+((0:Nat):Int)*k) ((((Builtin.Range.rangeSize i j k).toNat:Nat):Int) - ((0:Nat):Int)) k;rw [e1,e2];exact Heap.get?_push_size _ rfl
        · have e:b=(s1.heap.push { cls:= .type "range",data:= .fields #[.int i t, .int j t', .int k t''] }).objs.size:=by simpa using hb
          subst e;exact I2.fpOk (Nat.le_refl _) (I2.hok.fresh (Nat.le_refl _))
theorem IM {lo c:Int} {n:Nat} {σ0:St} {H:Hp} (h0:σ0[0]?=some none):SrcOk (Itc lo c n) (AU 0) σ0 H n (λ i=>σ0.set 0 (some (.int (lo+i*c)))) where
  go:=λ i H' hi s=>hi
  stop:=λ H' s=>Nat.le_refl _
  yld:=λ i H' x H'' R hi s y k=>by
    obtain ⟨e,hv⟩:=y;subst e hv;exact k _ (Same.refl _)
  kp:=λ i hi=>(Kp.refl _).set h0
def Rn:List V->Hp->VK->Prop:=λ xs H Q=>∃ b:Bool,xs=[.bl b]/\Q (.int (if b=true then 1 else 0)) H
end
theorem PM {X:Cx}:Bt X (.type "int") Rn:=by
  intro pins s σ H xs us Q I r h;obtain ⟨b,rfl,q⟩:=h;exact Kb pins s σ H _ us Q I r (.inr ⟨b,rfl,q⟩)
section
variable {X:Cx} {K:PySem.W.Frag} {e st:Expr} {te ts:TE} {pos p2:Pos}
end
end L2
namespace MM
theorem bit_div (m e:Nat):m / 2 ^ e%2=(m.testBit e).toNat:=by
  rw [Nat.testBit_eq_decide_div_mod_eq];have:m / 2 ^ e%2<2:=Nat.mod_lt _ (by decide);by_cases h:m / 2 ^ e%2=1
  · simp [h]
  · have:m / 2 ^ e%2=0:=by omega
    simp [this]
end MM
namespace L2
open PySem PySem.Spec PyProof.Rows
section
variable {X:Cx}
theorem JE {x:Str} {i:Int} {pos:Pos} (h:∃ t,X.mg x=some (.int i t)) (hg:Gl X x:=by rfl) (hd:(x == ("__debug__":Str))=false:=by decide):PE X (.Name x pos) (tC (.int i)):=by
  obtain ⟨t,e⟩:=h;exact G3 hg e ⟨t,rfl⟩ hd
theorem Qj {x z:Str} {pos:Pos} (h:∃ t,X.mg x=some (.str z t)) (hg:Gl X x:=by rfl) (hd:(x == ("__debug__":Str))=false:=by decide):PE X (.Name x pos) (tC (.str z)):=by
  obtain ⟨t,e⟩:=h;exact G3 hg e ⟨t,rfl⟩ hd
end
section
variable {H:Hp} {Q:VK} {σ:St} {td ty tv:TE} {D:Ends} {a:Addr} {kvs:List (Key × V)}
theorem MP (h:td σ H λ x H1=>ty σ H1 λ y H2=>∃ a v,x= .ref a/\DGet H2 a y (some v)/\Q v H2):On td ty σ H Q:=h
theorem MG {trs:List (TE × TE)} (h:∀ p,H p=none->Em trs σ (upd H p (.dK [])) λ ps H2=>H2 p=some (.dK [])/\∃ kvs:List (Key × V),ps=kvs.map (λ kv=>(kV kv.1,kv.2))/\kvs.length<=15/\Q (.ref p) (upd H2 p (.dK (Ep [] kvs)))):Of trs σ H Q:=h
theorem ND {R:List (V × V)->Hp->Prop} (h:R [] H):Em [] σ H R:=h
theorem MA {tk tw:TE} {r:List (TE × TE)} {R:List (V × V)->Hp->Prop} (h:tk σ H λ x H1=>tw σ H1 λ y H2=>Em r σ H2 λ ps H3=>R ((x,y)::ps) H3):Em ((tk,tw)::r) σ H R:=h
end
theorem Room.units1 {k:Nat} {A:Around} (r:Room k A):A.units+1<cLine:=by have:=r.un;omega
section
variable {H:Hp} {Q:VK} {σ:St} {K:PySem.W.Frag} {to:TE} {t:TA} {r:V->List V->Hp->VK->Prop} {T:String} {l p q:Addr} {xs ys:List V} {y:V}
theorem Qe (h:to σ H λ x H1=>tyV K T x H1/\t σ H1 λ xs H2=>r x xs H2 Q):tBM K T r to t σ H Q:=h
theorem tyL {B:Prop} (c:SqL K H l xs) (h:B):tyV K "list" (.ref l) H/\B:=⟨.inl ⟨rfl,xs,c⟩,h⟩
theorem Ps (c:H l=some (.lst xs)) (b:xs.length<16777216) (h:Q .non (upd H l (.lst (xs++[y])))):rAppend (.ref l) [y] H Q:=⟨l,xs,y,rfl,rfl,c,by rw [sizeLine_eq];exact b,h⟩
theorem Ds (c:SqL K H l xs) (d:SqL K H p ys) (b:xs.length+ys.length<=16777216) (h:∀ q,H q=none->Q (.ref q) (upd H q (.lst (xs++ys)))):LJ K (.ref l) (.ref p) H Q:=⟨l,p,xs,ys,rfl,rfl,c,d,by rw [sizeLine_eq];exact b,h⟩
theorem LN {k:Int} (c:H l=some (.lst xs)) (b1:0<=k) (b2:k<=100000) (b3:xs.length<=100) (h:∀ q,H q=none->Q (.ref q) (upd H q (.lst (List.replicate k.toNat xs).flatten))):QR (.ref l) (.int k) H Q:=
  ⟨l,k,xs,rfl,rfl,c,by omega,by omega,by
    rw [sizeLine_eq];have h1:k.toNat<=100000:=by omega
    exact Nat.le_trans (Nat.mul_le_mul b3 h1) (by decide),h⟩
theorem M3 {as bs:List Int} (c:SqL K H l (as.map V.int)) (d:SqL K H p (bs.map V.int)) (h:Q (.bl (decide (as=bs))) H):IU K false (.ref l) (.ref p) H Q:=
  ⟨l,p,_,_,rfl,rfl,c,d,ED as,ED bs,by rw [HY];exact h⟩
theorem Nr {as bs:List Int} (c:SqL K H l (as.map V.int)) (d:SqL K H p (bs.map V.int)) (h:Q (.bl (!decide (as=bs))) H):IU K true (.ref l) (.ref p) H Q:=
  ⟨l,p,_,_,rfl,rfl,c,d,ED as,ED bs,by rw [HY];exact h⟩
theorem Ki {z:Addr} (c:SqL K H z xs) (h:∀ q,H q=none->Q (.ref q) (upd H q (.lst xs))):Fk K [.ref z] H Q:=⟨z,xs,rfl, .inl c,h⟩
theorem Bx {z:Addr} (c:SqT K H z xs) (h:∀ q,H q=none->Q (.ref q) (upd H q (.lst xs))):Fk K [.ref z] H Q:=⟨z,xs,rfl, .inr c,h⟩
theorem Bp {z:Addr} (c:SqL K H z xs) (h:∀ q,H q=none->Q (.ref q) (upd H q (.tup xs))):Hu K [.ref z] H Q:=⟨z,xs,rfl, .inl ⟨c,h⟩⟩
end
end L2
namespace L2
open PySem
open Sem (wp)
open AutoSeq1 (wpAny_loadPart')
section
variable {prog:Program} {w:World} {A:Around} {E:Value->Shared->Prop} {s:Shared}
end
end L2
namespace L2
open PySem PySem.Spec PyProof.Rows
section
variable {X:Cx} {elts:List Expr} {k:Nat} {tpos:Pos} {K:PySem.W.Frag}
end
def Isq (tp:Bool) (K:PySem.W.Frag) (a:Addr):It:=if tp=true then Itt K a else Itl K a
section
variable {X:Cx} {tg:Expr} {K:PySem.W.Frag}
end
structure FSrc (J:It) (g:TG) (H:Hp) (n:Nat) (set:Nat->St->St):Prop where
  go:∀ i H',i<n->Same H H'->J.go i H'
  stop:∀ H',Same H H'->J.stop n H'
  yld:∀ i σ H' x H'' (R:St->Hp->Prop),i<n->Same H H'->J.yld i H' x H''->(∀ H3,Same H' H3->R (set i σ) H3)->g x σ H'' R
theorem G5 {J:It} {g:TG} {H:Hp} {n:Nat} {set:Nat->St->St} {tb:TS} {D:Ends} {σ:St} (S:FSrc J g H n set) (Pv:Nat->St->Hp->Prop) (h0:Pv 0 σ H) (hk:∀ i σ H',Pv i σ H'->Same H H')
    (hs:∀ i σ H' H3,i<n->Pv i σ H'->Same H' H3->tb { D with nx:=Pv (i+1),ct:=Pv (i+1),bk:=D.nx } (set i σ) H3) (hd:∀ σ H',Pv n σ H'->D.nx σ H'):
    ∃ W:Nat->Nat->St->Hp->Prop,(∃ m,W 0 m σ H)/\∀ i m σ H,W i m σ H->
      (J.stop i H/\D.nx σ H)\/(J.go i H/\∃ N:St->Hp->Prop,(∀ σ' H',N σ' H'->∃ m',m'<m/\W (i+1) m' σ' H')/\∀ x H',J.yld i H x H'->g x σ H' λ σ2 H2=>tb { D with nx:=N,ct:=N,bk:=D.nx } σ2 H2):=by
  refine ⟨λ i m σ H'=>m=n - i/\i<=n/\Pv i σ H',⟨n,by simp,Nat.zero_le _,h0⟩,?_⟩;rintro i m σ H1 ⟨rfl,hi,p⟩;by_cases hlt:i<n
  · exact .inr ⟨S.go i H1 hlt (hk _ _ _ p),Pv (i+1),λ σ' H' p'=>⟨n - (i+1),by omega,rfl,hlt,p'⟩,λ x H' y=>S.yld i σ H1 x H' _ hlt (hk _ _ _ p) y λ H3 s3=>hs i σ H1 H3 hlt p s3⟩
  · have e:i=n:=by omega
    subst e;exact .inl ⟨S.stop H1 (hk _ _ _ p),hd σ H1 p⟩
section
variable {K:PySem.W.Frag} {H:Hp} {a b:Addr} {xs zs:List V} {tp t1 t2:Bool} {i1 i2:Nat}
theorem QP (h:SqS tp K H a xs):FSrc (Isq tp K a) (AU i1) H xs.length (λ i σ=>σ.set i1 (some (xs.getD i .non))):=by
  cases tp with
  | false=>exact {
      go:=λ i H' hi s=>⟨xs,xs[i],SqS.same (tp:=false) h s,by simp [hi]⟩
      stop:=λ H' s=>⟨xs,SqS.same (tp:=false) h s,Nat.le_refl _⟩
      yld:=λ i σ H' x H'' R hi s y k=>by
        obtain ⟨e,hv⟩:=y;subst e;have e:x=xs.getD i .non:=by
          rw [List.getD_eq_getElem?_getD,hv xs (SqS.same (tp:=false) h s)];rfl
        subst e;exact k _ (Same.refl _) }
  | true=>exact {
      go:=λ i H' hi s=>⟨xs,xs[i],SqS.same (tp:=true) h s,by simp [hi]⟩
      stop:=λ H' s=>⟨xs,SqS.same (tp:=true) h s,Nat.le_refl _⟩
      yld:=λ i σ H' x H'' R hi s y k=>by
        obtain ⟨e,hv⟩:=y;subst e;have e:x=xs.getD i .non:=by
          rw [List.getD_eq_getElem?_getD,hv xs (SqS.same (tp:=true) h s)];rfl
        subst e;exact k _ (Same.refl _) }
theorem Jr (h:SqL K H a xs):FSrc (Itl K a) (AU i1) H xs.length (λ i σ=>σ.set i1 (some (xs.getD i .non))):=QP (tp:=false) h
theorem Lq {lo:Int} {n:Nat}:FSrc (Itr lo n) (AU i1) H n (λ i σ=>σ.set i1 (some (.int (lo+i)))) where
  go:=λ i H' hi s=>hi
  stop:=λ H' s=>Nat.le_refl _
  yld:=λ i σ H' x H'' R hi s y k=>by
    obtain ⟨e,hv⟩:=y;subst e hv;exact k _ (Same.refl _)
end
theorem bA (a b:Nat):Builtin.bitAnd (a:Int) (b:Int)=((a &&& b:Nat):Int):=by
  rw [PyProof.Rows.bitAnd_pp (by omega) (by omega)];rfl
theorem HR (n:Nat):(1:Int)*2 ^ n=((2 ^ n:Nat):Int):=by
  rw [Int.one_mul];push_cast;rfl
section
variable {X:Cx}
end
section
variable {H:Hp} {Q:VK} {σ:St} {D:Ends} {te:TE} {ti:TIp} {i:Nat} {x:V}
end
abbrev nV (n:Nat):V:= .int (n:Nat)
theorem Cf {ns:List Int} {i:Nat} (h:i<(ns.map V.int).length):(ns.map V.int).getD i .non= .int (ns.getD i 0):=by
  have h':i<ns.length:=by simpa using h
  simp [List.getD_eq_getElem?_getD,h']
theorem NV {ns:List Int} {k:Int} (h0:0<=k) (h1:k<ns.length):atI (ns.map V.int) k=some (.int (ns.getD k.toNat 0)):=by
  obtain ⟨j,rfl⟩:∃ j:Nat,k=j:=⟨k.toNat,by omega⟩;have h':j<ns.length:=by omega
  refine Hj ?_;rw [show ((j:Int)).toNat=j by omega];simp [List.getD_eq_getElem?_getD,h']
theorem GT {J:It} {g:TG} {σ0:St} {H:Hp} {n:Nat} {st:Nat->St} {te:TE} {Q:VK} {D:Addr} {G:Nat->Int} (S:SrcOk J g σ0 H n st) (hD:H D=none) (hn:n<=100000)
    (he:∀ i H' (R:VK),i<n->Same H H'->(∀ H3,Same H' H3->R (.int (G i)) H3)->te (st i) H' R)
    (hd:∀ H',Same H H'->H' D=some (.lst (((List.range n).map G).map V.int))->Q (.ref D) H'):Ez J σ0 g Ma te Q H D:=by
  refine AI (m:=0) (G:=λ i=> .int (G i)) S hD hn (λ i H' R hi s k=>he i H' R hi s λ H3 s3=>k H3 _ s3 (.int _)) λ H' ys s hl r=> ?_;have e:(List.range n).map (λ i=>Dt.int (G i))=((List.range n).map G).map Dt.int:=by rw [List.map_map];rfl
  rw [e] at r;obtain ⟨b,eb,hb,fb⟩:=JL r;cases eb;exact hd H' s hb
theorem Ja {J:It} {g:TG} {σ0:St} {H:Hp} {n:Nat} {st:Nat->St} {tc:TT} {te:TE} {Q:VK} {D:Addr} {p:Nat->Bool} {G:Nat->Int} (S:SrcOk J g σ0 H n st) (hD:H D=none) (hn:n<=100000)
    (ht:∀ i H' (R:Bool->Hp->Prop),i<n->Same H H'->(∀ H3,Same H' H3->R (p i) H3)->tc (st i) H' R)
    (he:∀ i H' (R:VK),i<n->p i=true->Same H H'->(∀ H3,Same H' H3->R (.int (G i)) H3)->te (st i) H' R)
    (hd:∀ H',Same H H'->H' D=some (.lst ((((List.range n).filter p).map G).map V.int))->Q (.ref D) H'):Ez J σ0 g tc te Q H D:=by
  refine EO (m:=0) (p:=p) (G:=λ i=> .int (G i)) S hD hn ht (λ i H' R hi hp s k=>he i H' R hi hp s λ H3 s3=>k H3 _ s3 (.int _)) λ H' ys s hl r=> ?_;have e:((List.range n).filter p).map (λ i=>Dt.int (G i))=(((List.range n).filter p).map G).map Dt.int:=by rw [List.map_map];rfl
  rw [e] at r;obtain ⟨b,eb,hb,fb⟩:=JL r;cases eb;exact hd H' s hb
theorem Fp {J:It} {g:TG} {σ0:St} {H:Hp} {n:Nat} {st:Nat->St} {te:TE} {Q:VK} {D:Addr} {G:Nat->Bool} (S:SrcOk J g σ0 H n st) (hD:H D=none) (hn:n<=100000)
    (he:∀ i H' (R:VK),i<n->Same H H'->(∀ H3,Same H' H3->R (.bl (G i)) H3)->te (st i) H' R)
    (hd:∀ H',Same H H'->H' D=some (.lst (((List.range n).map G).map V.bl))->Q (.ref D) H'):Ez J σ0 g Ma te Q H D:=by
  refine AI (m:=0) (G:=λ i=> .bl (G i)) S hD hn (λ i H' R hi s k=>he i H' R hi s λ H3 s3=>k H3 _ s3 (.bl _)) λ H' ys s hl r=> ?_;have e:ys=((List.range n).map G).map V.bl:=by
    cases r with
    | @lst _ _ vs _ q f b l ee=>
      rw [hl] at q;cases q;refine List.ext_getElem (by simpa using l) λ i h1 h2=> ?_;have hi:i<n:=by simpa using h2
      have:=ee i ys[i] (.bl (G i)) (by simp [h1]) (by simp [hi]);cases hv:ys[i] <;> rw [hv] at this <;> cases this;simp
  rw [e] at hl;exact hd H' s hl
def EX (P:Program) (w:World) (K:PySem.W.Frag) (mg:Str->Option Value) (base:Heap) (C:Addr) (m:Str) (k:Nat) (ps:List Str) (sp:Sp):Prop:=
  ∃ f fd,Cls K C/\Meth K C m f/\FnOk P w K mg base CX0 k f fd ps sp/\Binds K fd ps []
section
variable {X:Cx} {x m:Str} {C:Addr} {k:Nat} {ps:List Str} {sp:Sp} {o e:Expr} {es:List Expr} {t:TA} {ta:TE} {p pos apos:Pos}
theorem P7 {pl:Sem Bool} (he:PE X o ta) (h:EX X.prog X.w X.K X.mg X.base C m k ps sp) (hr:Room k X.A) (ha:PA X (e::es) t)
    (hst:starEach (e::es) X.env=(false,eval e X.env)::starEach es X.env:=by rfl) (hpl:(backTo pos (starEach es X.env)).any (·.1)=false:=by rfl)
    (ht:eval (.Call (.Attribute o m apos) (e::es) [] pos) X.env=(do
      let ov <-eval o X.env
      standAt apos.atName
      let (f,first) <-holding [ov] (getMethod ov m pl)
      callWith pos f first (backTo pos (starEach (e::es) X.env)) (backToKw pos (keywordEach [] X.env))):=by rfl):
    PE X (.Call (.Attribute o m apos) (e::es) [] pos) (GK C m sp [] E0 ta t):=by
  obtain ⟨f,fd,c,hm,F,hb⟩:=h;exact Nw (pl:=pl) he c hm F hr hb .nil LZ ha hst hpl ht
theorem DG {pl:Sem Bool} (he:PE X o ta) (h:EX X.prog X.w X.K X.mg X.base C m k ps sp) (hr:Room k X.A)
    (ht:eval (.Call (.Attribute o m apos) [] [] pos) X.env=(do
      let ov <-eval o X.env
      standAt apos.atName
      let (f,first) <-holding [ov] (getMethod ov m pl)
      callWith pos f first (backTo pos (starEach [] X.env)) (backToKw pos (keywordEach [] X.env))):=by rfl):
    PE X (.Call (.Attribute o m apos) [] [] pos) (GK C m sp [] E0 ta KQ):=by
  obtain ⟨f,fd,c,hm,F,hb⟩:=h;exact Mp (pl:=pl) he c hm F hr hb .nil LZ ht
theorem E4 {x:Str} {C:Addr} {pos:Pos} (h:X.mg x=some (.ref C)) (hg:Gl X x:=by rfl) (hd:(x == ("__debug__":Str))=false:=by decide):PE X (.Name x pos) (tC (.ref C)):=G3 hg h rfl hd
end
structure Kind (K:PySem.W.Frag) (C:Addr):Prop where
  cl:Cls K C
  ha:PySem.W.findIn K (.ref C) "__class__"=some (some (.builtin "object.__class__"))
  hn:PySem.W.specialIn K (.builtin "object.__class__") "__get__"=some (some (.builtin "getset_descriptor.__get__"))
  htk:PySem.W.takesIn K (.builtin "object.__class__")=some true
  hm:PySem.W.mroIn K C (.type "object")=some true
section
variable {K:PySem.W.Frag} {H:Hp} {Q:VK} {σ:St} {D:Ends} {te tv:TE} {t:TA} {a C dx:Addr} {fs:List (Str × V)} {f:Str} {v:V} {sp:Sp}
theorem PH (h:te σ H λ x H1=>∃ a C dx fs v,x= .ref a/\H1 a=some (.ins C dx fs)/\Cls K C/\NoAttr K C f/\fs.lookup f=some v/\Q v H1):Px K te f σ H Q:=h
theorem OB (h:tv σ H λ y H1=>te σ H1 λ x H2=>∃ a C dx fs,x= .ref a/\H2 a=some (.ins C dx fs)/\Cls K C/\NoAttr K C f/\fs.length<1000/\D.nx σ (upd H2 a (.ins C dx (AQ f y fs)))):Sw K te tv f D σ H:=h
theorem Ef {y:V} (e:H a=some (.ins C dx fs)) (c:Cls K C) (n:NoAttr K C f) (l:fs.length<1000) (h:D.nx σ (upd H a (.ins C dx (AQ f y fs)))):∃ a' C' dx' fs',V.ref a= .ref a'/\H a'=some (.ins C' dx' fs')/\Cls K C'/\NoAttr K C' f/\fs'.length<1000/\D.nx σ (upd H a' (.ins C' dx' (AQ f y fs'))):=⟨a,C,dx,fs,rfl,e,c,n,l,h⟩
theorem NA {m:Str} (h:te σ H λ x H1=>∃ a dx fs,x= .ref a/\H1 a=some (.ins C dx fs)/\fs.lookup m=none/\t σ H1 λ vs H2=>sp (x::vs) H2 Q E0):GK C m sp [] E0 te t σ H Q:=by
  unfold GK;simpa using h
end
theorem Mx {r r':R2} {ta tb tc:TE} {σ:St} {H:Hp} {Q:VK} (h:ta σ H λ x H1=>tb σ H1 λ y H2=>r x y H2 λ z H3=>∃ k,z= .bl k/\(if k=true then tc σ H3 λ w' H4=>r' y w' H4 Q else Q (.bl false) H3)):My r r' ta tb tc σ H Q:=h
def Ax (x:V) (a b:Int):Bool:=match x with | .int i=>decide (a<=i)&&decide (i<=b) | _=>false
theorem BG {b b':Bool} {Q:VK} {H:Hp} (e:b=b') (h:Q (.bl b') H):Q (.bl b) H:=e▸h
theorem MD {b:Bool} {A B:Prop} (h1:b=true->A) (h2:b=false->B):if b=true then A else B:=by
  cases b with
  | true=>exact h1 rfl
  | false=>exact h2 rfl
theorem Ii {H:Hp} {x dx:Addr} {o:HO} {u:HO} (h1:H x=none) (h2:H dx=none):Same H (upd (upd H dx u) x o):=λ b q e=>by
  rw [Af (AB e h1),Af (AB e h2)];exact e
mutual
def eqD:Dt->Dt->Bool
  | .non, .non=>true
  | .bl a, .bl b=>a == b
  | .int a, .int b=>a == b
  | .str a, .str b=>a == b
  | .bl a, .int b=>(if a then 1 else 0) == b
  | .int a, .bl b=>a == (if b then 1 else 0)
  | .lst xs, .lst ys=>Ek xs ys
  | .tup xs, .tup ys=>Ek xs ys
  | _,_=>false
def Ek:List Dt->List Dt->Bool
  | [],[]=>true
  | x::xs,y::ys=>eqD x y&&Ek xs ys
  | _,_=>false
end
theorem Do:∀ {xs ys:List Dt},xs.length≠ys.length->Ek xs ys=false
  | [],[],h=>absurd rfl h
  | [],_::_,_=>by unfold Ek;rfl
  | _::_,[],_=>by unfold Ek;rfl
  | x::xs,y::ys,h=>by
    unfold Ek;rw [Do (xs:=xs) (ys:=ys) (λ e=>h (by simp [e])),Bool.and_false]
theorem C2:∀ {xs ys:List Dt},xs.length=ys.length->Ek xs ys=(List.range xs.length).all λ i=>eqD (xs.getD i .non) (ys.getD i .non)
  | [],[],_=>by unfold Ek;rfl
  | [],_::_,h=>by simp at h
  | _::_,[],h=>by simp at h
  | x::xs,y::ys,h=>by
    unfold Ek;rw [C2 (xs:=xs) (ys:=ys) (by simpa using h),List.length_cons,List.range_succ_eq_map,List.all_cons,List.all_map];rfl
mutual
theorem EH:∀ d:Dt,eqD d d=true
  | .non=>by unfold eqD;rfl
  | .bl a=>by unfold eqD;simp
  | .int a=>by unfold eqD;simp
  | .str a=>by unfold eqD;simp
  | .lst xs=>by unfold eqD;exact ET xs
  | .tup xs=>by unfold eqD;exact ET xs
theorem ET:∀ d:List Dt,Ek d d=true
  | []=>by unfold Ek;rfl
  | x::xs=>by unfold Ek;rw [EH x,ET xs];rfl
end
theorem Rp.inj {H:Hp} {F G:Addr->Prop} {n m:Nat} {v:V} {d e:Dt} (r:Rp H F n v d) (r2:Rp H G m v e):d=e:=by
  induction r generalizing m e with
  | non=>cases r2;rfl
  | bl b=>cases r2;rfl
  | int i=>cases r2;rfl
  | str z=>cases r2;rfl
  | @lst n a vs ds h f b l el ih=>
    cases r2 with
    | @lst m _ vs2 ds2 h2 f2 b2 l2 el2=>
      rw [h] at h2;cases h2;congr 1;refine List.ext_getElem (by omega) λ i h1 h3=> ?_;have hv:i<vs.length:=by omega
      exact ih i vs[i] ds[i] (by simp [hv]) (by simp [h1]) (el2 i vs[i] ds2[i] (by simp [hv]) (by simp [h3]))
    | tup h2 _ _ _=>rw [h] at h2;cases h2
  | @tup n a vs ds h b l el ih=>
    cases r2 with
    | @tup m _ vs2 ds2 h2 b2 l2 el2=>
      rw [h] at h2;cases h2;congr 1;refine List.ext_getElem (by omega) λ i h1 h3=> ?_;have hv:i<vs.length:=by omega
      exact ih i vs[i] ds[i] (by simp [hv]) (by simp [h1]) (el2 i vs[i] ds2[i] (by simp [hv]) (by simp [h3]))
    | lst h2 _ _ _ _=>rw [h] at h2;cases h2
section
variable {X:Cx} {pins:List (Addr × Obj)} {σ:St} {H:Hp} {s:Shared}
theorem Fj {F G:Addr->Prop} {n:Nat} {xs ys:List V} {ds es:List Dt} {its its2:List Value} {A:Around} (r:Vals xs its) (r2:Vals ys its2) (l1:xs.length=ds.length) (l2:ys.length=es.length)
    (el:∀ (i:Nat) (v:V) (d:Dt),xs[i]?=some v->ds[i]?=some d->Rp H F n v d) (el2:∀ (i:Nat) (v:V) (d:Dt),ys[i]?=some v->es[i]?=some d->Rp H G n v d)
    (ih:∀ {v u:V} {d e:Dt} {rv ru:Value},Rp H F n v d->Rp H G n u e->RelV v rv->RelV u ru->SeqAt.EqAt A s rv ru (eqD d e)):
    ∀ j (h1:j<its.toArray.size) (h2:j<its2.toArray.size),SeqAt.EqAt A s its.toArray[j] its2.toArray[j] (eqD (ds.getD j .non) (es.getD j .non)):=λ j h1 h2=>by
  have k1:=r.length;have k2:=r2.length;have h1':j<its.length:=by simpa using h1
  have h2':j<its2.length:=by simpa using h2
  have g1:xs[j]?=some (xs.getD j .non):=by rw [List.getD_eq_getElem?_getD,List.getElem?_eq_getElem (by omega)];rfl
  have g2:ys[j]?=some (ys.getD j .non):=by rw [List.getD_eq_getElem?_getD,List.getElem?_eq_getElem (by omega)];rfl
  have d1:ds[j]?=some (ds.getD j .non):=by rw [List.getD_eq_getElem?_getD,List.getElem?_eq_getElem (by omega)];rfl
  have d2:es[j]?=some (es.getD j .non):=by rw [List.getD_eq_getElem?_getD,List.getElem?_eq_getElem (by omega)];rfl
  obtain ⟨u,e1,ru⟩:=r.get g1;obtain ⟨u2,e2,ru2⟩:=r2.get g2;have q1:its.toArray[j]=u:=by rw [List.getElem?_eq_getElem h1'] at e1;simpa using Option.some.inj e1
  have q2:its2.toArray[j]=u2:=by rw [List.getElem?_eq_getElem h2'] at e2;simpa using Option.some.inj e2
  rw [q1,q2];exact ih (el j _ _ g1 d1) (el2 j _ _ g2 d2) ru ru2
theorem DD (A:Around):A.in1.units=A.units+1:=rfl
theorem IE (I:Inv X pins σ H s) {F G:Addr->Prop}:∀ {n:Nat} {A:Around} {v u:V} {d e:Dt} {rv ru:Value},Rp H F n v d->Rp H G n u e->RelV v rv->RelV u ru->A.units+n<cLine->SeqAt.EqAt A s rv ru (eqD d e):=by
  intro n;have sc:∀ {n m:Nat} {A:Around} {v u:V} {d e:Dt} {rv ru:Value},Rp H F n v d->Rp H G m u e->(CY d||BI d)=false->(CY e||BI e)=false->RelV v rv->RelV u ru->SeqAt.EqAt A s rv ru (eqD d e):=by
    intro n m A v u d e rv ru r r2 n1 n2 rr rr2;cases r with
    | non=>
      cases rr;cases r2 with
      | non=>
        cases rr2;simp only [eqD];exact (show SeqAt.EqAt A s Value.none Value.none true from SeqAt.EqAt.same _)
      | bl x2=>
        cases rr2;simp only [eqD];exact SeqAt.EqAt.none_bool _
      | int x2=>
        obtain ⟨t2,rfl⟩:=rr2;simp only [eqD];exact SeqAt.EqAt.none_int _ _
      | str x2=>
        obtain ⟨t2,rfl⟩:=rr2;simp only [eqD];exact SeqAt.EqAt.none_str _ _
      | lst _ _ _ _ _=>cases n2
      | tup _ _ _ _=>cases n2
    | bl x1=>
      cases rr;cases r2 with
      | non=>
        cases rr2;simp only [eqD];exact SeqAt.EqAt.bool_none _
      | bl x2=>
        cases rr2;simp only [eqD];exact SeqAt.EqAt.bool_bool _ _
      | int x2=>
        obtain ⟨t2,rfl⟩:=rr2;simp only [eqD];exact SeqAt.EqAt.bool_int _ _ _
      | str x2=>
        obtain ⟨t2,rfl⟩:=rr2;simp only [eqD];exact SeqAt.EqAt.bool_str _ _ _
      | lst _ _ _ _ _=>cases n2
      | tup _ _ _ _=>cases n2
    | int x1=>
      obtain ⟨t1,rfl⟩:=rr;cases r2 with
      | non=>
        cases rr2;simp only [eqD];exact SeqAt.EqAt.int_none _ _
      | bl x2=>
        cases rr2;simp only [eqD];exact SeqAt.EqAt.int_bool _ _ _
      | int x2=>
        obtain ⟨t2,rfl⟩:=rr2;simp only [eqD];exact SeqAt.EqAt.int_int _ _ _ _
      | str x2=>
        obtain ⟨t2,rfl⟩:=rr2;simp only [eqD];exact SeqAt.EqAt.int_str _ _ _ _
      | lst _ _ _ _ _=>cases n2
      | tup _ _ _ _=>cases n2
    | str x1=>
      obtain ⟨t1,rfl⟩:=rr;cases r2 with
      | non=>
        cases rr2;simp only [eqD];exact SeqAt.EqAt.str_none _ _
      | bl x2=>
        cases rr2;simp only [eqD];exact SeqAt.EqAt.str_bool _ _ _
      | int x2=>
        obtain ⟨t2,rfl⟩:=rr2;simp only [eqD];exact SeqAt.EqAt.str_int _ _ _ _
      | str x2=>
        obtain ⟨t2,rfl⟩:=rr2;simp only [eqD];exact SeqAt.EqAt.str_str _ _ _ _
      | lst _ _ _ _ _=>cases n2
      | tup _ _ _ _=>cases n2
    | lst _ _ _ _ _=>cases n1
    | tup _ _ _ _=>cases n1
  induction n with
  | zero=>
    intro A v u d e rv ru r r2 rr rr2 hu;exact sc r r2 (by cases r <;> rfl) (by cases r2 <;> rfl) rr rr2
  | succ n ih=>
    intro A v u d e rv ru r r2 rr rr2 hu;have hu':A.units<cLine:=by omega
    cases h1:(CY d||BI d) with
    | false=>
      cases h2:(CY e||BI e) with
      | false=>exact sc r r2 h1 h2 rr rr2
      | true=>
        cases r2 with
        | @lst _ b ys es q2 f2 b2 l2 el2=>
          obtain rfl:ru=Value.ref b:=rr2;obtain ⟨its2,rv2,pl2,_⟩:=I.list (SqL.of q2);cases r with
          | non=>cases rr;simp only [eqD];exact SeqAt.EqAt.none_list pl2.isList hu'
          | bl x1=>cases rr;simp only [eqD];exact SeqAt.EqAt.bool_list _ pl2.isList hu'
          | int x1=>obtain ⟨t,rfl⟩:=rr;simp only [eqD];exact SeqAt.EqAt.int_list _ _ pl2.isList hu'
          | str x1=>obtain ⟨t,rfl⟩:=rr;simp only [eqD];exact SeqAt.EqAt.str_list _ _ pl2.isList hu'
          | lst _ _ _ _ _=>cases h1
          | tup _ _ _ _=>cases h1
        | @tup _ b ys es q2 b2 l2 el2=>
          obtain rfl:ru=Value.ref b:=rr2;obtain ⟨its2,rv2,pl2,_⟩:=I.tuple (SqT.of q2);have pl2:s.heap.IsTuple b its2.toArray:=pl2;cases r with
          | non=>cases rr;simp only [eqD];exact SeqAt.EqAt.none_tuple pl2 hu'
          | bl x1=>cases rr;simp only [eqD];exact SeqAt.EqAt.bool_tuple _ pl2 hu'
          | int x1=>obtain ⟨t,rfl⟩:=rr;simp only [eqD];exact SeqAt.EqAt.int_tuple _ _ pl2 hu'
          | str x1=>obtain ⟨t,rfl⟩:=rr;simp only [eqD];exact SeqAt.EqAt.str_tuple _ _ pl2 hu'
          | lst _ _ _ _ _=>cases h1
          | tup _ _ _ _=>cases h1
        | _=>cases h2
    | true=>
      cases r with
      | @lst _ a xs ds q1 f1 b1 l1 el1=>
        obtain rfl:rv=Value.ref a:=rr;obtain ⟨its,rv1,pl,_⟩:=I.list (SqL.of q1);have k1:=rv1.length;cases r2 with
        | @lst _ b ys es q2 f2 b2 l2 el2=>
          obtain rfl:ru=Value.ref b:=rr2;obtain ⟨its2,rv2,pl2,_⟩:=I.list (SqL.of q2);have k2:=rv2.length;by_cases hab:a=b
          · subst hab;have e:=(Rp.lst (n:=n) q1 f1 b1 l1 el1).inj (Rp.lst (n:=n) q2 f2 b2 l2 el2);rw [e,EH];exact SeqAt.EqAt.same _
          · refine SeqAt.EqAt.of_refs hab ?_;simp only [eqD];by_cases hl:ds.length=es.length
            · rw [C2 hl];have q:=SeqAt.RcAt.lists (A:=A) (e:=λ i=>eqD (ds.getD i .non) (es.getD i .non)) pl.isList pl2.isList (by simp;omega) hu' (Fj rv1 rv2 l1 l2 el1 el2 λ r r2 rr rr2=>ih r r2 rr rr2 (by rw [DD];omega));rw [show its.toArray.size=ds.length by simp;omega] at q;exact q
            · rw [Do hl];exact SeqAt.RcAt.lists_lengths pl.isList pl2.isList (by simp;omega) hu'
        | @tup _ b ys es q2 b2 l2 el2=>
          obtain rfl:ru=Value.ref b:=rr2;obtain ⟨its2,rv2,pl2,_⟩:=I.tuple (SqT.of q2);simp only [eqD];exact SeqAt.EqAt.list_tuple pl.isList (show s.heap.IsTuple b its2.toArray from pl2) hu'
        | non=>cases rr2;simp only [eqD];exact SeqAt.EqAt.list_none pl.isList hu'
        | bl x1=>cases rr2;simp only [eqD];exact SeqAt.EqAt.list_bool _ pl.isList hu'
        | int x1=>obtain ⟨t,rfl⟩:=rr2;simp only [eqD];exact SeqAt.EqAt.list_int _ _ pl.isList hu'
        | str x1=>obtain ⟨t,rfl⟩:=rr2;simp only [eqD];exact SeqAt.EqAt.list_str _ _ pl.isList hu'
      | @tup _ a xs ds q1 b1 l1 el1=>
        obtain rfl:rv=Value.ref a:=rr;obtain ⟨its,rv1,pl,_⟩:=I.tuple (SqT.of q1);have pl:s.heap.IsTuple a its.toArray:=pl;have k1:=rv1.length;cases r2 with
        | @tup _ b ys es q2 b2 l2 el2=>
          obtain rfl:ru=Value.ref b:=rr2;obtain ⟨its2,rv2,pl2,_⟩:=I.tuple (SqT.of q2);have pl2:s.heap.IsTuple b its2.toArray:=pl2;have k2:=rv2.length;by_cases hab:a=b
          · subst hab;have e:=(Rp.tup (n:=n) (F:=F) q1 b1 l1 el1).inj (Rp.tup (n:=n) (F:=G) q2 b2 l2 el2);rw [e,EH];exact SeqAt.EqAt.same _
          · refine SeqAt.EqAt.of_refs hab ?_;simp only [eqD];have q:=SeqAt.RcAt.tuples (A:=A) (e:=λ i=>eqD (ds.getD i .non) (es.getD i .non)) pl pl2 hu' (Fj rv1 rv2 l1 l2 el1 el2 λ r r2 rr rr2=>ih r r2 rr rr2 (by rw [DD];omega));have e1:its.toArray.size=ds.length:=by simp;omega
            have e2:its2.toArray.size=es.length:=by simp;omega
            rw [e1,e2] at q;by_cases hl:ds.length=es.length
            · rw [C2 hl];rw [<-hl,Nat.min_self,beq_self_eq_true,Bool.and_true] at q;exact q
            · rw [Do hl];rw [beq_eq_false_iff_ne.mpr hl,Bool.and_false] at q;exact q
        | @lst _ b ys es q2 f2 b2 l2 el2=>
          obtain rfl:ru=Value.ref b:=rr2;obtain ⟨its2,rv2,pl2,_⟩:=I.list (SqL.of q2);simp only [eqD];exact SeqAt.EqAt.tuple_list pl pl2.isList hu'
        | non=>cases rr2;simp only [eqD];exact SeqAt.EqAt.tuple_none pl hu'
        | bl x1=>cases rr2;simp only [eqD];exact SeqAt.EqAt.tuple_bool _ pl hu'
        | int x1=>obtain ⟨t,rfl⟩:=rr2;simp only [eqD];exact SeqAt.EqAt.tuple_int _ _ pl hu'
        | str x1=>obtain ⟨t,rfl⟩:=rr2;simp only [eqD];exact SeqAt.EqAt.tuple_str _ _ pl hu'
      | _=>cases h1
def TZ (neg:Bool):R2:=λ x y H Q=>∃ (n:Nat) (d e:Dt),n<=30/\Rp H FT n x d/\Rp H FT n y e/\(CY d&&CY e||BI d&&BI e)=true/\Q (.bl (if neg then !eqD d e else eqD d e)) H
theorem Pz (hu:X.A.units+64<cLine):OpR X (compareOp .Eq) (TZ false):=by
  intro pins s σ H x y v u Q I rx ry h;obtain ⟨n,d,e,hn,r,r2,hs,q⟩:=h;cases r with
  | @lst m a xs ds q1 f1 b1 l1 el1=>
    cases r2 with
    | @lst _ b ys es q2 f2 b2 l2 el2=>
      obtain rfl:v=Value.ref a:=rx;obtain rfl:u=Value.ref b:=ry;obtain ⟨its,rv1,pl,_⟩:=I.list (SqL.of q1);obtain ⟨its2,rv2,pl2,_⟩:=I.list (SqL.of q2);have k1:=rv1.length;have k2:=rv2.length;have q:Q (.bl (Ek ds es)) H:=by
        have q:=q;unfold eqD at q;exact q
      by_cases hl:ds.length=es.length
      · refine SeqAt.eq_listAt (e:=λ i=>eqD (ds.getD i .non) (es.getD i .non)) pl.isList pl2.isList (by simp;omega) (by omega) (Fj rv1 rv2 l1 l2 el1 el2 λ r r2 rr rr2=>IE I r r2 rr rr2 (by rw [DD];omega)) ⟨.bl _,H,I,rfl,?_⟩;rw [show its.toArray.size=ds.length by simp;omega, <-C2 hl];exact q
      · refine SeqAt.eq_list_lengthsAt pl.isList pl2.isList (by simp;omega) (by omega) ⟨.bl _,H,I,rfl,?_⟩;rw [<-Do hl];exact q
    | _=>cases hs
  | @tup m a xs ds q1 b1 l1 el1=>
    cases r2 with
    | @tup _ b ys es q2 b2 l2 el2=>
      obtain rfl:v=Value.ref a:=rx;obtain rfl:u=Value.ref b:=ry;obtain ⟨its,rv1,pl,_⟩:=I.tuple (SqT.of q1);obtain ⟨its2,rv2,pl2,_⟩:=I.tuple (SqT.of q2);have k1:=rv1.length;have k2:=rv2.length;have q:Q (.bl (Ek ds es)) H:=by
        have q:=q;unfold eqD at q;exact q
      refine SeqAt.eq_tupleAt (e:=λ i=>eqD (ds.getD i .non) (es.getD i .non)) (show s.heap.IsTuple a its.toArray from pl) (show s.heap.IsTuple b its2.toArray from pl2) (by omega) (Fj rv1 rv2 l1 l2 el1 el2 λ r r2 rr rr2=>IE I r r2 rr rr2 (by rw [DD];omega)) ⟨.bl _,H,I,rfl,?_⟩;have e1:its.toArray.size=ds.length:=by simp;omega
      have e2:its2.toArray.size=es.length:=by simp;omega
      rw [e1,e2];by_cases hl:ds.length=es.length
      · rw [<-hl,Nat.min_self,beq_self_eq_true,Bool.and_true, <-C2 hl];exact q
      · rw [beq_eq_false_iff_ne.mpr hl,Bool.and_false, <-Do hl];exact q
    | _=>cases hs
  | _=>cases hs
end
end L2
namespace L2
open PySem PySem.Spec PyProof.Rows
abbrev dN (n:Nat):Dt:= .int (n:Nat)
def dL (ns:List Nat):Dt:= .lst (ns.map dN)
def dT (ns:List Nat):Dt:= .tup (ns.map dN)
def dS (zs:List Str):Dt:= .lst (zs.map .str)
def dST (zs:List Str):Dt:= .tup (zs.map .str)
def dLL (ls:List (List Nat)):Dt:= .lst (ls.map dL)
def dTT (ls:List (List Nat)):Dt:= .tup (ls.map dT)
section
variable {H:Hp} {F:Addr->Prop} {n:Nat} {v:V}
theorem Eu {α:Type} {f:α->V} {g:α->Dt} (uniq:∀ (a:α) (v:V),Rp H F n v (g a)->v=f a) {vs:List V} {as:List α} (l:vs.length=(as.map g).length)
    (e:∀ (i:Nat) (v:V) (d:Dt),vs[i]?=some v->(as.map g)[i]?=some d->Rp H F n v d):vs=as.map f:=by
  refine List.ext_getElem (by simpa using l) λ i h1 h2=> ?_;have h3:i<as.length:=by simpa using h2
  rw [List.getElem_map];exact uniq _ _ (e i vs[i] (g as[i]) (by simp [h1]) (by simp [h3]))
theorem Ln (a:Nat) (v:V) (r:Rp H F n v (dN a)):v=nV a:=by cases r;rfl
theorem L8 (a:Str) (v:V) (r:Rp H F n v (.str a)):v= .str a:=by cases r;rfl
theorem Gx {ns:List Nat} (r:Rp H F n v (dL ns)):∃ a,v= .ref a/\H a=some (.lst (ns.map nV))/\F a/\ns.length<=100000:=by
  unfold dL at r;cases r with
  | @lst m a vs _ h f b l e=>
    have q:=Eu (f:=nV) (λ a v r=>Ln a v r) l e;subst q;exact ⟨a,rfl,h,f,by simpa using b⟩
theorem Jm {ns:List Nat} (r:Rp H F n v (dT ns)):∃ a,v= .ref a/\H a=some (.tup (ns.map nV))/\ns.length<=100000:=by
  unfold dT at r;cases r with
  | @tup m a vs _ h b l e=>
    have q:=Eu (f:=nV) (λ a v r=>Ln a v r) l e;subst q;exact ⟨a,rfl,h,by simpa using b⟩
theorem Iw {zs:List Str} (r:Rp H F n v (dS zs)):∃ a,v= .ref a/\H a=some (.lst (zs.map V.str))/\F a/\zs.length<=100000:=by
  unfold dS at r;cases r with
  | @lst m a vs _ h f b l e=>
    have q:=Eu (f:=V.str) (λ a v r=>L8 a v r) l e;subst q;exact ⟨a,rfl,h,f,by simpa using b⟩
theorem La {zs:List Str} (r:Rp H F n v (dST zs)):∃ a,v= .ref a/\H a=some (.tup (zs.map V.str))/\zs.length<=100000:=by
  unfold dST at r;cases r with
  | @tup m a vs _ h b l e=>
    have q:=Eu (f:=V.str) (λ a v r=>L8 a v r) l e;subst q;exact ⟨a,rfl,h,by simpa using b⟩
theorem G8 {α:Type} {f:α->V} {g:α->Dt} {as:List α} (k:∀ a∈as,Rp H F n (f a) (g a)):∀ (i:Nat) (v:V) (d:Dt),(as.map f)[i]?=some v->(as.map g)[i]?=some d->Rp H F n v d:=by
  intro i v d h1 h2;rw [List.getElem?_map] at h1 h2;cases e:as[i]? with
  | none=>rw [e] at h1;cases h1
  | some a=>
    rw [e] at h1 h2;cases h1;cases h2;exact k a (List.mem_of_getElem? e)
theorem Km {a:Addr} {ns:List Nat} (h:H a=some (.lst (ns.map nV))) (f:F a) (b:ns.length<=100000):Rp H F (n+1) (.ref a) (dL ns):= .lst h f (by simpa using b) (by simp) (G8 λ k _=> .int _)
theorem PQ {a:Addr} {ns:List Nat} (h:H a=some (.tup (ns.map nV))) (b:ns.length<=100000):Rp H F (n+1) (.ref a) (dT ns):= .tup h (by simpa using b) (by simp) (G8 λ k _=> .int _)
theorem C1 {a:Addr} {zs:List Str} (h:H a=some (.lst (zs.map V.str))) (f:F a) (b:zs.length<=100000):Rp H F (n+1) (.ref a) (dS zs):= .lst h f (by simpa using b) (by simp) (G8 λ k _=> .str _)
theorem Oa {a:Addr} {zs:List Str} (h:H a=some (.tup (zs.map V.str))) (b:zs.length<=100000):Rp H F (n+1) (.ref a) (dST zs):= .tup h (by simpa using b) (by simp) (G8 λ k _=> .str _)
theorem Fy {ds:List Dt} (r:Rp H F n v (.lst ds)):∃ m a vs,n=m+1/\v= .ref a/\H a=some (.lst vs)/\F a/\vs.length=ds.length/\vs.length<=100000/\∀ i,i<ds.length->Rp H F m (vs.getD i .non) (ds.getD i .non):=by
  cases r with
  | @lst m a vs _ h f b l e=>
    refine ⟨m,a,vs,rfl,rfl,h,f,l,b,λ i hi=>e i _ _ ?_ ?_⟩
    · rw [List.getD_eq_getElem?_getD,List.getElem?_eq_getElem (by omega)];rfl
    · rw [List.getD_eq_getElem?_getD,List.getElem?_eq_getElem hi];rfl
theorem IL {ds:List Dt} (r:Rp H F n v (.tup ds)):∃ m a vs,n=m+1/\v= .ref a/\H a=some (.tup vs)/\vs.length=ds.length/\vs.length<=100000/\∀ i,i<ds.length->Rp H F m (vs.getD i .non) (ds.getD i .non):=by
  cases r with
  | @tup m a vs _ h b l e=>
    refine ⟨m,a,vs,rfl,rfl,h,l,b,λ i hi=>e i _ _ ?_ ?_⟩
    · rw [List.getD_eq_getElem?_getD,List.getElem?_eq_getElem (by omega)];rfl
    · rw [List.getD_eq_getElem?_getD,List.getElem?_eq_getElem hi];rfl
theorem BE {α β:Type} (f:α->β) (as:List α) (i:Nat) (x:β) (y:α) (h:i<as.length):(as.map f).getD i x=f (as.getD i y):=by simp [List.getD_eq_getElem?_getD,h]
theorem F4 {zs:List Str} {i:Nat} (h:i<(zs.map V.str).length):(zs.map V.str).getD i .non= .str (zs.getD i Str.empty):=BE V.str zs i .non Str.empty (by simpa using h)
theorem getD_mem {α:Type} {as:List α} {i:Nat} {y:α} (h:i<as.length):as.getD i y∈as:=by
  rw [List.getD_eq_getElem?_getD,List.getElem?_eq_getElem h];exact List.getElem_mem h
end
theorem Rp.ins {H:Hp} {F:Addr->Prop} {n:Nat} {v:V} {d:Dt} {x C dx:Addr} {fs:List (Str × V)} {o:HO} (r:Rp H F n v d) (h:H x=some (.ins C dx fs)):Rp (L2.upd H x o) F n v d:=by
  induction r with
  | non=>exact .non
  | bl b=>exact .bl b
  | int i=>exact .int i
  | str z=>exact .str z
  | @lst n a vs ds q f b l e ih=>
    refine .lst ?_ f b l ih;rw [Af (EJ q h (by intro z;cases z))];exact q
  | @tup n a vs ds q b l e ih=>
    refine .tup ?_ b l ih;rw [Af (EJ q h (by intro z;cases z))];exact q
def But (x:Addr) (H H':Hp):Prop:=∀ b o,H b=some o->b≠x->H' b=some o
theorem But.same {x:Addr} {H H1 H2:Hp} (b:But x H H1) (s:Same H1 H2):But x H H2:=λ a o e n=>s _ _ (b a o e n)
theorem But.of {x:Addr} {H H1:Hp} (s:Same H H1):But x H H1:=λ a o e _=>s _ _ e
theorem But.put {x:Addr} {H H1:Hp} {o:HO} (b:But x H H1):But x H (upd H1 x o):=λ a u e n=>by rw [Af n];exact b a u e n
theorem But.rp {x:Addr} {H H':Hp} {F:Addr->Prop} {n:Nat} {v:V} {d:Dt} {C dx:Addr} {fs:List (Str × V)} (k:But x H H') (h:H x=some (.ins C dx fs)) (r:Rp H F n v d):Rp H' F n v d:=by
  induction r with
  | non=>exact .non
  | bl b=>exact .bl b
  | int i=>exact .int i
  | str z=>exact .str z
  | @lst n a vs ds q f b l e ih=>exact .lst (k _ _ q (EJ q h (by intro z;cases z))) f b l ih
  | @tup n a vs ds q b l e ih=>exact .tup (k _ _ q (EJ q h (by intro z;cases z))) b l ih
theorem Rp.tupd {H:Hp} {F:Addr->Prop} {n:Nat} {D t:Addr} {ds:List Dt} {ys:List V} (r:Rp H F (n+1) (.ref D) (.lst ds)) (hl:H D=some (.lst ys)) (ht:H t=none):Rp (L2.upd H t (.tup ys)) F (n+1) (.ref t) (.tup ds):=by
  cases r with
  | @lst _ _ vs _ q f b l ee=>
    rw [hl] at q;cases q;exact .tup Ac b l λ i v e h1 h2=>(ee i v e h1 h2).new ht
theorem Ot (ls:List (List Nat)):(List.range ls.length).map (λ i=>dT (ls.getD i []))=ls.map dT:=AO dT ls []
theorem NZ (ls:List (List Nat)):(List.range ls.length).map (λ i=>dL (ls.getD i []))=ls.map dL:=AO dL ls []
section
variable {H:Hp} {a:Addr} {kvs:List (Key × V)}
end
theorem Sq {xs:List V} {k:Int} (h:0<=k):Hq xs (some k) none=xs.drop k.toNat:=by
  unfold Hq;have e2:HT.sIx xs.length xs.length none=xs.length:=rfl;rw [e2];have e1:HT.sIx xs.length 0 (some k)=min k.toNat xs.length:=by
    unfold HT.sIx;simp only;split <;> omega
  rw [e1];by_cases q:k.toNat<=xs.length
  · rw [Nat.min_eq_left q,List.take_of_length_le (by simp)]
  · rw [Nat.min_eq_right (by omega),List.drop_of_length_le (Nat.le_refl _),List.drop_of_length_le (by omega)];simp
theorem Lm {xs:List V} {k:Int} (h:0<=k):Hq xs none (some k)=xs.take k.toNat:=by
  unfold Hq;have e2:HT.sIx xs.length 0 none=0:=rfl;rw [e2,List.drop_zero];have e1:HT.sIx xs.length xs.length (some k)=min k.toNat xs.length:=by
    unfold HT.sIx;simp only;split <;> omega
  rw [e1,Nat.sub_zero];by_cases q:k.toNat<=xs.length
  · rw [Nat.min_eq_left q]
  · rw [Nat.min_eq_right (by omega),List.take_of_length_le (Nat.le_refl _),List.take_of_length_le (by omega)]
section
variable {K:PySem.W.Frag} {wi:TI} {own:List Str} {fr:List (Str × Nat)} {g:TG} {tc:TT} {te tl:TE} {tb:TS} {D:Ends} {σ:St} {H:Hp} {Q:VK} {R:It->Hp->Prop} {ta:TA}
theorem NT (h:wi σ H λ J H1=>∀ D,H1 D=none->Ez J (EL own fr σ) g tc te Q H1 D):GQ wi own fr g tc te σ H Q:=h
theorem Pl (h:wi σ H λ J H1=>∃ W:Nat->Nat->St->Hp->Prop,(∃ m,W 0 m σ H1)/\∀ i m σ H,W i m σ H->
  (J.stop i H/\D.nx σ H)\/(J.go i H/\∃ N:St->Hp->Prop,(∀ σ' H',N σ' H'->∃ m',m'<m/\W (i+1) m' σ' H')/\∀ x H',J.yld i H x H'->g x σ H' λ σ2 H2=>tb { D with nx:=N,ct:=N,bk:=D.nx } σ2 H2)):OJ wi g tb D σ H:=h
theorem RA (h:tl σ H λ x H1=>∃ a,x= .ref a/\(∃ xs,SqL K H1 a xs)/\R (Itl K a) H1):JD K tl σ H R:=h
theorem RP (h:tl σ H λ x H1=>∃ a,x= .ref a/\(∃ xs,SqT K H1 a xs)/\R (Itt K a) H1):OV K tl σ H R:=h
theorem Q7 (h:ta σ H λ vs H1=>∃ a,vs=[.ref a]/\(∃ xs,SqL K H1 a xs)/\R (Ite K a) H1):N3 K ta σ H R:=h
theorem Sr (h:ta σ H λ vs H1=>∃ t1 t2 a b,vs=[.ref a, .ref b]/\(∃ xs,SqS t1 K H1 a xs)/\(∃ ys,SqS t2 K H1 b ys)/\R (Izs t1 t2 K a b) H1):iZs K ta σ H R:=h
theorem QK (h:ta σ H λ vs H1=>∃ j:Int,vs=[.int j]/\ -(2 ^ 62)<=j/\j<2 ^ 62/\R (Itr 0 j.toNat) H1):Oi ta σ H R:=h
theorem Qo (h:ta σ H λ vs H1=>∃ i j c:Int,vs=[.int i, .int j, .int c]/\(-(2 ^ 40)<=i/\i<2 ^ 40)/\(-(2 ^ 40)<=j/\j<2 ^ 40)/\(-(2 ^ 20)<=c/\c<2 ^ 20)/\c≠0/\R (Itc i c (Builtin.Range.rangeSize i j c).toNat) H1):N0 ta σ H R:=h
end
theorem Mn {t:TG} {u:TGs} {v:V} {vs:List V} {σ:St} {H:Hp} {QS:St->Hp->Prop} (k:t v σ H λ σ' H'=>u vs σ' H' QS):CV t u (v::vs) σ H QS:=⟨v,vs,rfl,k⟩
theorem Ni {σ:St} {H:Hp} {QS:St->Hp->Prop} (k:QS σ H):Je [] σ H QS:=⟨rfl,k⟩
theorem Mb {J:It} {g:TG} {H0 H:Hp} {n:Nat} {set:Nat->St->St} {tb:TS} {D:Ends} {σ:St} (S:FSrc J g H0 n set) (Pv:Nat->St->Hp->Prop) (h0:Pv 0 σ H) (hk:∀ i σ H',Pv i σ H'->Same H0 H')
    (hs:∀ i σ H' H3,i<n->Pv i σ H'->Same H' H3->tb { D with nx:=Pv (i+1),ct:=Pv (i+1),bk:=D.nx } (set i σ) H3) (hd:∀ σ H',Pv n σ H'->D.nx σ H'):
    ∃ W:Nat->Nat->St->Hp->Prop,(∃ m,W 0 m σ H)/\∀ i m σ H,W i m σ H->
      (J.stop i H/\D.nx σ H)\/(J.go i H/\∃ N:St->Hp->Prop,(∀ σ' H',N σ' H'->∃ m',m'<m/\W (i+1) m' σ' H')/\∀ x H',J.yld i H x H'->g x σ H' λ σ2 H2=>tb { D with nx:=N,ct:=N,bk:=D.nx } σ2 H2):=by
  refine ⟨λ i m σ H'=>m=n - i/\i<=n/\Pv i σ H',⟨n,by simp,Nat.zero_le _,h0⟩,?_⟩;rintro i m σ H1 ⟨rfl,hi,p⟩;by_cases hlt:i<n
  · exact .inr ⟨S.go i H1 hlt (hk _ _ _ p),Pv (i+1),λ σ' H' p'=>⟨n - (i+1),by omega,rfl,hlt,p'⟩,λ x H' y=>S.yld i σ H1 x H' _ hlt (hk _ _ _ p) y λ H3 s3=>hs i σ H1 H3 hlt p s3⟩
  · have e:i=n:=by omega
    subst e;exact .inl ⟨S.stop H1 (hk _ _ _ p),hd σ H1 p⟩
theorem GE {H:Hp} {i1 n:Nat}:FSrc (Itr 0 n) (AU i1) H n (λ i σ=>σ.set i1 (some (.int (i:Nat)))):=by
  have:=Lq (H:=H) (i1:=i1) (lo:=0) (n:=n);simpa using this
theorem Fw {n:Nat} {σ0:St} {H:Hp} (h0:σ0[0]?=some none):SrcOk (Itr 0 n) (AU 0) σ0 H n (λ i=>σ0.set 0 (some (.int (i:Nat)))):=by
  have:=KH (H:=H) (lo:=0) (n:=n) h0;simpa using this
theorem SR {A B:Prop} (h:B):if (!true)=true then A else B:=by simpa using h
theorem JX {H:Hp} {F:Addr->Prop} {n:Nat} {a:Addr} {v0 v1 v2 v3 v4 v5 v6:V} {d0 d1 d2 d3 d4 d5 d6:Dt} (h:H a=some (.tup [v0,v1,v2,v3,v4,v5,v6])) (r0:Rp H F n v0 d0) (r1:Rp H F n v1 d1) (r2:Rp H F n v2 d2) (r3:Rp H F n v3 d3) (r4:Rp H F n v4 d4) (r5:Rp H F n v5 d5) (r6:Rp H F n v6 d6):
    Rp H F (n+1) (.ref a) (.tup [d0,d1,d2,d3,d4,d5,d6]):=by
  refine .tup h (by simp) rfl λ i v u h1 h2=> ?_
  match i with
  | 0=>cases h1;cases h2;exact r0
  | 1=>cases h1;cases h2;exact r1
  | 2=>cases h1;cases h2;exact r2
  | 3=>cases h1;cases h2;exact r3
  | 4=>cases h1;cases h2;exact r4
  | 5=>cases h1;cases h2;exact r5
  | 6=>cases h1;cases h2;exact r6
  | i+7=>cases h1
theorem BY {α:Type} {xs:List α} {n:Nat} (h:xs.length=n+1):∃ x ys,xs=x::ys/\ys.length=n:=by
  cases xs with
  | nil=>cases h
  | cons x ys=>exact ⟨x,ys,rfl,Nat.succ.inj h⟩
theorem GV {H:Hp} {F:Addr->Prop} {n:Nat} {v:V} {d0 d1 d2 d3 d4 d5 d6:Dt} (r:Rp H F n v (.tup [d0,d1,d2,d3,d4,d5,d6])):∃ m a v0 v1 v2 v3 v4 v5 v6,n=m+1/\v= .ref a/\H a=some (.tup [v0,v1,v2,v3,v4,v5,v6])/\
    Rp H F m v0 d0/\Rp H F m v1 d1/\Rp H F m v2 d2/\Rp H F m v3 d3/\Rp H F m v4 d4/\Rp H F m v5 d5/\Rp H F m v6 d6:=by
  cases r with
  | @tup m a vs _ h b l e=>
    replace l:vs.length=7:=l;obtain ⟨v0,w0,rfl,l0⟩:=BY l;obtain ⟨v1,w1,rfl,l1⟩:=BY l0;obtain ⟨v2,w2,rfl,l2⟩:=BY l1;obtain ⟨v3,w3,rfl,l3⟩:=BY l2;obtain ⟨v4,w4,rfl,l4⟩:=BY l3;obtain ⟨v5,w5,rfl,l5⟩:=BY l4;obtain ⟨v6,w6,rfl,l6⟩:=BY l5;cases List.eq_nil_of_length_eq_zero l6;exact ⟨m,a,v0,v1,v2,v3,v4,v5,v6,rfl,rfl,h,e 0 _ _ rfl rfl,e 1 _ _ rfl rfl,e 2 _ _ rfl rfl,e 3 _ _ rfl rfl,e 4 _ _ rfl rfl,e 5 _ _ rfl rfl,e 6 _ _ rfl rfl⟩
theorem ifJ {c:TT} {t u:TS} {D:Ends} {σ:St} {H:Hp} (J:St->Hp->Prop) (h1:∀ σ' H',J σ' H'->D.nx σ' H') (h2:(∀ σ' H',J σ' H'->D.nx σ' H')->Ky c t u D σ H):Ky c t u D σ H:=h2 h1
theorem Hc {α:Type} (f:α->List Nat) (xs:List α):Dt.lst (xs.map λ x=>dL (f x))=dLL (xs.map f):=by unfold dLL;rw [List.map_map];rfl
theorem Pc {α:Type} (f:α->Nat) (xs:List α):Dt.lst (xs.map λ x=>dN (f x))=dL (xs.map f):=by unfold dL;rw [List.map_map];rfl
theorem Le {α:Type} (f:α->Str) (xs:List α):Dt.lst (xs.map λ x=>Dt.str (f x))=dS (xs.map f):=by unfold dS;rw [List.map_map];rfl
end L2
namespace L2
theorem JY {α:Type} {as:List α} {i:Nat} {y:α} (h:i<as.length):as.getD i y=as[i]:=by
  rw [List.getD_eq_getElem?_getD,List.getElem?_eq_getElem h];rfl
end L2
namespace L2
open PySem PySem.Spec PyProof.Rows
def SY (i j:Int):Prop:=0<j/\j<2 ^ 200
theorem KR {j:Int} (h0:0<j) (h:j<2 ^ 200):j.natAbs.log2<9000:=by
  have h1:j.natAbs<2 ^ 200:=by omega
  have:=(Nat.log2_lt (show j.natAbs≠0 by omega)).mpr h1;omega
theorem Cp {X:Cx}:OpR X (binaryOp .FloorDiv) (rI SY λ i j=> .int (i / j)):=opI λ i j _ _ _ _ _ hc q=>by
  rw [<-Int.fdiv_eq_ediv_of_nonneg i (by have:=hc.1;omega)] at q;exact floordiv_int (by have:=hc.1;omega) q (.inl (PyProof.noPylong_of_log2 (KR hc.1 hc.2)))
section
variable {prog:Program} {w:World} {A:Around} {E:Value->Shared->Prop} {s:Shared} {T:String} {r d:Addr} {n:Nat} {P:Nat->Value->Prop} {St:Nat->Heap->Prop}
end
section
variable {prog:Program} {w:World} {A:Around} {E:Value->Shared->Prop} {s:Shared}
end
section
variable {X:Cx} {K:PySem.W.Frag} {e o:Expr} {ta:TA} {to:TE} {p p2 pos pos2 apos cpos:Pos}
end
section
variable {X:Cx} {K:PySem.W.Frag} {e o:Expr} {es:List Expr} {ta to:TE} {t:TA} {f name:Str} {pos apos cpos:Pos} {T id:String} {r:V->List V->Hp->VK->Prop}
theorem Ex (he:PE X e ta) (hb:attributeBase e f X.env (eval e X.env)=eval e X.env) (hK:X.K=K:=by rfl):PE X (.Attribute e f pos) (Px K ta f):=by
  subst hK;exact Pm he hb
theorem Tc (pa:PlainAttrs T) (slot:Slot T name id) (hty:typeOf (.builtin id)=pure (.type "method_descriptor")) (hm:MtR X id r) (ho:PE X o to) (ha:PA X (e::es) t) (hK:X.K=K:=by rfl)
    (hbase:attributeBase o name X.env (eval o X.env)=eval o X.env:=by rfl)
    (hfew:((backTo cpos (starEach (e::es) X.env)).all (λ x=> !x.1)&&(backToKw cpos (keywordEach [] X.env)).all (λ x=>x.1.isSome)
      && decide ((e::es).length+([]:List Keyword).length+(if ([]:List Keyword).isEmpty then 0 else 1)<30))=true:=by rfl)
    (hline:(apos.endLine == cpos.line)=true:=by rfl) (hs:starEach (e::es) X.env=(false,eval e X.env)::starEach es X.env:=by rfl) (hplain:(backTo cpos (starEach es X.env)).any (·.1)=false:=by rfl):
    PE X (.Call (.Attribute o name apos) (e::es) [] cpos) (tBM K T r to t):=by
  subst hK;exact Ts pa slot hty hm ho ha hbase hfew hline hs hplain
end
section
variable {prog:Program} {w:World} {A:Around} {E:Value->Shared->Prop} {s:Shared}
end
section
variable {X:Cx} {K:PySem.W.Frag} {e o:Expr} {ta:TA} {to:TE} {p p2 pos pos2 apos cpos:Pos}
end
def P0 (P:Program) (w:World) (K:PySem.W.Frag) (mg:Str->Option Value) (base:Heap) (k:Nat) (f:Addr) (sp:Sp):Prop:=
  ∃ fd ps,PySem.W.keepIn K (.ref f)=true/\FnOk P w K mg base CX0 k f fd ps sp/\Binds K fd ps []
theorem CallF.val {P:Program} {w:World} {K:PySem.W.Frag} {mg:Str->Option Value} {base:Heap} {x:Str} {k:Nat} {ps:List Str} {sp:Sp} (h:CallF P w K mg base x k ps sp):∃ f,mg x=some (.ref f)/\P0 P w K mg base k f sp:=
  let ⟨f,fd,hm,hk,F,hb⟩:=h;⟨f,hm,fd,ps,hk,F,hb⟩
section
variable {X:Cx} {k:Nat} {e o:Expr} {es:List Expr} {t:TA} {to:TE} {pos:Pos} {S:Addr->Sp->Prop}
end
theorem arg1 {α:Type} {P:List α->Prop} (h:∀ a0,P [a0]):∀ us:List α,us.length=1->P us:=λ us hl=>match us,hl with | [a0],_=>h a0
theorem arg2 {α:Type} {P:List α->Prop} (h:∀ a0 a1,P [a0,a1]):∀ us:List α,us.length=2->P us:=λ us hl=>match us,hl with | [a0,a1],_=>h a0 a1
theorem arg3 {α:Type} {P:List α->Prop} (h:∀ a0 a1 a2,P [a0,a1,a2]):∀ us:List α,us.length=3->P us:=λ us hl=>match us,hl with | [a0,a1,a2],_=>h a0 a1 a2
theorem arg4 {α:Type} {P:List α->Prop} (h:∀ a0 a1 a2 a3,P [a0,a1,a2,a3]):∀ us:List α,us.length=4->P us:=λ us hl=>match us,hl with | [a0,a1,a2,a3],_=>h a0 a1 a2 a3
theorem arg5 {α:Type} {P:List α->Prop} (h:∀ a0 a1 a2 a3 a4,P [a0,a1,a2,a3,a4]):∀ us:List α,us.length=5->P us:=λ us hl=>match us,hl with | [a0,a1,a2,a3,a4],_=>h a0 a1 a2 a3 a4
theorem arg6 {α:Type} {P:List α->Prop} (h:∀ a0 a1 a2 a3 a4 a5,P [a0,a1,a2,a3,a4,a5]):∀ us:List α,us.length=6->P us:=λ us hl=>match us,hl with | [a0,a1,a2,a3,a4,a5],_=>h a0 a1 a2 a3 a4 a5
theorem arg7 {α:Type} {P:List α->Prop} (h:∀ a0 a1 a2 a3 a4 a5 a6,P [a0,a1,a2,a3,a4,a5,a6]):∀ us:List α,us.length=7->P us:=λ us hl=>match us,hl with | [a0,a1,a2,a3,a4,a5,a6],_=>h a0 a1 a2 a3 a4 a5 a6
theorem arg8 {α:Type} {P:List α->Prop} (h:∀ a0 a1 a2 a3 a4 a5 a6 a7,P [a0,a1,a2,a3,a4,a5,a6,a7]):∀ us:List α,us.length=8->P us:=λ us hl=>match us,hl with | [a0,a1,a2,a3,a4,a5,a6,a7],_=>h a0 a1 a2 a3 a4 a5 a6 a7
theorem arg9 {α:Type} {P:List α->Prop} (h:∀ a0 a1 a2 a3 a4 a5 a6 a7 a8,P [a0,a1,a2,a3,a4,a5,a6,a7,a8]):∀ us:List α,us.length=9->P us:=λ us hl=>match us,hl with | [a0,a1,a2,a3,a4,a5,a6,a7,a8],_=>h a0 a1 a2 a3 a4 a5 a6 a7 a8
structure BlkScopeC (X:Cx) (scope:Scope) (cx:Str) (own:List Str) (fr:List (Str × Nat)):Prop where
  kind:scope.kind= .function
  onec:∀ y∈scope.names,y.2= .cell->y.1=cx
  isc:scope.names.lookup cx=some .cell
  lay:∀ n cl,cellsFrom n scope.names cl=(cx,n)::cl
  push:∀ h:Heap,pushCells h scope.names=h.push { cls:= .type "cell",data:= .cell none }
  loc:∀ y∈scope.names,y.2= .local->scope.names.lookup y.1=some .local
  free:∀ y∈scope.names,y.2= .free->(X.env.scope.names.lookup y.1=some .cell\/X.env.scope.names.lookup y.1=some .free)
  fr:∀ p∈fr,X.N[p.2]?=some p.1/\(p.1,NameKind.free)∈scope.names
  only:∀ x,(x,NameKind.free)∈scope.names->scope.names.lookup x=some .free
section
variable {X:Cx} {pins:List (Addr × Obj)} {σ:St} {H:Hp} {s:Shared} {scope:Scope} {cx:Str} {own:List Str} {fr:List (Str × Nat)} {fp:List Addr}
end
section
variable {X:Cx}
end
section
variable {X:Cx} {scope:Scope} {cx:Str} {own:List Str} {fr:List (Str × Nat)}
end
section
variable {X:Cx} {K:PySem.W.Frag} {scope:Scope} {fr:List (Str × Nat)}
end
section
variable {X:Cx} {e o:Expr} {es:List Expr} {t:TA} {to:TE} {pos:Pos} {S:Addr->Sp->Prop}
end
section
variable {X:Cx} {K:PySem.W.Frag}
end
theorem OL {i j:Nat} {ta:TA} {D:Ends} {σ:St} {H:Hp} (h:ta σ H λ vs H1=>∃ v w,vs=[v,w]/\D.nx ((σ.set i (some v)).set j (some w)) H1):RX i j ta D σ H:=h
theorem ON {x y:V} {R:V->V->Prop} (h:R x y):∃ v w,[x,y]=[v,w]/\R v w:=⟨x,y,rfl,h⟩
end L2
namespace HT
open PySem PySem.Spec PyProof.Rows
variable {prog:Program} {w:World} {A:Around} {E:Value->Shared->Prop} {s:Shared}
end HT
namespace L2
open PySem PySem.Spec PyProof.Rows
theorem KA (as bs:List Str):De (as.map V.str) (bs.map V.str)=decide (as=bs):=by
  rw [Bool.eq_iff_iff,decide_eq_true_iff];unfold De;simp only [Bool.and_eq_true,beq_iff_eq,List.length_map,List.all_eq_true,List.mem_range];constructor
  · rintro ⟨h1,h2⟩;refine List.ext_getElem h1 λ i ha hb=> ?_;have h3:=h2 i ha;rw [F4 (by simpa using ha),F4 (by simpa using hb)] at h3;have h4:(as.getD i Str.empty == bs.getD i Str.empty)=true:=h3;rw [beq_iff_eq,JY ha,JY hb] at h4;exact h4
  · rintro rfl;refine ⟨rfl,λ i hi=> ?_⟩;rw [F4 (by simpa using hi)];show (as.getD i Str.empty == as.getD i Str.empty)=true;rw [beq_iff_eq]
theorem NJ {K:PySem.W.Frag} {H:Hp} {Q:VK} {l p:Addr} {as bs:List Str} (c:SqL K H l (as.map V.str)) (d:SqL K H p (bs.map V.str)) (h:Q (.bl (decide (as=bs))) H):IU K false (.ref l) (.ref p) H Q:=
  ⟨l,p,_,_,rfl,rfl,c,d,by simp [Bu],by simp [Bu],by rw [KA];exact h⟩
theorem Lf {td ty tx:TE} {σ:St} {H:Hp} {Q:VK} (h:td σ H λ x H1=>∃ a,x= .ref a/\IsD H1 a/\ty σ H1 λ y H2=>tx σ H2 λ z H3=>∃ o,DGet H3 a y o/\Q (o.getD z) H3):LE td ty tx σ H Q:=h
def DK {α:Type}:Sem α->Prop
  | .rule _ k=>DK (k ())
  | .at _ k=>DK (k ())
  | .load _ _ k=>∀ o,DK (k o)
  | .update _ _ f k=>(∀ o,(f o).dict=o.dict)/\DK (k ())
  | .loadIfAlive _ k=>∀ o,DK (k o)
  | .point _ k=>DK (k ())
  | .alloc _ k=>∀ a,DK (k a)
  | .fresh k=>∀ t,DK (k t)
  | .ask k=>∀ t,DK (k t)
  | .choose _ _ k=>∀ t,DK (k t)
  | .os _ _ k=>∀ t,DK (k t)
  | .call .. => False
  | .handled _ k=>∀ t,DK (k t)
  | .genState _ k=>∀ t,DK (k t)
  | .newGen _ k=>∀ t,DK (k t)
  | .resume .. => False
  | .stack k=>∀ t,DK (k t)
  | .thread k=>∀ t,DK (k t)
  | _=>True
def KD (h h':Heap):Prop:=∀ (b:Nat) (o:Obj),h.objs[b]?=some o->∃ o',h'.objs[b]?=some o'/\o'.dict=o.dict
theorem KD.refl (h:Heap):KD h h:=λ b o e=>⟨o,e,rfl⟩
theorem KD.trans {h h1 h2:Heap} (a:KD h h1) (b:KD h1 h2):KD h h2:=λ c o e=>by
  obtain ⟨o1,e1,d1⟩:=a c o e;obtain ⟨o2,e2,d2⟩:=b c o1 e1;exact ⟨o2,e2,d2.trans d1⟩
theorem Ll {h:Heap} {b:Addr} {o:Obj} (e:h.get? b=some o):h.objs[b]?=some o:=by
  unfold Heap.get? at e;split at e
  · cases e
  · exact e
theorem KD.at' {h h':Heap} (k:KD h h') {b:Addr} {o o':Obj} (e:h.get? b=some o) (e':h'.get? b=some o'):o'.dict=o.dict:=by
  obtain ⟨o1,e1,d1⟩:=k b o (Ll e);rw [Ll e'] at e1;cases e1;exact d1
theorem KD.push (h:Heap) (o:Obj):KD h (h.push o):=λ b u e=>by
  refine ⟨u,?_,rfl⟩;show (h.objs.push o)[b]?=some u;have hb:b<h.objs.size:=(Array.getElem?_eq_some_iff.mp e).1;rw [Array.getElem?_push_lt hb];rw [Array.getElem?_eq_getElem hb] at e;exact e
theorem KD.upd (h:Heap) (a:Addr) {f:Obj->Obj} (hf:∀ o,(f o).dict=o.dict):KD h (h.update a f):=λ b u e=>by
  have hb:b<h.objs.size:=(Array.getElem?_eq_some_iff.mp e).1;show ∃ o',(h.objs.modify a f)[b]?=some o'/\_;rw [Array.getElem?_modify,e];by_cases q:a=b
  · rw [if_pos q];exact ⟨f u,rfl,hf u⟩
  · rw [if_neg q];exact ⟨u,rfl,rfl⟩
theorem S3 {α:Type} {M:Model} {Γ:PySem.Ctx}:∀ (t:Sem α) (Q:α->Pos->Shared->Prop) (E:Value->Pos->Shared->Prop) (p:Pos) (s s0:Shared),DK t->KD s0.heap s.heap->Sem.wp M Γ t Q E p s->
    Sem.wp M Γ t (λ a p s'=>Q a p s'/\KD s0.heap s'.heap) (λ a p s'=>E a p s'/\KD s0.heap s'.heap) p s:=by
  intro t
  induction t with
  | pure a=>intro Q E p s s0 _ k h;rw [Sem.wp] at h ⊢;exact ⟨h,k⟩
  | raise e=>intro Q E p s s0 _ k h;rw [Sem.wp] at h ⊢;exact ⟨h,k⟩
  | unsupported w=>intro Q E p s s0 _ k h;rw [Sem.wp] at h;exact h.elim
  | finish e=>intro Q E p s s0 _ k h;rw [Sem.wp] at h;exact h.elim
  | rule t k ih=>intro Q E p s s0 d k h;rw [Sem.wp] at h ⊢;exact ih () Q E p s s0 d k h
  | «at» t k ih=>intro Q E p s s0 d k h;rw [Sem.wp] at h ⊢;exact ih () Q E _ s s0 d k h
  | load a part k ih=>
    intro Q E p s s0 d k h;rw [Sem.wp] at h ⊢;obtain ⟨o,e,h⟩:=h;exact ⟨o,e,ih o Q E p s s0 (d o) k h⟩
  | update a part f k ih=>
    intro Q E p s s0 d k h;rw [Sem.wp] at h ⊢;exact ⟨h.1,ih () Q E p _ s0 d.2 (k.trans (KD.upd s.heap a d.1)) h.2⟩
  | alloc o k ih=>intro Q E p s s0 d k h;rw [Sem.wp] at h ⊢;exact ih _ Q E p _ s0 (d _) (k.trans (KD.push _ _)) h
  | loadIfAlive a k ih=>intro Q E p s s0 d k h;rw [Sem.wp] at h ⊢;exact ih _ Q E p _ s0 (d _) k h
  | point l k ih=>intro Q E p s s0 d k h;rw [Sem.wp] at h ⊢;exact ih _ Q E p _ s0 d k h
  | register a k ih=>intro Q E p s s0 d k h;rw [Sem.wp] at h;exact h.elim
  | fresh k ih=>intro Q E p s s0 d k h;rw [Sem.wp] at h ⊢;exact ih _ Q E p _ s0 (d _) k h
  | ask k ih=>intro Q E p s s0 d k h;rw [Sem.wp] at h ⊢;exact ih _ Q E p _ s0 (d _) k h
  | choose a n k ih=>intro Q E p s s0 d k h;rw [Sem.wp] at h ⊢;exact ⟨h.1,ih _ Q E p _ s0 (d _) k h.2⟩
  | os a n k ih=>intro Q E p s s0 d k h;rw [Sem.wp] at h ⊢;exact ih _ Q E p _ s0 (d _) k h
  | call c a b l k ih=>intro Q E p s s0 d k h;exact d.elim
  | handled a k ih=>intro Q E p s s0 d k h;rw [Sem.wp] at h ⊢;exact ih _ Q E p _ s0 (d _) k h
  | newGen c k ih=>intro Q E p s s0 d k h;rw [Sem.wp] at h ⊢;exact ih _ Q E p _ s0 (d _) k h
  | genState g k ih=>
    intro Q E p s s0 d k h;rw [Sem.wp] at h ⊢;obtain ⟨st,e,h⟩:=h;exact ⟨st,e,ih _ Q E p s s0 (d _) k h⟩
  | resume g r l k ih=>intro Q E p s s0 d k h;exact d.elim
  | yield v g l k ih=>intro Q E p s s0 d k h;rw [Sem.wp] at h;exact h.elim
  | stack k ih=>intro Q E p s s0 d k h;rw [Sem.wp] at h ⊢;exact ih _ Q E p _ s0 (d _) k h
  | fork c k ih=>intro Q E p s s0 d k h;rw [Sem.wp] at h;exact h.elim
  | thread k ih=>intro Q E p s s0 d k h;rw [Sem.wp] at h ⊢;exact ih _ Q E p _ s0 (d _) k h
  | await a t b l k ih=>intro Q E p s s0 d k h;rw [Sem.wp] at h;exact h.elim
theorem Dm {α:Type} {M:Model} {A:Around} {t:Sem α} {Q:α->Shared->Prop} {E:Value->Shared->Prop} {s:Shared} (d:DK t) (h:wpAny M A t Q E s):wpAny M A t (λ a s'=>Q a s'/\KD s.heap s'.heap) (λ e s'=>E e s'/\KD s.heap s'.heap) s:=
  λ Γ p hΓ=>S3 t _ _ p s s d (KD.refl _) (h Γ p hΓ)
theorem DK.bind {α β:Type} {f:α->Sem β}:∀ {t:Sem α},DK t->(∀ a,DK (f a))->DK (t >>= f):=by
  intro t;show _->_->DK (Sem.bind t f)
  induction t with
  | pure a=>intro _ h;exact h a
  | raise e=>intro _ _;trivial
  | unsupported w=>intro _ _;trivial
  | finish e=>intro _ _;trivial
  | rule t k ih=>intro d h;exact ih () d h
  | «at» t k ih=>intro d h;exact ih () d h
  | load a part k ih=>intro d h o;exact ih o (d o) h
  | update a part f k ih=>intro d h;exact ⟨d.1,ih () d.2 h⟩
  | alloc o k ih=>intro d h a;exact ih a (d a) h
  | loadIfAlive a k ih=>intro d h o;exact ih o (d o) h
  | point l k ih=>intro d h;exact ih () d h
  | register a k ih=>intro _ _;trivial
  | fresh k ih=>intro d h o;exact ih o (d o) h
  | ask k ih=>intro d h o;exact ih o (d o) h
  | choose a n k ih=>intro d h o;exact ih o (d o) h
  | os a n k ih=>intro d h o;exact ih o (d o) h
  | call c a b l k ih=>intro d h;exact d.elim
  | handled a k ih=>intro d h o;exact ih o (d o) h
  | newGen c k ih=>intro d h o;exact ih o (d o) h
  | genState g k ih=>intro d h o;exact ih o (d o) h
  | resume g r l k ih=>intro d h;exact d.elim
  | yield v g l k ih=>intro _ _;trivial
  | stack k ih=>intro d h o;exact ih o (d o) h
  | fork c k ih=>intro _ _;trivial
  | thread k ih=>intro d h o;exact ih o (d o) h
  | await a t b l k ih=>intro _ _;trivial
theorem AS {α:Type} (a:α):DK (pure a:Sem α):=trivial
theorem B9 {α:Type} (w:String):DK (unsupported w:Sem α):=trivial
theorem Hi (a:Addr):DK (load a):=λ _=>trivial
theorem Ie (v:Value):DK (fieldsOf v):=by
  unfold fieldsOf;split
  · refine DK.bind (Hi _) λ o=> ?_;split
    · exact AS _
    · exact B9 _
  · exact B9 _
theorem Es (v:Value) (i:Nat):DK (field v i):=by
  unfold field;refine DK.bind (Ie v) λ vs=> ?_;split
  · exact AS _
  · exact B9 _
theorem FY (f:Array Value->Array Value) (o:Obj):(Obj.mapFields f o).dict=o.dict:=by
  unfold Obj.mapFields;split <;> rfl
theorem GO (a:Addr) {f:Obj->Obj} (h:∀ o,(f o).dict=o.dict):DK (update a f):=⟨h,trivial⟩
theorem C3 (v:Value) (i:Nat) (x:Value):DK (setField v i x):=by
  unfold setField;split
  · unfold updateField;refine DK.bind (Hi _) λ o=> ?_;split
    · split
      · exact GO _ (FY _)
      · exact B9 _
    · exact B9 _
  · exact B9 _
theorem FU:DK (stack):=λ _=>trivial
theorem Dg {α:Type} {c:Prop} [Decidable c] {x y:Sem α} (hx:DK x) (hy:DK y):DK (if c then x else y):=by
  split
  · exact hx
  · exact hy
theorem CB (e:Value) (f:Option Addr):DK (setFlight e f):=by
  unfold setFlight;refine DK.bind (Es _ _) λ tb=> ?_;exact Dg (C3 _ _ _) (AS _)
theorem J4 (env:Env) (outer:List Env):DK (behindIsImport env outer):=by
  unfold behindIsImport;refine Dg (AS _) (Dg (AS _) ?_);exact DK.bind (Es _ _) λ _=>AS _
theorem ME (env:Env) (i:Bool) (l:List Env):DK (keptBack env i l):=by
  unfold keptBack;split
  · refine Dg (AS _) ?_;unfold underTheClaimsCaller;exact DK.bind (DK.bind FU λ _=>AS _) λ _=>AS _
  · exact AS _
theorem Iu:∀ l:List Env,DK (readyFrames l)
  | []=>trivial
  | env::outer=>by
    unfold readyFrames;split
    · refine DK.bind (Hi _) λ o=> ?_;refine Dg (AS _) ?_;refine DK.bind (J4 _ _) λ _=>DK.bind (ME _ _ _) λ _=>DK.bind (GO _ λ _=>rfl) λ _=>Iu outer
    · exact B9 _
theorem IP (env:Env):DK (PySem.frameOf env):=by
  unfold PySem.frameOf;refine DK.bind ?_ λ _=>DK.bind ?_ λ o=> ?_
  · unfold frameEnvs;exact DK.bind FU λ _=>AS _
  · unfold frameObject;split
    · exact AS _
    · exact DK.bind (Iu _) λ _=>AS _
  · split
    · exact AS _
    · exact B9 _
theorem Hk (ty:String) (vs:List Value):DK (newFields ty vs):=by
  unfold newFields newObj;have hj:DK (newObjAsIs (.type ty) (.fields vs.toArray)):=by
    unfold newObjAsIs;exact λ _=>trivial
  exact Dg (DK.bind (B9 _) λ _=>hj) hj
theorem LA (f:Addr) (b:Bool):DK (entryPlaceOf f b):=by
  unfold entryPlaceOf;refine DK.bind FU λ _=> ?_;split
  · exact AS _
  · exact AS _
theorem JV (e:Value) (env:Env):DK (noteFrame e env):=by
  unfold noteFrame;split
  · rename_i f _
    refine DK.bind (Es _ _) λ head=> ?_;have hj:DK (do
        let fr <-PySem.frameOf env;let pl <-entryPlaceOf f (head != Value.none);let b <-EntryCells.newEntry head fr Value.none (rawInt f) Value.none pl
        setField e 1 b):=DK.bind (IP env) λ _=>DK.bind (LA _ _) λ _=>DK.bind (Hk _ _) λ _=>C3 _ _ _
    refine Dg (DK.bind (Es _ _) λ _=>Dg (AS _) (DK.bind (C3 _ _ _) λ _=>hj)) hj
  · exact B9 _
theorem FQ (env:Env) (e:Value):DK (leaving env e):=by
  unfold leaving;exact DK.bind (JV _ _) λ _=>CB _ _
section
variable {M:Model} {A:Around} {E:Value->Shared->Prop} {s:Shared}
theorem IH {base:Heap} {env:Env} {outer:List Env} {L e:Addr} {cls a0:Value} {Q:Unit->Shared->Prop} (hfr:A.frames=some (env::outer)) (hf:env.frame=some L) (hfl:Heap.FlyingW base (env::outer) e cls a0 s.heap)
    (hQ:∀ h',Heap.FlyingW base outer e cls a0 h'->s.heap.UpToSlots h'->KD s.heap h'->Q () { s with heap:=h' }):wpAny M A (leaving env (.ref e)) Q E s:=
  wpAny_mono (Dm (FQ env (.ref e)) (wpAny_leaves_onW (Q:=λ _ s'=>∃ h',s'={ s with heap:=h' }/\Heap.FlyingW base outer e cls a0 h'/\s.heap.UpToSlots h') hfr hf hfl λ h' a b=>⟨h',rfl,a,b⟩))
    (λ _ _ ⟨⟨h',e,a,b⟩,k⟩=>by subst e;exact hQ h' a b k) λ _ _ z=>z.1
theorem Hm {base h:Heap} {env:Env} {outer:List Env} {L e:Addr} {cls:Value} {args:List Value} {Q:Unit->Shared->Prop}
    (hfr:A.frames=some (env::outer)) (hf:env.frame=some L) (hkb:base.StaysIn h) (hl:h.FunFrames base (env::outer)) (hx:Heap.MadeExcOf h s.heap e cls args)
    (hQ:∀ h' t,Heap.FlyingW base outer e cls (.ref t) h'->s.heap.UpToSlots h'->KD s.heap h'->Q () { s with heap:=h' }):wpAny M A (leaving env (.ref e)) Q E s:=
  wpAny_mono (Dm (FQ env (.ref e)) (wpAny_leaves_madeW (Q:=λ _ s'=>∃ h' t,s'={ s with heap:=h' }/\Heap.FlyingW base outer e cls (.ref t) h'/\s.heap.UpToSlots h') hfr hf hkb hl hx λ h' t a _ _ b=>⟨h',t,rfl,a,b⟩))
    (λ _ _ ⟨⟨h',t,e,a,b⟩,k⟩=>by subst e;exact hQ h' t a b k) λ _ _ z=>z.1
theorem Kj {base:Heap} {env:Env} {outer:List Env} {L e:Addr} {cls a0:Value} {Q:Unit->Shared->Prop} (hfr:A.frames=some (env::outer)) (hf:env.frame=some L) (hfl:Heap.FlyingW base (env::outer) e cls a0 s.heap)
    (hQ:∀ h',Heap.HeldW base (env::outer) e cls a0 L h'->s.heap.UpToSlots h'->KD s.heap h'->Q () { s with heap:=h' }):wpAny M A (noteFrame (.ref e) env) Q E s:=
  wpAny_mono (Dm (JV (.ref e) env) (wpAny_looks_onW (Q:=λ _ s'=>∃ h',s'={ s with heap:=h' }/\Heap.HeldW base (env::outer) e cls a0 L h'/\s.heap.UpToSlots h') hfr hf hfl λ h' a b=>⟨h',rfl,a,b⟩))
    (λ _ _ ⟨⟨h',e,a,b⟩,k⟩=>by subst e;exact hQ h' a b k) λ _ _ z=>z.1
theorem O4 {base:Heap} {l:List Env} {e L:Addr} {cls a0:Value} {Q:Unit->Shared->Prop} (hh:Heap.HeldW base l e cls a0 L s.heap)
    (hQ:∀ h',Heap.FlyingW base l e cls a0 h'->s.heap.UpToSlots h'->KD s.heap h'->Q () { s with heap:=h' }):wpAny M A (setFlight (.ref e) none) Q E s:=
  wpAny_mono (Dm (CB (.ref e) none) (wpAny_landsW (Q:=λ _ s'=>∃ h',s'={ s with heap:=h' }/\Heap.FlyingW base l e cls a0 h'/\s.heap.UpToSlots h') hh λ h' a b=>⟨h',rfl,a,b⟩))
    (λ _ _ ⟨⟨h',e,a,b⟩,k⟩=>by subst e;exact hQ h' a b k) λ _ _ z=>z.1
theorem MJ {base:Heap} {l:List Env} {e:Addr} {cls a0 fl:Value} {Q:Unit->Shared->Prop} (hkb:base.StaysIn s.heap) (hl:s.heap.FunFrames base l) (ht:s.heap.TracedAtW base e cls a0 fl)
    (h:∀ h',base.StaysIn h'->h'.FunFrames base l->h'.TracedW base e cls a0->(∀ b o,s.heap.get? b=some o->(∀ vs,o.data≠ .fields vs)->h'.get? b=some o)->KD s.heap h'->Q () { s with heap:=h' }):
    wpAny M A (setFlight (.ref e) none) Q E s:=
  wpAny_mono (Dm (CB (.ref e) none) (wpAny_setFlight_noneW (Q:=λ _ s'=>∃ h',s'={ s with heap:=h' }/\base.StaysIn h'/\h'.FunFrames base l/\h'.TracedW base e cls a0/\∀ b o,s.heap.get? b=some o->(∀ vs,o.data≠ .fields vs)->h'.get? b=some o) hkb hl ht λ h' a b c d=>⟨h',rfl,a,b,c,d⟩))
    (λ _ _ ⟨⟨h',e,a,b,c,d⟩,k⟩=>by subst e;exact h h' a b c d k) λ _ _ z=>z.1
def DictIs (h:Heap) (a:Addr) (od:Option Addr):Prop:=∃ o,h.get? a=some o/\o.dict=od
theorem DictIs.on {h h':Heap} {a:Addr} {od:Option Addr} (x:DictIs h a od) (k:KD h h') (t:∃ o,h'.get? a=some o):DictIs h' a od:=by
  obtain ⟨o,e,d⟩:=x;obtain ⟨o',e'⟩:=t;exact ⟨o',e',(k.at' e e').trans d⟩
end
theorem HOk.on {P:Program} {w:World} {H:Hp} {h h':Heap} (x:HOk P w H h) (k:∀ b u,H b≠none->h.get? b=some u->h'.get? b=some u):HOk P w H h':=λ a o e=>
  (x a o e).stay (λ b u hb q=>k b u (by
    rcases hb with rfl | hb
    · rw [e];exact λ z=>by cases z
    · rw [hb];exact λ z=>by cases z) q) (λ _ q=>q) λ _ _ q=>q
theorem FH {P:Program} {w:World} {H:Hp} {h:Heap} {a:Addr} {o:HO} (x:ObjOk P w H h a o):∃ u,h.get? a=some u:=by
  cases o with
  | lst xs=>obtain ⟨_,_,_,_,e⟩:=x;exact ⟨_,e⟩
  | tup xs=>obtain ⟨_,_,_,o,e,_⟩:=x;exact ⟨_,e⟩
  | dK kvs=>obtain ⟨_,_,_,_,o,_,_,e,_⟩:=x;exact ⟨_,e⟩
  | dT kvs=>obtain ⟨_,_,_,_,o,_,_,e,_⟩:=x;exact ⟨_,e⟩
  | set S n=>obtain ⟨o,_,_,_,e,_⟩:=x;exact ⟨_,e⟩
  | ins C dx fs=>obtain ⟨_,_,_,e,_⟩:=x;exact ⟨_,e⟩
  | own y=>exact x
  | xd fs=>obtain ⟨_,⟨_,_,_,e,_⟩,_⟩:=x;exact ⟨_,e⟩
  | rng lo hi=>obtain ⟨_,_,_,e⟩:=x;exact ⟨_,e⟩
  | frz ob u=>obtain ⟨e,_⟩:=x;exact ⟨_,e⟩
  | tbl ps=>exact ⟨_,(show h.get? a=some _ from x)⟩
  | met f y=>exact ⟨_,(show h.get? a=some _ from x)⟩
  | ext φ=>obtain ⟨_,e,_⟩:=x;exact e
def Sd (outer:List Env) (s:Shared) (H':Hp) (a C t:Addr) (s':Shared):Prop:=
  ∃ B:Heap,B.FlyingW outer a (.ref C) (.ref t) s'.heap/\∀ b,(H' b≠none\/∃ o,s.heap.get? b=some o)->b∉frs outer->∀ o,s'.heap.get? b=some o->B.get? b=some o
def CXE (P:Program) (w:World):CXT:=λ outer H s E e s'=>
  ∃ a C t od H',e= .ref a/\s'.os=s.os/\AllBare s'.gens/\Un (frs outer) [] H H' s.heap s'.heap/\HOk P w H' s'.heap/\Sd outer s H' a C t s'/\DictIs s'.heap a od/\E (.ref C) od H'
theorem EE {env:Env} {L:Addr} {outer:List Env} (h:env.frame=some L):frs (env::outer)=L::frs outer:=by
  unfold frs;rw [List.filterMap_cons,h]
theorem Bi {h base:Heap}:∀ {l:List Env} {b:Addr},h.FunFrames base l->b∈frs l->base.get? b=none/\∃ o,h.get? b=some o/\∀ vs,o.data≠ .fields vs
  | [],b,_,hb=>by cases hb
  | env::l,b,⟨_,⟨L,o,e1,e2,e3,e4⟩,r⟩,hb=>by
    rw [EE e1] at hb;rcases List.mem_cons.mp hb with rfl | hb
    · exact ⟨e2,o,e3,e4⟩
    · exact Bi r hb
theorem Kh {P:Program} {w:World} {K:PySem.W.Frag} {mg:Str->Option Value} {base:Heap} {N:List Str} {qual:Str} {scope:Scope} {f:Addr} {cd:Value} {A:Around} {outer:List Env} {s₀:Shared} {H₀:Hp} {E E':XK}
    (hE:∀ c o H,E c o H->E' c o H):Bs (CXE P w) (C0 (CXE P w) P w K mg base N qual scope f cd A outer s₀ H₀ E') E:=by
  intro pins σ H s e s' I h;obtain ⟨a,C,t,od,H',rfl,os,bare,un,hok,⟨B,fl,cov⟩,di,q⟩:=h;have hfr:(envOfC qual scope s₀.heap.objs.size f cd).frame=some s₀.heap.objs.size:=rfl;have hfs:frs (envOfC qual scope s₀.heap.objs.size f cd::outer)=s₀.heap.objs.size::frs outer:=EE hfr;refine IH I.ok.frames hfr fl λ h' fl' ups kd=> ?_;have ib:Un (frs outer) [] H₀ H s₀.heap s.heap:=I.base;have nl:∀ b o,s₀.heap.get? b=some o->b≠s₀.heap.objs.size:=λ b o e=>Nat.ne_of_lt (Heap.lt_size e);have toB:∀ b,(H' b≠none\/∃ o,s.heap.get? b=some o)->b∉frs (envOfC qual scope s₀.heap.objs.size f cd::outer)->∀ o,s'.heap.get? b=some o->h'.get? b=some o:=λ b hb hn o e=>fl'.1 b o (cov b hb hn o e);have untr:∀ b,b∈frs (envOfC qual scope s₀.heap.objs.size f cd::outer)->H' b=none:=λ b hb=>by
    obtain ⟨_,o,e,_⟩:=Bi I.stack hb;exact un.free b o e (I.stkFree b hb) (by simp)
  have hok':HOk P w H' h':=hok.on λ b u hb e=>by
    refine toB b (.inl hb) (λ z=>hb (untr b z)) u e
  refine ⟨a,C,t,od,H',rfl,os.trans I.os,bare,?_,hok',⟨B,fl',λ b hb hn o e=> ?_⟩,di.on kd (let ⟨o,e,_⟩:=fl'.there;⟨o,e⟩),hE _ _ _ q⟩
  · have notin:∀ b o,s₀.heap.get? b=some o->b∉frs outer->b∉frs (envOfC qual scope s₀.heap.objs.size f cd::outer):=λ b o e hn z=>by
      rw [hfs] at z;rcases List.mem_cons.mp z with z | z
      · exact nl b o e z
      · exact hn z
    have isin:∀ b,b∈frs outer->b∈frs (envOfC qual scope s₀.heap.objs.size f cd::outer):=λ b hb=>by rw [hfs];exact List.mem_cons_of_mem _ hb
    refine ⟨λ b o e hH hn _=> ?_,λ b o e hH hb _=> ?_,λ b o e hH _=> ?_,λ b o e _=> ?_,λ b xs e=>un.tups b xs (ib.tups b xs e),λ b o u e=>un.frzs b o u (ib.frzs b o u e),λ b ps e=> ?_⟩
    · have e1:=ib.keep b o e hH hn (by simp);exact toB b (.inr ⟨o,e1⟩) (notin b o e hn) o (un.keep b o e1 (ib.free b o e hH (by simp)) (notin b o e hn) (by simp))
    · obtain ⟨sl,e1⟩:=ib.slot b o e hH hb (by simp);obtain ⟨sl2,e2⟩:=un.slot b _ e1 (ib.free b o e hH (by simp)) (isin b hb) (by simp);obtain ⟨_,o',e',nf⟩:=Bi fl.2.2.1 (isin b hb);rw [e2] at e';cases e';obtain ⟨sl3,e3⟩:=ups b _ e2 nf;exact ⟨sl3,e3⟩
    · obtain ⟨o1,e1⟩:=ib.there b o e (by simp);exact un.free b o1 e1 (ib.free b o e hH (by simp)) (by simp)
    · obtain ⟨o1,e1⟩:=ib.there b o e (by simp);obtain ⟨o2,e2⟩:=un.there b o1 e1 (by simp);by_cases hb:b∈frs outer
      · obtain ⟨_,o',e',nf⟩:=Bi fl.2.2.1 (isin b hb);obtain ⟨sl3,e3⟩:=ups b _ e' nf;exact ⟨_,e3⟩
      · exact ⟨o2,toB b (.inr ⟨o1,e1⟩) (notin b o e hb) o2 e2⟩
    · obtain ⟨m1,e1⟩:=ib.tbls b ps e;obtain ⟨m2,e2⟩:=un.tbls b _ e1;exact ⟨m1++m2,by rw [e2,Array.append_assoc]⟩
  · have hn2:b∉frs (envOfC qual scope s₀.heap.objs.size f cd::outer):=λ z=>by
      have z0:=z;rw [hfs] at z;rcases List.mem_cons.mp z with z | z
      · rcases hb with hb | ⟨o1,e1⟩
        · exact hb (untr b z0)
        · exact nl b o1 e1 z
      · exact hn z
    obtain ⟨o2,e2,hb2⟩:∃ o2,s'.heap.get? b=some o2/\(H' b≠none\/∃ o,s.heap.get? b=some o):=by
      rcases hb with hb | ⟨o1,e1⟩
      · cases hx:H' b with
        | none=>exact absurd hx hb
        | some u=>
          obtain ⟨o2,e2⟩:=FH (hok b u hx);exact ⟨o2,e2, .inl (λ z=>by cases z)⟩
      · obtain ⟨o3,e3⟩:=ib.there b o1 e1 (by simp);obtain ⟨o2,e2⟩:=un.there b o3 e3 (by simp);exact ⟨o2,e2, .inr ⟨o3,e3⟩⟩
    have e3:=cov b hb2 hn2 o2 e2;have e4:=fl'.1 b o2 e3;rw [show h'.get? b=some o from e] at e4;cases e4;exact e3
end L2
namespace MSort
open PySem.W PyProof.Rows
def KP (lt:Nat->Nat->Bool) (n:Nat) {α:Type}:KasT α->(α->Prop)->Prop
  | .ret a,Q=>Q a
  | .ask i j k,Q=>i<n/\j<n/\KP lt n (k (lt i j)) Q
theorem JZ {lt:Nat->Nat->Bool} {n:Nat} {α β:Type} {f:α->KasT β} {Q:β->Prop}:∀ (t:KasT α),KP lt n t (λ a=>KP lt n (f a) Q)->KP lt n (t.bind f) Q
  | .ret _,h=>h
  | .ask i j k,h=>⟨h.1,h.2.1,JZ (k (lt i j)) h.2.2⟩
theorem JA {lt:Nat->Nat->Bool} {n:Nat} {α:Type} {Q Q':α->Prop} (hq:∀ a,Q a->Q' a):∀ (t:KasT α),KP lt n t Q->KP lt n t Q'
  | .ret a,h=>hq a h
  | .ask i j k,h=>⟨h.1,h.2.1,JA hq (k (lt i j)) h.2.2⟩
structure Ok (n:Nat) (p:Array Nat):Prop where
  size:p.size=n
  perm:p.toList.Perm (List.range n)
theorem Ok.lt {n:Nat} {p:Array Nat} (h:Ok n p) {i:Nat} (hi:i<n):p.getD i 0<n:=by
  have hi':i<p.size:=by rw [h.size];exact hi
  have e:p.getD i 0=p[i]:=by simp [Array.getD,hi']
  rw [e];have:=h.perm.mem_iff.mp (Array.mem_toList_iff.mpr (Array.getElem_mem hi'));exact List.mem_range.mp this
theorem Ok.inj {n:Nat} {p:Array Nat} (h:Ok n p) {i j:Nat} (hi:i<n) (hj:j<n) (e:p.getD i 0=p.getD j 0):i=j:=by
  have hi':i<p.size:=by rw [h.size];exact hi
  have hj':j<p.size:=by rw [h.size];exact hj
  have e1:p.getD i 0=p.toList[i]'(by simpa using hi'):=by simp [Array.getD,hi']
  have e2:p.getD j 0=p.toList[j]'(by simpa using hj'):=by simp [Array.getD,hj']
  rw [e1,e2] at e;have nd:p.toList.Nodup:=h.perm.symm.nodup List.nodup_range;exact (List.getElem_inj nd).mp e
theorem Ok.to {n:Nat} {p q:Array Nat} (h:Ok n p) (hq:q.Perm p):Ok n q:=
  ⟨hq.size_eq.trans h.size,(Array.perm_iff_toList_perm.mp hq).trans h.perm⟩
variable {r:Nat->Nat} {n:Nat} {p:Array Nat}
def K (r:Nat->Nat) (p:Array Nat) (i:Nat):Nat:=r (p.getD i 0)
def Inj (r:Nat->Nat) (n:Nat):Prop:=∀ i j,i<n->j<n->r i=r j->i=j
def L (r:Nat->Nat):Nat->Nat->Bool:=λ i j=>decide (r i<r j)
def Up (r:Nat->Nat) (p:Array Nat) (k:Nat):Prop:=∀ i j,i<j->j<k->K r p i<K r p j
theorem TL (hr:Inj r n) (o:Ok n p) {i j:Nat} (hi:i<n) (hj:j<n) (hij:i≠j):K r p i≠K r p j:=
  λ e=>hij (o.inj hi hj (hr _ _ (o.lt hi) (o.lt hj) e))
theorem Hh {p q:Array Nat} {i j:Nat} (h:p[i]?=q[j]?):p.getD i 0=q.getD j 0:=by
  have e:∀ (a:Array Nat) k,a.getD k 0=(a[k]?).getD 0:=λ a k=>by simp
  rw [e,e,h]
theorem HJ {src d:Nat} (hs:src<p.size) (hd:d<=src) (k:Nat):K r (bubble p src d) k=if k=src - d then K r p src else if src - d<k/\k<=src then K r p (k - 1) else K r p k:=by
  have e:=getElem?_bubble hs d hd k;unfold K;by_cases h1:k=src - d
  · rw [if_pos h1] at e ⊢;rw [Hh e]
  · rw [if_neg h1] at e ⊢;by_cases h2:src - d<k/\k<=src
    · rw [if_pos h2] at e ⊢;rw [Hh e]
    · rw [if_neg h2] at e ⊢;rw [Hh e]
theorem place (hr:Inj r n) (o:Ok n p) {k:Nat} (hk:k<n):∀ (f l h:Nat),h - l<=f->l<=h->h<=k->(∀ i,i<l->K r p i<K r p k)->(∀ i,h<=i->i<k->K r p k<K r p i)->Up r p k->
    KP (L r) n (kas_place p k f l h) (λ x=>x<=k/\(∀ i,i<x->K r p i<K r p k)/\(∀ i,x<=i->i<k->K r p k<K r p i))
  | 0,l,h,e,a,b,c,d,u=>⟨by omega,c,λ i h1 h2=>d i (by omega) h2⟩
  | f+1,l,h,e,a,b,c,d,u=>by
    show KP (L r) n (if l>=h then _ else _) _;by_cases g:l>=h
    · rw [if_pos g];exact ⟨by omega,c,λ i h1 h2=>d i (by omega) h2⟩
    · rw [if_neg g];have hmk:(l+h) / 2<k:=by omega
      refine ⟨o.lt hk,o.lt (by omega),?_⟩;show KP (L r) n (if L r (p.getD k 0) (p.getD ((l+h) / 2) 0)=true then _ else _) _;by_cases z:K r p k<K r p ((l+h) / 2)
      · rw [if_pos (show L r (p.getD k 0) (p.getD ((l+h) / 2) 0)=true from decide_eq_true z)];refine place hr o hk f l _ (by omega) (by omega) (by omega) c (λ i h1 h2=> ?_) u;by_cases e':i=(l+h) / 2
        · rw [e'];exact z
        · have:=u _ i (show (l+h) / 2<i by omega) h2;omega
      · rw [if_neg (show ¬ L r (p.getD k 0) (p.getD ((l+h) / 2) 0)=true from λ y=>z (of_decide_eq_true y))];have ne:=TL hr o hk (show (l+h) / 2<n by omega) (by omega);refine place hr o hk f _ h (by omega) (by omega) (by omega) (λ i h1=> ?_) d u;by_cases e':i=(l+h) / 2
        · rw [e'];omega
        · have:=u i _ (show i<(l+h) / 2 by omega) hmk;omega
theorem bin (hr:Inj r n):∀ (f k:Nat) (p:Array Nat),Ok n p->k+f=n->Up r p k->KP (L r) n (kas_bin f p k) (λ x=>Ok n x/\Up r x n)
  | 0,k,p,o,e,u=>⟨o,(show k=n by omega)▸u⟩
  | f+1,k,p,o,e,u=>by
    refine JZ _ (JA (λ l h=> ?_) _ (place hr o (k:=k) (by omega) k 0 k (by omega) (by omega) (Nat.le_refl _) (λ i h=>by omega) (λ i h1 h2=>by omega) u));obtain ⟨h1,h2,h3⟩:=h;have hs:k<p.size:=by rw [o.size];omega
    refine bin hr f (k+1) _ (o.to (bubble_perm _ _ _)) (by omega) ?_;intro i j hij hj;rw [HJ hs (by omega),HJ hs (by omega),show k - (k - l)=l by omega];by_cases a:i=l
    · rw [if_pos a,if_neg (by omega),if_pos (by omega)];exact h3 _ (by omega) (by omega)
    · rw [if_neg a];by_cases b:j=l
      · rw [if_pos b,if_neg (by omega)];exact h2 _ (by omega)
      · rw [if_neg b];by_cases c:l<i/\i<=k
        · rw [if_pos c,if_pos (by omega)];exact u _ _ (by omega) (by omega)
        · rw [if_neg c];by_cases d:l<j/\j<=k
          · rw [if_pos d];by_cases e:i<j - 1
            · exact u _ _ e (by omega)
            · omega
          · rw [if_neg d];exact u _ _ hij (by omega)
end MSort
namespace HT
open PySem PySem.Spec PyProof.Rows PySem.W
variable {prog:Program} {w:World} {A:Around} {E:Value->Shared->Prop} {s:Shared}
def RawD (d:Addr) (es:Array DictEntry) (ep:Nat) (h:Heap):Prop:=∃ o,h.get? d=some o/\o.ExactDict/\o.data= .dict es ep
theorem RawD.type {d:Addr} {es:Array DictEntry} {ep:Nat} (x:RawD d es ep s.heap):s.TypeIs (.ref d) "dict":=⟨_,x.choose_spec.1,x.choose_spec.2.1.1⟩
theorem RawD.to {d:Addr} {es:Array DictEntry} {ep:Nat} {h h':Heap} (x:RawD d es ep h) (k:∀ o,h.get? d=some o->h'.get? d=some o):RawD d es ep h':=⟨_,k _ x.choose_spec.1,x.choose_spec.2⟩
end HT
namespace HT
open PySem PySem.Spec PyProof.Rows PySem.W
variable {prog:Program} {w:World} {A:Around} {E:Value->Shared->Prop} {s:Shared}
def lexB (x:Str) (i:Int) (y:Str) (j:Int):Bool:=if x=y then decide (i<j) else decide (x.cps.toList<y.cps.toList)
end HT
namespace L2
open PySem PySem.Spec PyProof.Rows PySem.W
structure LexOk (rk:List Key->Nat) (ks:List (List Key)):Prop where
  shp:∀ k∈ks,∃ (x:Str) (i:Int),k=[.inr x, .inl i]
  inj:∀ k∈ks,∀ k'∈ks,rk k=rk k'->k=k'
  ord:∀ (x:Str) (i:Int) (y:Str) (j:Int),([.inr x, .inl i]:List Key)∈ks->([.inr y, .inl j]:List Key)∈ks->HT.lexB x i y j=decide (rk [.inr x, .inl i]<rk [.inr y, .inl j])
end L2
namespace L2
open PySem PySem.Spec PyProof.Rows
theorem Gr {h base B:Heap}:∀ {l:List Env},h.FunFrames base l->(∀ b∈frs l,B.get? b=none)->h.FunFrames B l
  | [],_,_=>trivial
  | env::l,⟨k,⟨L,o,e1,e2,e3,e4⟩,r⟩,hb=>by
    rw [EE e1] at hb;exact ⟨k,⟨L,o,e1,hb L (List.mem_cons_self ..),e3,e4⟩,Gr r λ b h'=>hb b (List.mem_cons_of_mem _ h')⟩
section
variable {P:Program} {w:World} {K:PySem.W.Frag} {mg:Str->Option Value} {base:Heap} {N:List Str} {qual:Str} {scope:Scope} {f:Addr} {cd:Value} {A:Around} {outer:List Env} {s₀:Shared} {H₀:Hp} {E:XK}
theorem KU {pins:List (Addr × Obj)} {σ:St} {H:Hp} {s:Shared} {e C:Addr} {vs:List Value} {h':Heap} (I:Inv (C0 (CXE P w) P w K mg base N qual scope f cd A outer s₀ H₀ E) pins σ H s) (mk:Heap.MadeExcOf s.heap h' e (.ref C) vs) (q:E (.ref C) none H):
    (C0 (CXE P w) P w K mg base N qual scope f cd A outer s₀ H₀ E).xe (.ref e) { s with heap:=h' }:=by
  have hfr:(envOfC qual scope s₀.heap.objs.size f cd).frame=some s₀.heap.objs.size:=rfl;have hfs:frs (envOfC qual scope s₀.heap.objs.size f cd::outer)=s₀.heap.objs.size::frs outer:=EE hfr;refine Hm (base:=PySem.W.hideAll s.heap (frs (envOfC qual scope s₀.heap.objs.size f cd::outer))) (h:=s.heap) I.ok.frames hfr (λ b o e=>PySem.W.of_hideAll _ e) (Gr I.stack λ b hb=>PySem.W.hideAll_none _ hb) mk λ h2 t fl ups kd=> ?_;have ib:Un (frs outer) [] H₀ H s₀.heap s.heap:=I.base;have nl:∀ b o,s₀.heap.get? b=some o->b≠s₀.heap.objs.size:=λ b o e=>Nat.ne_of_lt (Heap.lt_size e);have inB:∀ b o,s.heap.get? b=some o->b∉frs (envOfC qual scope s₀.heap.objs.size f cd::outer)->h2.get? b=some o:=λ b o e hn=>fl.1 b o (PySem.W.hideAll_get _ e hn);have notin:∀ b o,s₀.heap.get? b=some o->b∉frs outer->b∉frs (envOfC qual scope s₀.heap.objs.size f cd::outer):=λ b o e hn z=>by
    rw [hfs] at z;rcases List.mem_cons.mp z with z | z
    · exact nl b o e z
    · exact hn z
  have isin:∀ b,b∈frs outer->b∈frs (envOfC qual scope s₀.heap.objs.size f cd::outer):=λ b hb=>by rw [hfs];exact List.mem_cons_of_mem _ hb
  refine ⟨e,C,t,none,H,rfl,I.os,I.bare,?_,I.hok.on λ b u hb e=>inB b u e (λ z=>hb (I.stkFree b z)),⟨_,fl,λ b hb hn o e=> ?_⟩,DictIs.on (let ⟨_,e,_⟩:=mk.there;⟨_,e,rfl⟩) kd (let ⟨o,e,_⟩:=fl.there;⟨o,e⟩),q⟩
  · refine ⟨λ b o e hH hn _=> ?_,λ b o e hH hb _=> ?_,λ b o e hH _=>ib.free b o e hH (by simp),λ b o e _=> ?_,λ b xs e=>ib.tups b xs e,λ b o u e=>ib.frzs b o u e,λ b ps e=>ib.tbls b ps e⟩
    · exact inB b o (ib.keep b o e hH hn (by simp)) (notin b o e hn)
    · obtain ⟨sl,e1⟩:=ib.slot b o e hH hb (by simp);obtain ⟨_,o',e',nf⟩:=Bi I.stack (isin b hb);rw [e1] at e';cases e';obtain ⟨sl3,e3⟩:=ups b _ (mk.keeps b _ e1) nf;exact ⟨sl3,e3⟩
    · obtain ⟨o1,e1⟩:=ib.there b o e (by simp);by_cases hb:b∈frs outer
      · obtain ⟨_,o',e',nf⟩:=Bi I.stack (isin b hb);obtain ⟨sl3,e3⟩:=ups b _ (mk.keeps b _ e') nf;exact ⟨_,e3⟩
      · exact ⟨o1,inB b o1 e1 (notin b o e hb)⟩
  · have hn2:b∉frs (envOfC qual scope s₀.heap.objs.size f cd::outer):=λ z=>by
      rcases hb with hb | ⟨o1,e1⟩
      · exact hb (I.stkFree b z)
      · exact notin b o1 e1 hn z
    obtain ⟨o2,e2⟩:∃ o2,s.heap.get? b=some o2:=by
      rcases hb with hb | ⟨o1,e1⟩
      · cases hx:H b with
        | none=>exact absurd hx hb
        | some u=>exact FH (I.hok b u hx)
      · exact ib.there b o1 e1 (by simp)
    have e3:=inB b o2 e2 hn2;have e:h2.get? b=some o:=e;rw [e] at e3;cases e3;exact PySem.W.hideAll_get _ e2 hn2
def K7 (E:XK) (C:Addr) (ta:TA):TS:=λ _ σ H=>ta σ H λ vs H1=>vs.length<=1000/\E (.ref C) none H1
theorem LO {x:Str} {C:Addr} {B newId initId:String} {bm:List Value} {e₀:Expr} {rest:List Expr} {np cpos pos:Pos} {ta:TA} (O:OwnCls x C bm newId mg base) (FB:ExcBaseFacts B newId initId bm)
    (ha:PA (C0 (CXE P w) P w K mg base N qual scope f cd A outer s₀ H₀ E) (e₀::rest) ta)
    (he:starEach (e₀::rest) (envOfC qual scope s₀.heap.objs.size f cd)=(false,eval e₀ (envOfC qual scope s₀.heap.objs.size f cd))::starEach rest (envOfC qual scope s₀.heap.objs.size f cd):=by rfl)
    (hplain:(backTo cpos (starEach rest (envOfC qual scope s₀.heap.objs.size f cd))).any (·.1)=false:=by rfl)
    (hg:Gl (C0 (CXE P w) P w K mg base N qual scope f cd A outer s₀ H₀ E) x:=by rfl) (hd:(x == ("__debug__":Str))=false:=by decide):
    PS (C0 (CXE P w) P w K mg base N qual scope f cd A outer s₀ H₀ E) (.Raise (some (.Call (.Name x np) (e₀::rest) [] cpos)) none pos) (K7 E C ta):=by
  intro pins s σ H D I h;obtain ⟨tl,Nn,nm,q,bs,hdct,sn,sub,ab,col,dd,k0,k1,k2,k3,k5,mN,hC,hN,hni,T⟩:=O.obj;have hw:=ha cpos pins s σ H _ I h;refine wpAny_Raise_call_subT (C:=C) (nm:=nm) (q:=q) (N:=Nn) (bs:=bs) (bm:=tl) (hdct:=hdct) (sn:=sn) (sub:=sub) (ab:=ab) (col:=col) (dd:=dd) (k0:=k0) (k1:=k1) (k2:=k2) (k3:=k3) (k5:=k5)
    FB (mN:=mN) (T.hasType FB.hasBase) (I.ok.hd rfl) (by
      show (backTo cpos (starEach (e₀::rest) (envOfC qual scope s₀.heap.objs.size f cd))).any (·.1)=false;rw [he];show (false||(backTo cpos (starEach rest (envOfC qual scope s₀.heap.objs.size f cd))).any (·.1))=false;rw [hplain];rfl) hni (Cz I hg O.bound ⟨rfl,?_⟩ hd)
  have he':starEach (e₀::rest) (C0 (CXE P w) P w K mg base N qual scope f cd A outer s₀ H₀ E).env=(false,eval e₀ (envOfC qual scope s₀.heap.objs.size f cd))::starEach rest (envOfC qual scope s₀.heap.objs.size f cd):=he;rw [he'] at hw ⊢;refine Calls.evalArgs_plain (thn hw λ us s2 ⟨vs,H1,I1,r,hl,hq⟩=> ?_);have bk:∀ b o,base.get? b=some o->s2.heap.get? b=some o:=I1.bk;refine ⟨rfl,?_,bk _ _ hC,hN.keeps bk,T.keeps bk,λ h' e mk=>KU I1 mk hq⟩;rw [<-r.length];exact Nat.le_trans hl (by decide)
end
theorem F0 {h h1 h2:Heap} (a:h.UpToSlots h1) (b:h1.UpToSlots h2):h.UpToSlots h2:=λ c o e nf=>by
  obtain ⟨sl,e1⟩:=a c o e nf;obtain ⟨sl2,e2⟩:=b c _ e1 nf;exact ⟨sl2,e2⟩
theorem Mj {P:Program} {w:World} {l:List Env} {s s₁:Shared} {H H':Hp} {a C t:Addr} {B h3:Heap} (un:Un (frs l) [] H H' s.heap s₁.heap) (hok:HOk P w H' s₁.heap) (fl:B.FlyingW l a (.ref C) (.ref t) s₁.heap)
    (cov:∀ b,(H' b≠none\/∃ o,s.heap.get? b=some o)->b∉frs l->∀ o,s₁.heap.get? b=some o->B.get? b=some o) (untr:∀ b∈frs l,H' b=none) (fl3:B.FlyingW l a (.ref C) (.ref t) h3) (ups:s₁.heap.UpToSlots h3):
    Un (frs l) [] H H' s.heap h3/\HOk P w H' h3:=by
  have inB:∀ b,(H' b≠none\/∃ o,s.heap.get? b=some o)->b∉frs l->∀ o,s₁.heap.get? b=some o->h3.get? b=some o:=λ b hb hn o e=>fl3.1 b o (cov b hb hn o e);refine ⟨⟨λ b o e hH hn hx=>inB b (.inr ⟨o,e⟩) hn o (un.keep b o e hH hn hx),λ b o e hH hb hx=> ?_,un.free,λ b o e hx=> ?_,un.tups,un.frzs,un.tbls⟩,hok.on λ b u hb e=>inB b (.inl hb) (λ z=>hb (untr b z)) u e⟩
  · obtain ⟨sl,e1⟩:=un.slot b o e hH hb hx;obtain ⟨_,o',e',nf⟩:=Bi fl.2.2.1 hb;rw [e1] at e';cases e';obtain ⟨sl3,e3⟩:=ups b _ e1 nf;exact ⟨sl3,e3⟩
  · obtain ⟨o1,e1⟩:=un.there b o e hx;by_cases hb:b∈frs l
    · obtain ⟨_,o',e',nf⟩:=Bi fl.2.2.1 hb;obtain ⟨sl,e2⟩:=ups b _ e' nf;exact ⟨_,e2⟩
    · exact ⟨o1,inB b (.inr ⟨o,e⟩) hb o1 e1⟩
def A7 (a C:Addr) (od:Option Addr):HO:= .ext λ h=>∃ o,h.get? a=some o/\o.cls= .ref C/\o.dict=od/\∃ vs,o.data= .fields vs
theorem IG {P:Program} {w:World} {H:Hp} {h:Heap} {a C:Addr} {o:Obj} {vs:Array Value} (e:h.get? a=some o) (c:o.cls= .ref C) (d:o.data= .fields vs):ObjOk P w H h a (A7 a C o.dict):=
  ⟨⟨o,e,c,rfl,vs,d⟩,⟨o,e⟩,λ _ _ ⟨o,e,c⟩ k=>⟨o,k o e,c⟩⟩
theorem Il {P:Program} {w:World} {H:Hp} {h:Heap} {a:Addr} {u:HO} (hok:HOk P w H h) (n:H a=none) (new:ObjOk P w (upd H a u) h a u):HOk P w (upd H a u) h:=λ b o e=>by
  by_cases z:b=a
  · subst z;rw [Ac] at e;cases e;exact new
  · rw [Af z] at e;have ne:∀ c v,H c=some v->c≠a:=λ c v q z=>by rw [z,n] at q;cases q
    exact (hok b o e).stay (λ c v _ q=>q) (λ c q=>(Af (ne c _ q)).trans q) λ c xs q=>(Af (ne c _ q)).trans q
theorem HP {fs ex:List Addr} {H H':Hp} {h h':Heap} {a:Addr} {u:HO} (un:Un fs ex H H' h h') (n:H' a=none) (na:h.get? a=none):Un fs ex H (upd H' a u) h h':=by
  have ne:∀ c v,H' c=some v->c≠a:=λ c v q z=>by rw [z,n] at q;cases q
  refine ⟨un.keep,un.slot,λ b o e hH hx=> ?_,un.there,λ b xs e=> ?_,λ b o v e=> ?_,λ b ps e=> ?_⟩
  · have z:b≠a:=λ z=>by rw [z,na] at e;cases e
    rw [Af z];exact un.free b o e hH hx
  · have:=un.tups b xs e;exact (Af (ne _ _ this)).trans this
  · have:=un.frzs b o v e;exact (Af (ne _ _ this)).trans this
  · obtain ⟨m,this⟩:=un.tbls b ps e;exact ⟨m,(Af (ne _ _ this)).trans this⟩
section
variable {X:Cx} {pins:List (Addr × Obj)} {σ:St} {H:Hp} {s s₁:Shared} {E:XK} {e:Value}
theorem TU {E1 E2:Value->Shared->Prop} {R:Shared->Prop} (I:Inv X pins σ H s) (hst:X.stack=X.env::X.outer) (hf:X.env.frame=some X.env.locals) (h:CXE X.prog X.w X.stack H s E e s₁)
    (k:∀ (a C t:Addr) (od:Option Addr) (H':Hp) (B h3:Heap),e= .ref a->B.FlyingW X.stack a (.ref C) (.ref t) h3->s₁.heap.UpToSlots h3->DictIs h3 a od->(∀ h4:Heap,B.FlyingW X.stack a (.ref C) (.ref t) h4->s₁.heap.UpToSlots h4->DictIs h4 a od->Inv X pins σ H' { s₁ with heap:=h4 }/\Inv X pins σ (upd H' a (A7 a C od)) { s₁ with heap:=h4 })->H' a=none->E (.ref C) od H'->R { s₁ with heap:=h3 }):
    wpAny (model X.prog X.w) X.A (noteFrame e X.env) (λ _ s₂=>wpAny (model X.prog X.w) X.A (setFlight e none) (λ _ s₃=>R s₃) E2 s₂) E1 s₁:=by
  obtain ⟨a,C,t,od,H',rfl,os,bare,un,hok,⟨B,fl,cov⟩,di,q⟩:=h;have untr:∀ b∈frs X.stack,H' b=none:=λ b hb=>by
    obtain ⟨_,o,e,_⟩:=Bi I.stack hb;exact un.free b o e (I.stkFree b hb) (by simp)
  obtain ⟨oa,hoa,hca⟩:=fl.there;have af:a∉frs X.stack:=λ z=>by
    obtain ⟨_,_,_,oe,vs,T,oT,ts,he,hcls,hd,_⟩:=id fl;obtain ⟨_,o',e',nf⟩:=Bi fl.2.2.1 z;rw [he] at e';cases e';exact nf _ hd
  have an:H' a=none:=by
    cases hx:H' a with
    | none=>rfl
    | some u=>
      have:=cov a (.inl (by rw [hx];exact λ z=>by cases z)) af oa hoa;rw [fl.2.1] at this;cases this
  have as:s.heap.get? a=none:=by
    cases hx:s.heap.get? a with
    | none=>rfl
    | some o=>
      have:=cov a (.inr ⟨o,hx⟩) af oa hoa;rw [fl.2.1] at this;cases this
  have fl':=fl;rw [hst] at fl';refine Kj (by rw [I.ok.frames,hst]) hf fl' λ h2 hh u2 kd2=>O4 (s:={ s₁ with heap:=h2 }) hh λ h3 fl3 u3 kd3=> ?_;rw [<-hst] at fl3;refine k a C t od H' B h3 rfl fl3 (F0 u2 u3) (di.on (kd2.trans kd3) (let ⟨o,e,_⟩:=fl3.there;⟨o,e⟩)) (λ h4 fl4 u4 di4=> ?_) an q;obtain ⟨un4,hok4⟩:=Mj un hok fl cov untr fl4 u4;obtain ⟨_,_,_,o4,vs4,_,_,_,e4,⟨c4,_⟩,dd4,_⟩:=id fl4;have d4:o4.dict=od:=by
    obtain ⟨o5,e5,d5⟩:=di4;rw [e4] at e5;cases e5;exact d5
  subst d4;exact ⟨I.call' (s':={ s₁ with heap:=h4 }) (ch:=[]) os un4 hok4 bare (λ _ z=>by cases z),I.call' (s':={ s₁ with heap:=h4 }) (ch:=[]) os (HP un4 an as) (Il hok4 an (IG e4 c4 dd4)) bare (λ _ z=>by cases z)⟩
end
def Cx.tryC (X:Cx) (pn:List (Addr × Obj)) (xe:Value->Shared->Prop):Cx:={ X with pn:=pn,xe:=xe }
def Cx.markC (X:Cx) (a:Addr) (xe:Value->Shared->Prop):Cx:={ X with A:=X.A.mark (some (.ref a)),calm:=false,xe:=xe }
section
variable {X:Cx} {pins pins0:List (Addr × Obj)} {σ:St} {H:Hp} {s:Shared} {xe:Value->Shared->Prop}
theorem Inv.tryC (I:Inv X pins σ H s):Inv (X.tryC (X.pn++pins) xe) [] σ H s:=
  ⟨⟨I.ok.mod,I.ok.kind,I.ok.glob,I.ok.blt,I.ok.above,I.ok.inj,I.ok.has,I.ok.cab,I.ok.hd,I.ok.frames,I.ok.stk,I.ok.exf,I.ok.bs,I.ok.bsz,I.ok.noex,I.ok.exfs,I.ok.funs,I.ok.frf⟩,
    I.os,I.bare,I.base,I.loc,I.cell,I.free,I.freeC,λ p hp=>I.pin p (by simpa [Cx.tryC] using hp),I.hok,I.len⟩
theorem Inv.untry (ok:X.Ok) (I:Inv (X.tryC (X.pn++pins0) xe) pins σ H s):Inv X pins0 σ H s:=
  ⟨ok,I.os,I.bare,I.base,I.loc,I.cell,I.free,I.freeC,λ p hp=>I.pin p (List.mem_append_left _ hp),I.hok,I.len⟩
theorem Inv.markC {a:Addr} (I:Inv X pins σ H s):Inv (X.markC a xe) pins σ H s:=
  ⟨⟨I.ok.mod,I.ok.kind,I.ok.glob,I.ok.blt,I.ok.above,I.ok.inj,I.ok.has,I.ok.cab,λ z=>(by cases z),I.ok.frames,I.ok.stk,I.ok.exf,I.ok.bs,I.ok.bsz,I.ok.noex,I.ok.exfs,I.ok.funs,I.ok.frf⟩,
    I.os,I.bare,I.base,I.loc,I.cell,I.free,I.freeC,I.pin,I.hok,I.len⟩
theorem Inv.unmark {a:Addr} (ok:X.Ok) (I:Inv (X.markC a xe) pins σ H s):Inv X pins σ H s:=
  ⟨ok,I.os,I.bare,I.base,I.loc,I.cell,I.free,I.freeC,I.pin,I.hok,I.len⟩
theorem Kv {M:Model} {A:Around} {E:Value->Shared->Prop} {i:Nat} {x:Str} {v:V} {Q:Unit->Shared->Prop} (I:Inv X pins σ H s) (hN:X.N.Nodup) (hi:X.N[i]?=some x) (hx:X.env.scope.names.lookup x=some .local) (hv:σ[i]?=some (some v))
    (h:∀ s',Inv X pins (σ.set i none) H s'->Q () s'):wpAny M A (unbindName X.env x) Q E s:=by
  obtain ⟨m,hn,hl⟩:=id I.loc;have hcls:(X.env.scope.kind == .class||(X.env.scope.kind == .module&&X.env.locals != X.env.globals))=false:=by rw [I.ok.kind];rfl
  obtain ⟨u0,_,q0⟩:=hl i x v hi hv (.inl hx);have hm:m x=some u0:=by
    rcases q0 with ⟨_,e⟩ | ⟨k,_⟩
    · exact e
    · rcases k with k | k
      · rw [show X.env.kindOf x=some .local from hx] at k;cases k
      · rw [show X.env.kindOf x=some .local from hx] at k;cases k
  have hiσ:i<σ.length:=by rw [I.len];exact (List.getElem?_eq_some_iff.mp hi).1
  have cne:=I.cne;refine wpAny_unbindName_local hx hn hm hcls λ h' u hn' hs=> ?_;obtain ⟨oL,_,_,hoL,_⟩:=id hn;have neL:∀ b o,X.s₀.heap.get? b=some o->b≠X.env.locals:=λ b o e=>Nat.ne_of_lt (Nat.lt_of_lt_of_le (Heap.lt_size e) I.ok.above);refine h _ ⟨I.ok,I.os,I.bare,⟨λ b o e n hb hx=> ?_,λ b o e n hb hx=> ?_,I.base.free,λ b o e hx=> ?_,I.base.tups,I.base.frzs,I.base.tbls⟩,⟨_,hn',λ j y v' e1 e2 e3=> ?_⟩,λ y c e=> ?_,I.free,I.freeC,λ p hp=> ?_,λ b ob e=> ?_,by simpa using I.len⟩
  · exact (hs.2 b (neL b o e)).trans (I.base.keep b o e n hb hx)
  · obtain ⟨sl,e1⟩:=I.base.slot b o e n hb hx;exact ⟨sl,(hs.2 b (neL b o e)).trans e1⟩
  · obtain ⟨o',e1⟩:=I.base.there b o e hx;exact ⟨o',(hs.2 b (neL b o e)).trans e1⟩
  · by_cases hj:j=i
    · subst hj;rw [List.getElem?_set_self hiσ] at e2;cases e2
    · rw [List.getElem?_set_ne (Ne.symm hj)] at e2;obtain ⟨u',r',q⟩:=hl j y v' e1 e2 e3;refine ⟨u',r',?_⟩;rcases q with ⟨k,e⟩ | ⟨k,c,e,z⟩
      · refine .inl ⟨k,?_⟩;have:y≠x:=λ e=>hj (Fv hN e1 (e▸hi));simp [this,e]
      · exact .inr ⟨k,c,e,z.sameBut hs (cne y c e)⟩
  · obtain ⟨w',z⟩:=I.cell y c e;exact ⟨w',z.sameBut hs (cne y c e)⟩
  · obtain ⟨e,n,ne,nf,d⟩:=I.pin p hp;exact ⟨(hs.2 p.1 ne).trans e,n,ne,nf,d⟩
  · refine (I.hok b ob e).stay (λ c w' hc q=>(hs.2 c ?_).trans q) (λ _ q=>q) λ _ _ q=>q;rintro rfl;rcases hc with rfl | hc
    · rw [I.free] at e;cases e
    · rw [I.free] at hc;cases hc
end
def Ph (j:Nat) (D:Ends):Ends:={ nx:=λ σ H=>D.nx (σ.set j none) H,rt:=D.rt,bk:=λ σ H=>D.bk (σ.set j none) H,ct:=λ σ H=>D.ct (σ.set j none) H }
def NU (K:PySem.W.Frag) (CL:Addr) (len j:Nat) (ts:TS) (D:Ends):XK:=λ cls od H'=>∃ C,cls= .ref C/\PySem.W.exmOne K cls (.ref CL)=some true/\
  ∀ (a:Addr) (σ:St),H' a=none->σ.length=len->ts (Ph j D) (σ.set j (some (.ref a))) (upd H' a (A7 a C od))
def Td (K:PySem.W.Frag) (CL:Addr) (len j:Nat) (tb:XK->TS) (ts:TS):TS:=λ D σ H=>tb (NU K CL len j ts D) D σ H
end L2
namespace L2
open PySem PySem.Spec PyProof.Rows PySem.W
theorem Pu {X:Cx} {x n:Str} {CL:Addr} {j:Nat} {body:List Stmt} {b₀:Stmt} {suite:List Stmt} {tb:XK->TS} {ts:TS} {xp hp pos:Pos} (hst:X.stack=X.env::X.outer) (hf:X.env.frame=some X.env.locals) (hm:X.mg x=some (.ref CL))
    (hN:X.N.Nodup) (hj:X.N[j]?=some n) (hx:X.env.scope.names.lookup n=some .local)
    (hb:∀ (pn:List (Addr × Obj)) (xe:Value->Shared->Prop) (E:XK),Bs (CXE X.prog X.w) (X.tryC pn xe) E->PSs (X.tryC pn xe) body (tb E)) (hs:∀ (a:Addr) (xe:Value->Shared->Prop),PSs (X.markC a xe) (b₀::suite) ts)
    (hg:Gl X x:=by rfl) (hd:(x == ("__debug__":Str))=false:=by decide):
    PS X (.Try body [.ExceptHandler (some (.Name x xp)) (some n) (b₀::suite) hp] [] [] pos) (Td X.K CL X.N.length j tb ts):=by
  intro pins s σ H D I h;refine wpAny_Try_except ?_;have pass:Bs (CXE X.prog X.w) (X.tryC (X.pn++pins) (λ e s₁=>wpAny (model X.prog X.w) X.A (noteFrame e X.env) (λ _ s₂=>wpAny (model X.prog X.w) X.A (setFlight e none) (λ _ s₃=>wpAny (model X.prog X.w) X.A (handleBy e X.env [.ExceptHandler (some (.Name x xp)) (some n) (b₀::suite) hp]) (SP X pins D) X.xe s₃) X.xe s₂) X.xe s₁)) (NU X.K CL X.N.length j ts D):=by
    intro pins' σ' H1 s1 e s' I1 hc;have I1':Inv X pins σ' H1 s1:=I1.untry I.ok;refine TU I1' hst hf hc λ a C t od H' B h3 e0 fl3 u3 di3 inv an q=> ?_;subst e0;obtain ⟨C',eC,hx',hr⟩:=q;cases eC;have I3:=(inv h3 fl3 u3 di3).1;obtain ⟨oa,hoa,hca⟩:=fl3.there;refine wpAny_handleBy_cons (codeAny_handlers_test ?_) (by intro q;cases q);refine Calls.Name_function_global I.ok.kind hg (Calls.loadGlobal_global (by rw [I.ok.glob];exact I.mod.glob.keeps I3.bk) hm ?_) hd;have lt:Looks (model X.prog X.w) h3 (typeOf (.ref a)) (.ref C):=hca▸(Looks.ld hoa).andThen .now;refine Looks.here (s:={ s' with heap:=h3 }) (PySem.W.exm_one (K:=X.K) I3.kIn lt hx') ?_;show codeAny _ _ (.handlers (.ref a) [.ExceptHandler none (some n) (b₀::suite) hp] X.env) _ _;refine codeAny_handlers_suite_as ?_;refine MJ (base:=B) (l:=X.stack) (s:={ s' with heap:=h3 }) fl3.1 fl3.2.2.1 fl3.2.2.2 λ h4 k1 k2 k3 k4 kd4=> ?_;have fl4:B.FlyingW X.stack a (.ref C) (.ref t) h4:=⟨k1,fl3.2.1,k2,k3⟩;have u4:s'.heap.UpToSlots h4:=F0 u3 λ b o e nf=>⟨o.slots,k4 b o e nf⟩;have I4:=(inv h4 fl4 u4 (di3.on kd4 (let ⟨o,e,_⟩:=fl4.there;⟨o,e⟩))).2;refine BS (v:= .ref a) I4 hN hj (.inl hx) rfl (λ s5 I5=> ?_) (.inr hx);refine wpAny_mono (hs a _ pins s5 _ _ (Ph j D) I5.markC (hr a σ' an I1'.len)) (λ f s6 hq=> ?_) λ _ _ y=>y;have fin:∀ σ6 H6,Inv X pins σ6 H6 s6->∀ Qf:Shared->Prop,(∀ s7,Inv X pins (σ6.set j none) H6 s7->Qf s7)->wpAny (model X.prog X.w) X.A (do bindName X.env n .none;unbindBehindTheSuite X.env n hp) (λ _ s₃=>Qf s₃) X.xe s6:=λ σ6 H6 I6 Qf hQ=>by
      refine wpAny_bind (bindName_ (BS (v:= .non) I6 hN hj (.inl hx) rfl (λ s7 I7=> ?_) (.inr hx)));unfold unbindBehindTheSuite;have hl6:j<σ6.length:=by rw [I6.len];exact (List.getElem?_eq_some_iff.mp hj).1
      refine wpAny_onRaise (Kv (v:= .non) I7 hN hj hx (by rw [List.getElem?_set_self hl6]) λ s8 I8=> ?_);rw [List.set_set] at I8;exact hQ s8 I8
    show wpAny (model X.prog X.w) X.A (do bindName X.env n .none;unbindBehindTheSuite X.env n hp) (λ _ s₃=>SP X pins D f s₃) X.xe s6;cases f with
    | next=>
      obtain ⟨σ6,H6,I6,q6⟩:=hq;exact fin σ6 H6 (I6.unmark I.ok) _ λ s7 I7=>⟨_,_,I7,q6⟩
    | brk=>
      obtain ⟨σ6,H6,I6,q6⟩:=hq;exact fin σ6 H6 (I6.unmark I.ok) _ λ s7 I7=>⟨_,_,I7,q6⟩
    | cont=>
      obtain ⟨σ6,H6,I6,q6⟩:=hq;exact fin σ6 H6 (I6.unmark I.ok) _ λ s7 I7=>⟨_,_,I7,q6⟩
    | ret u=>
      obtain ⟨v6,σ6,H6,I6,r6,q6⟩:=hq;exact fin σ6 H6 (I6.unmark I.ok) _ λ s7 I7=>⟨v6,_,_,I7,r6,q6⟩
  refine wpAny_mono (hb _ _ _ pass [] s σ H D I.tryC h) (λ f s₁ hq=> ?_) λ _ _ y=>y;cases f with
  | next=>
    obtain ⟨σ',H',I',q'⟩:=hq;exact wpAny_execs_nil ⟨σ',H',I'.untry I.ok,q'⟩
  | brk=>
    obtain ⟨σ',H',I',q'⟩:=hq;exact ⟨σ',H',I'.untry I.ok,q'⟩
  | cont=>
    obtain ⟨σ',H',I',q'⟩:=hq;exact ⟨σ',H',I'.untry I.ok,q'⟩
  | ret u=>
    obtain ⟨v',σ',H',I',r',q'⟩:=hq;exact ⟨v',σ',H',I'.untry I.ok,r',q'⟩
end L2
namespace HT
open PySem PySem.Spec PyProof.Rows PySem.W PySem.Calls PySem.Builtin PySem.Builtin.ObjectAttr PySem.Builtin.Getset_descriptor
def ExcAt (a C:Addr) (h:Heap):Prop:=∃ o,h.get? a=some o/\o.cls= .ref C
structure ExcKind (K:Frag) (C:Addr):Prop where
  cl:(clsIn K C).isSome=true
  ga:findIn K (.ref C) "__getattribute__"=some (some (.builtin "BaseException.__getattribute__"))
  ng:findIn K (.ref C) "__getattr__"=some none
  hb:mroIn K C (.type "BaseException")=some true
  ha:findIn K (.ref C) "__class__"=some (some (.builtin "object.__class__"))
  hn:specialIn K (.builtin "object.__class__") "__get__"=some (some (.builtin "getset_descriptor.__get__"))
  htk:takesIn K (.builtin "object.__class__")=some true
  hm:mroIn K C (.type "object")=some true
theorem ExcAt.type {M:Model} {h:Heap} {a C:Addr} (x:ExcAt a C h):Looks M h (typeOf (.ref a)) (.ref C):=by
  obtain ⟨o,e,c⟩:=x;exact c▸(Looks.ld e).andThen .now
theorem Mu {K:Frag} {M:Model} {h:Heap} {a C:Addr} (k:ExcKind K C) (X:K.In h):Looks M h (find (.ref a) (.ref C) "__class__") (.bind (.builtin "getset_descriptor.__get__") (.builtin "object.__class__")):=by
  have L1:=looks_findIn (M:=M) X k.ha;have L2:Looks M h (getOf (some (.builtin "object.__class__"))) (some (.builtin "getset_descriptor.__get__")):=looks_specialIn X k.hn;have L3:=looks_takesIn (M:=M) X k.htk;exact L1.andThen (L2.andThen ((show Looks M h (dataDescriptor? (some (.builtin "object.__class__")) (some (.builtin "getset_descriptor.__get__"))) (some (.builtin "getset_descriptor.__get__", .builtin "object.__class__")) from L3.andThen .now).andThen (Looks.tag .now)))
section
variable {prog:Program} {w:World} {A:Around} {E:Value->Shared->Prop} {s:Shared} {K:Frag} {a C:Addr}
theorem Nt {R:Result->Shared->Prop} {tp:Value} (X:K.In s.heap) (x:ExcAt a C s.heap) (hm:mroIn K C (.type "object")=some true) (h:R (.ok (.ret (.ref C))) s):
    codeAny (model prog w) A (.call (.builtin "getset_descriptor.__get__") ⟨[.builtin "object.__class__", .ref a,tp],[]⟩) R s:=by
  obtain ⟨hh,g,dr,t,os⟩:=s;have L0:=x.type (M:=model prog w);have L1:=looks_mroIn (M:=model prog w) X hm;refine codeAny_call_builtin KF.slot_gs.plain KF.entry_gs (KF.slot_gs.check _ _ _ _ _ _ _ _ KF.type_class (KF.args_gs _ _ _) ?_);unfold Builtin.«getset_descriptor.__get__» descrGet;rw [dga_obj];refine wpAny_bind (wpAny_pure ?_);unfold descrGetter descrCheckInstance descrNameAndClass isInstance;simp only [KF.owner_class]
  repeat lk
  refine ⟨Code.quiet_builtin _ (by decide +kernel),codeAny_builtin KF.entry_class ?_⟩;unfold Builtin.«object.__class__» shownTypeOf
  repeat lk
  exact h
theorem GS {Q:Unit->Shared->Prop} {nameV:Value} (k:ExcKind K C) (X:K.In s.heap) (x:ExcAt a C s.heap) (h:Q () s):wpAny (model prog w) A (checkBuiltinCall "BaseException.__getattribute__" ⟨[.ref a,nameV],[]⟩) Q E s:=by
  have hk:builtinKind "BaseException.__getattribute__"=some .slot:=by decide +kernel
  have hsplit:splitId "BaseException.__getattribute__"=some ("BaseException","__getattribute__"):=by decide +kernel
  have ha:=PySem.F.args_bexc_ga (.ref a) nameV;have L0:=x.type (M:=model prog w);have L1:=looks_mroIn (M:=model prog w) X k.hb;simp only [checkBuiltinCall,hk,hsplit];refine wpAny_bind ?_;unfold isInstance
  repeat lk
  exact h
theorem J7 {Q:Option Value->Shared->Prop} (k:ExcKind K C) (X:K.In s.heap) (x:ExcAt a C s.heap) (h:Q (some (.ref C)) { s with toks:=s.toks+1 }):wpAny (model prog w) A (getAttr? (.ref a) "__class__") Q E s:=by
  obtain ⟨hh,g,d,t,os⟩:=s;have L0:=x.type (M:=model prog w);have L1:=looks_findIn (M:=model prog w) X k.ga;have L2:=looks_findIn (M:=model prog w) X k.ng;have L3:=Mu (M:=model prog w) (a:=a) k X;unfold getAttr? getAttrBy? getAttrBy;refine wpAny_bind (wpAny_mkText (wpAny_bind (wpAny_attempt (wpAny_holding (wpAny_bind (L0.at (wpAny_bind (L1.at ?_))))))));show wpAny _ _ (getAttrByItsOwn (.ref a) _ (.ref C) (.builtin "BaseException.__getattribute__") false false) _ _ _;unfold getAttrByItsOwn;refine wpAny_bind (L2.at ?_);refine wpAny_bind (wpAny_attempt (wpAny_holding ?_));show wpAny _ _ (boundAndCalled (.builtin "BaseException.__getattribute__") (.ref a) _) _ _ _;unfold boundAndCalled;rw [PySem.F.excAttr_ValueError.ga.bind (.ref a)];refine wpAny_bind (wpAny_pure ?_);refine wpAny_call (codeAny_call_builtin PySem.F.excAttr_ValueError.ga.plain PySem.F.entry_bexc_ga (GS (s:=⟨hh,g,d,t+1,os⟩) k X x ?_));unfold Builtin.«object.__getattribute__»
  iterate 22 lk
  refine wpAny_call (Nt (s:=⟨hh,g,d,t+1,os⟩) X x k.hm ?_)
  repeat lk
  exact h
theorem kitx_exc (k:ExcKind K C):KitX K (.ref a) (.ref C) (ExcAt a C) where
  ty:=λ _ _ _ x=>x.type
  it:=λ _ _ X _=>by
    obtain ⟨cd,hc⟩:=Option.isSome_iff_exists.mp k.cl;unfold clsIn at hc;split at hc
    · rename_i c' d' cd' sl' ho
      intro A' Q' E' s' kk q;unfold isType loadHead;exact wpAny_bind (wpAny_loadPart (kk _ _ (X _ _ ho)) (wpAny_pure q))
    · cases hc
  ne:=λ h tp dd its n sl X htp=>by
    obtain ⟨cd,hc⟩:=Option.isSome_iff_exists.mp k.cl;refine Bool.eq_false_iff.mpr λ q=> ?_;have e:C=tp:=Value.ref.inj (beq_iff_eq.mp q);subst e;unfold clsIn at hc;split at hc
    · rename_i c' d' cd' sl' ho
      have z:=(X _ _ ho).symm.trans htp;cases z
    · cases hc
  ca:=λ X x h=>J7 k X x h
end
end HT
namespace L2
open PySem PySem.Spec PyProof.Rows
theorem Ms {X:Cx} {pins:List (Addr × Obj)} {σ:St} {H:Hp} {s:Shared} {A:Around} {E:Value->Shared->Prop} {Q:Value->Shared->Prop} {a C:Addr} {od:Option Addr} {c:Value} {b:Bool} (I:Inv X pins σ H s) (e:H a=some (A7 a C od)) (k:HT.ExcKind X.K C)
    (h:PySem.W.kitOne X.K (.ref C) c=some b) (hq:∀ tk,Q (.bool b) { s with toks:=tk }):wpAny (model X.prog X.w) A (call (.builtin "isinstance") [.ref a,c]) Q E s:=
  PySem.W.kia_one (HT.kitx_exc k) I.kIn (show HT.ExcAt a C s.heap from let ⟨o,h1,h2,_⟩:=(show ObjOk X.prog X.w H s.heap a (A7 a C od) from I.hok a _ e).1;⟨o,h1,h2⟩) h (λ z=>nomatch z) hq
def IK (K:PySem.W.Frag):List V->Hp->VK->Prop:=λ xs H Q=>∃ (y c:V) (cv t:Value) (b:Bool),xs=[y,c]/\((∃ D,c= .ref D/\cv= .ref D)\/∃ T,c= .ty T/\cv= .type T)/\PySem.W.kitOne K t cv=some b/\
  (TyOf K H y t\/∃ a C od,y= .ref a/\H a=some (A7 a C od)/\t= .ref C/\HT.ExcKind K C)/\Q (.bl b) H
theorem BJ {X:Cx} {K:PySem.W.Frag} (hK:X.K=K:=by rfl):Bt X (.builtin "isinstance") (IK K):=by
  subst hK;intro pins s σ H xs us Q I r h;obtain ⟨y,c,cv,t,b,rfl,hc,e,hy,q⟩:=h;obtain ⟨u,c',rfl,rx,rc⟩:=JK r;have ec:c'=cv:=by
    rcases hc with ⟨D,rfl,rfl⟩ | ⟨T,rfl,rfl⟩
    · exact rc
    · exact rc
  subst ec;rcases hy with ty | ⟨a,C,od,rfl,ha,rfl,k⟩
  · exact GN I rx ty e λ tk=>⟨.bl b,H,I.tok tk,rfl,q⟩
  · cases rx;exact Ms I ha k e λ tk=>⟨.bl b,H,I.tok tk,rfl,q⟩
theorem BB {K:PySem.W.Frag} {H:Hp} {Q:VK} {a C D:Addr} {od:Option Addr} {b:Bool} (ha:H a=some (A7 a C od)) (k:HT.ExcKind K C) (e:PySem.W.kitOne K (.ref C) (.ref D)=some b) (h:Q (.bl b) H):IK K [.ref a, .ref D] H Q:=
  ⟨_,_,_,_,b,rfl, .inl ⟨D,rfl,rfl⟩,e, .inr ⟨a,C,od,rfl,ha,rfl,k⟩,h⟩
theorem Kc {K:PySem.W.Frag} {H:Hp} {Q:VK} {a C:Addr} {od:Option Addr} {T:String} {b:Bool} (ha:H a=some (A7 a C od)) (k:HT.ExcKind K C) (e:PySem.W.kitOne K (.ref C) (.type T)=some b) (h:Q (.bl b) H):IK K [.ref a, .ty T] H Q:=
  ⟨_,_,_,_,b,rfl, .inr ⟨T,rfl,rfl⟩,e, .inr ⟨a,C,od,rfl,ha,rfl,k⟩,h⟩
end L2
namespace HT
open PySem PySem.Spec PyProof.Rows PySem.W
theorem own_mk {K:Frag} {base:Heap} {mg:Str->Option Value} {x:Str} {C:Addr} {bmB:List Value} {newId:String} (X:K.In base) (hm:mg x=some (.ref C)) (q:excIn K C bmB newId=true):OwnCls x C bmB newId mg base:=by
  refine ⟨hm,?_⟩;unfold excIn at q;split at q
  · rename_i dd cd sl ho
    split at q
    · rename_i C' bm k0 k1 k2 k3 n k5 hm' hs
      simp only [Bool.and_eq_true,beq_iff_eq,Bool.not_eq_true'] at q;obtain ⟨⟨⟨⟨⟨rfl,rfl⟩,hdel⟩,ht⟩,hok⟩,hni⟩:=q;obtain ⟨nm,bs,mro,ns,qn,hd,sn,sub,ab,col,del⟩:=cd;dsimp only at hm' hdel hok hni;subst hm' hdel;obtain ⟨l⟩:=sl;have hsl:l=[k0,k1,k2,k3,some (.builtin n),k5]:=hs;subst hsl;exact ⟨bm,ns,nm,qn,bs,hd,sn,sub,ab,col,dd,k0,k1,k2,k3,k5,_,X _ _ ho, .of_isNs (isNs_of_in X hok),nsMap_none_of_in X hok hni,tail_of_in X ht⟩
    · cases q
  · cases q
end HT
namespace L2
open PySem PySem.Spec PyProof.Rows
def CallE (P:Program) (w:World) (K:PySem.W.Frag) (mg:Str->Option Value) (base:Heap) (x:Str) (k:Nat) (ps:List Str) (sp:Sp):Prop:=
  ∃ f fd,mg x=some (.ref f)/\PySem.W.keepIn K (.ref f)=true/\FnOk P w K mg base (CXE P w) k f fd ps sp/\Binds K fd ps []
def Lg (P:Program) (w:World) (K:PySem.W.Frag) (mg:Str->Option Value) (base:Heap) (x:Str) (C:Addr) (k:Nat) (ps:List Str) (sp:Sp):Prop:=
  ∃ f fd,mg x=some (.ref C)/\Mk K C f/\FnOk P w K mg base (CXE P w) k f fd ps sp/\Binds K fd ps []
theorem DefAt.callE {P:Program} {w:World} {K:PySem.W.Frag} {mg:Str->Option Value} {base:Heap} {x:Str} {st:Stmt} {ps:List Str} {f:Addr} {fd:FuncData} {k:Nat} {sp:Sp} (d:DefAt K mg x st ps f fd)
    (F:FnOk P w K mg base (CXE P w) k f fd ps sp):CallE P w K mg base x k ps sp:=⟨f,fd,d.at',d.fn.kp,F,d.bi⟩
section
variable {X:Cx} {x:Str} {C:Addr} {k:Nat} {ps:List Str} {sp:Sp} {E:XK} {e:Expr} {es:List Expr} {t:TA} {p pos:Pos}
theorem A1 (h:CallE X.prog X.w X.K X.mg X.base x k ps sp) (hr:Room k X.A) (hx:Bs (CXE X.prog X.w) X E) (ha:PA X (e::es) t) (hg:Gl X x:=by rfl) (hdb:(x == ("__debug__":Str))=false:=by decide)
    (he:starEach (e::es) X.env=(false,eval e X.env)::starEach es X.env:=by rfl) (hpl:(backTo pos (starEach es X.env)).any (·.1)=false:=by rfl):
    PE X (.Call (.Name x p) (e::es) [] pos) (GG sp [] E t):=by
  obtain ⟨f,fd,hm,hk,F,hb⟩:=h;exact JW F hr hg hm hk hb .nil hx ha hdb he hpl
theorem KY (h:Lg X.prog X.w X.K X.mg X.base x C k ps sp) (hr:Room (k+1) X.A) (hx:Bs (CXE X.prog X.w) X E) (ha:PA X (e::es) t) (hg:Gl X x:=by rfl) (hdb:(x == ("__debug__":Str))=false:=by decide)
    (he:starEach (e::es) X.env=(false,eval e X.env)::starEach es X.env:=by rfl) (hpl:(backTo pos (starEach es X.env)).any (·.1)=false:=by rfl):
    PE X (.Call (.Name x p) (e::es) [] pos) (Js C sp [] E t):=by
  obtain ⟨f,fd,hm,M,F,hb⟩:=h;exact MX M F hr hg hm hb .nil hx ha hdb he hpl
end
theorem CS {P:Program} {w:World} {K:PySem.W.Frag} {mg:Str->Option Value} {base:Heap} {N:List Str} {qual:Str} {scope:Scope} {f:Addr} {cd:Value} {A:Around} {outer:List Env} {s₀:Shared} {H₀:Hp} {E:XK}:
    Bs (CXE P w) (C0 (CXE P w) P w K mg base N qual scope f cd A outer s₀ H₀ E) E:=Kh λ _ _ _ h=>h
section
variable {P:Program} {w:World} {K:PySem.W.Frag} {mg:Str->Option Value} {base:Heap}
theorem Fun.okE {x qual:Str} {st:Stmt} {f:Addr} {fd:FuncData} {N ps:List Str} {k:Nat} {sp:Sp} (F:Fun K x qual st f fd) (S:FnScope N ps (Al st)) (len:∀ vs H Q E,sp vs H Q E->vs.length=ps.length)
    (hbody:∀ (cdv:Value) (A:Around) (outer:List Env) (s:Shared) (H:Hp) (vs:List V) (Q:VK) (E:XK),Room k (A.deeper (envOfC qual (Al st) s.heap.objs.size f cdv))->sp vs H Q E->
      ∃ t,PSs (C0 (CXE P w) P w K mg base N qual (Al st) f cdv A outer s H E) (CA st) t/\t { nx:=λ _ H'=>Q .non H',rt:=Q } (start N vs) H):FnOk P w K mg base (CXE P w) (k+1) f fd ps sp:=by
  obtain ⟨oc,od,kV,doc,pm,an,cdv,ct,osl,rfl,lk,hcd⟩:=F.ex;refine N9 lk hcd S len λ A outer s H vs Q E hr hsp=> ?_;exact hbody cdv A outer s H vs Q E hr hsp
theorem Ka {N:List Str} {qual:Str} {scope:Scope} {f:Addr} {cd:Value} {A:Around} {outer:List Env} {s₀:Shared} {H₀:Hp} {E:XK} {x:Str} {C:Addr} {e₀:Expr} {rest:List Expr} {np cpos pos:Pos} {ta:TA} (hm:mg x=some (.ref C))
    (q:PySem.W.excIn K C [.type "ValueError", .type "Exception", .type "BaseException", .type "object"] "ValueError.__new__"=true) (ha:PA (C0 (CXE P w) P w K mg base N qual scope f cd A outer s₀ H₀ E) (e₀::rest) ta)
    (he:starEach (e₀::rest) (envOfC qual scope s₀.heap.objs.size f cd)=(false,eval e₀ (envOfC qual scope s₀.heap.objs.size f cd))::starEach rest (envOfC qual scope s₀.heap.objs.size f cd):=by rfl)
    (hplain:(backTo cpos (starEach rest (envOfC qual scope s₀.heap.objs.size f cd))).any (·.1)=false:=by rfl)
    (hg:Gl (C0 (CXE P w) P w K mg base N qual scope f cd A outer s₀ H₀ E) x:=by rfl) (hd:(x == ("__debug__":Str))=false:=by decide):
    PS (C0 (CXE P w) P w K mg base N qual scope f cd A outer s₀ H₀ E) (.Raise (some (.Call (.Name x np) (e₀::rest) [] cpos)) none pos) (K7 E C ta):=λ pins s σ H D I h=>
  LO (HT.own_mk I.mod.kin hm q) PySem.F.excBase_ValueError ha he hplain hg hd pins s σ H D I h
end
theorem Fa:bootBuiltins "ValueError"=some (.type "ValueError"):=by decide +kernel
theorem RJ {X:Cx}:Bs (CXE X.prog X.w) X E0:=by
  intro pins σ H s e s' I h;obtain ⟨_,_,_,_,_,_,_,_,_,_,_,_,q⟩:=h;exact False.elim q
theorem Ic {C:Addr} {sp:Sp} {t:TA} {σ:St} {H:Hp} {Q:VK} {E:XK} (h:t σ H λ vs H1=>∀ x dx,H1 x=none->H1 dx=none->dx≠x->sp (.ref x::vs) (upd (upd H1 dx (.own x)) x (.ins C dx [])) (λ v H2=>v= .non/\Q (.ref x) H2) E):Js C sp [] E t σ H Q:=by
  unfold Js;simpa using h
theorem PR {j:Nat} {D:Ends} {σ:St} {H:Hp} (h:D.nx (σ.set j none) H):(Ph j D).nx σ H:=h
theorem O0 {K:PySem.W.Frag} {CL:Addr} {len j:Nat} {tb:XK->TS} {ts:TS} {D:Ends} {σ:St} {H:Hp} (h:tb (NU K CL len j ts D) D σ H):Td K CL len j tb ts D σ H:=h
end L2
namespace HT
open PySem PySem.Spec PyProof.Rows PySem.SeqAt
open PySem.AutoSeq1 (wpAny_loadPart')
open PySem.MeetsSeq PySem.MeetsSeq2 PySem.MeetsSeq3
section
variable {A:Around} {s:Shared}
end
end HT
namespace L2
open PySem PySem.Spec PyProof.Rows
inductive DX where
  | d (d:Dt) | dic | tdic (rest:List Dt)
inductive Rx (H:Hp) (n:Nat):V->DX->Prop
  | d {v:V} {d:Dt} (r:Rp H FT n v d):Rx H n v (.d d)
  | dic {a:Addr} (h:H a=some (.dK [])):Rx H n (.ref a) .dic
  | tdic {t a:Addr} {ws:List V} {ds:List Dt} (ht:H t=some (.tup (.ref a::ws))) (h:H a=some (.dK [])) (l:ws.length=ds.length) (e:∀ (i:Nat) (v:V) (d:Dt),ws[i]?=some v->ds[i]?=some d->Rp H FT n v d):Rx H n (.ref t) (.tdic ds)
theorem Na {P:Program} {w:World} {H:Hp} {h:Heap} {a:Addr} (x:ObjOk P w H h a (.dK [])):∃ es n dd sl,h.get? a=some { cls:= .type "dict",dict:=dd,data:= .dict es n,slots:=sl }:=by
  obtain ⟨_,_,vs,_,o,es,ep,e,hx,hd,_⟩:=x;obtain ⟨c,dd,da,sl⟩:=o;obtain ⟨hc,_⟩:=hx;simp only at hc hd;subst hc hd;exact ⟨es,ep,dd,sl,e⟩
section
variable {X:Cx} {pins:List (Addr × Obj)} {σ:St} {H:Hp} {s:Shared}
end
end L2
namespace L2
open PySem PySem.Spec PyProof.Rows PySem.W
def exO (a:Addr) (o:Obj):HO:= .ext λ h=>h.get? a=some o
section
variable {P:Program} {w:World} {K:PySem.W.Frag} {mg:Str->Option Value} {base:Heap} {N:List Str} {qual:Str} {scope:Scope} {f:Addr} {cd:Value} {cl:List (Str × Addr)} {A:Around} {outer:List Env} {s:Shared} {H:Hp} {E:XK}
structure ClOkL (N:List Str) (scope:Scope) (cl:List (Str × Addr)) (h:Heap) (H:Hp) (vs:List V):Prop where
  len:vs.length=N.length
  inj:∀ x y c,cl.lookup x=some c->cl.lookup y=some c->x=y
  has:∀ x,(scope.names.lookup x=some .cell\/scope.names.lookup x=some .free)->∃ c,cl.lookup x=some c
  val:∀ (i:Nat) (x:Str) (v:V),N[i]?=some x->vs[i]?=some v->∃ c u,scope.names.lookup x=some .free/\cl.lookup x=some c/\RelV v u/\h.IsCell c (some u)
  cell:∀ x c,cl.lookup x=some c->(∃ v,h.IsCell c v)/\H c=none
end
def RY (qual:Str) (oc:Obj):Prop:=∃ vs t,oc.data= .fields vs/\vs[1]?=some (.str qual t)
structure LamX (X:Cx) (c P:Addr):Prop where
  code:X.env.code= .ref c
  hd:CodeHd X.base c P
  blt:X.base.BuiltinsAt X.mg P
section
variable {X:Cx} {pins:List (Addr × Obj)} {σ:St} {H:Hp} {s:Shared}
end
structure LamOk (params:Arguments) (scope:Scope):Prop where
  kind:scope.kind= .function
  co:scope.isCoroutine=false
  gen:scope.isGenerator=false
  cell:∀ x∈scope.names,x.2≠ .cell
  bind:∀ (qual:Str) (body:Expr) (cl:List (Str × Addr)) (pm cdv ctv:Value),bindArgs (kla_fn "<lambda>" qual params body scope cl pm cdv ctv) ⟨[],[]⟩=pure []
section
variable {P:Program} {w:World} {K:PySem.W.Frag} {mg:Str->Option Value} {base:Heap}
structure ThAt (s:Shared) (H:Hp) (outer:List Env) (f c':Addr) (oc:Obj) (N:List Str) (qual:Str) (scope:Scope) (cl:List (Str × Addr)) (params:Arguments) (body:Expr) (pm ctv:Value) (vs:List V):Prop where
  hf:s.heap.get? f=some (kla_obj "<lambda>" qual params body scope cl pm c' ctv)
  hf0:H f=none
  nf:f∉frs outer
  hc:H c'=some (exO c' oc)
  hoc:RY qual oc
  C:ClOkL N scope cl s.heap H vs
  nc:∀ x c,cl.lookup x=some c->c∉frs outer
  lo:LamOk params scope
end
theorem KG {K:PySem.W.Frag} {H:Hp} {a:Addr} {xs:List V} {σ0:St} {ps:List (V × V)} (h:SqL K H a xs) (hp:∀ i,i<xs.length->∃ b,xs.getD i .non= .ref b/\H b=some (.tup [(ps.getD i (.non, .non)).1,(ps.getD i (.non, .non)).2])) (h0:σ0[0]?=some none) (h1:σ0[1]?=some none):
    SrcOk (Itl K a) (Kn K 2 (CV (AU 0) (CV (AU 1) Je))) σ0 H xs.length (λ i=>(σ0.set 0 (some (ps.getD i (.non, .non)).1)).set 1 (some (ps.getD i (.non, .non)).2)) where
  go:=λ i H' hi s=>⟨xs,xs[i],s.seq h,by simp [hi]⟩
  stop:=λ H' s=>⟨xs,s.seq h,Nat.le_refl _⟩
  yld:=λ i H' x H'' R hi s y k=>by
    obtain ⟨e,hv⟩:=y;subst e;have e:x=xs.getD i .non:=by
      have:=hv xs (s.seq h);rw [List.getD_eq_getElem?_getD,this];rfl
    subst e;obtain ⟨b,eb,hb⟩:=hp i hi;rw [eb];exact ⟨b,_,rfl,SqT.of (s _ _ hb),rfl,_,_,rfl,_,_,rfl,rfl,k _ (Same.refl _)⟩
  kp:=λ i hi=>((Kp.refl _).set h0).set h1
end L2
namespace L2
open PySem PySem.Spec PyProof.Rows
section
variable {X:Cx} {K:PySem.W.Frag} {e lo st:Expr} {te tl ts:TE} {pos p2:Pos}
end
section
variable {J:It} {g:TG} {σ0:St} {H:Hp} {n:Nat} {st:Nat->St} {te:TE} {Q:VK} {D:Addr}
end
end L2
namespace L2
open PySem PySem.Spec PyProof.Rows PySem.W
structure LamV (P:Program) (w:World) (K:PySem.W.Frag) (mg:Str->Option Value) (base:Heap) (k:Nat) (f:Addr) (sp:Sp):Prop where
  obj:FnAt f base
  run:∀ (A:Around) (outer:List Env) (s:Shared) (H:Hp) (u:Value) (v:V) (Q:VK),Room k A->Env0 P w K mg base A outer s H->RelV v u->sp [v] H Q E0->codeAny (model P w) A (.call (.ref f) ⟨[u],[]⟩) (CR CX0 outer P w H s Q E0) s
section
variable {P:Program} {w:World} {K:PySem.W.Frag} {mg:Str->Option Value} {base:Heap} {N:List Str} {qual x:Str} {scope:Scope} {f:Addr} {cd:Value} {cl:List (Str × Addr)} {A:Around} {outer:List Env} {s:Shared} {H:Hp} {E:XK}
end
end L2
namespace HT
open PySem PySem.Spec PyProof.Rows PySem.W PySem.Calls PySem.Builtin PySem.Builtin.ObjectAttr PySem.Builtin.Getset_descriptor
section
variable {prog:Program} {w:World} {A:Around} {E:Value->Shared->Prop} {s:Shared} {K:Frag} {a C dx:Addr} {o:Obj} {f:Str} {mA:Str->Option Value} {u:Value} {vs:Array Value}
theorem Nb {M:Model} (X:K.In s.heap) (hd:(clsIn K C).any (·.hasDict)=true) (he:s.heap.get? a=some o) (hc:o.cls= .ref C) (hf:o.data= .fields vs) (ho:o.dict=some dx) (hn:s.heap.Ns1 dx mA) (hu:mA f=some u):
    Looks M s.heap (inOwnDict f (.ref a)) (some u):=by
  obtain ⟨cd,hcd,hhd⟩:=any_some hd;obtain ⟨oc,od,dat,sl⟩:=o;dsimp only at hc hf ho;subst hc hf ho;have L1:Looks M s.heap (ObjectAttr.ownDict a) (some dx):=by
    unfold ObjectAttr.ownDict loadHead;refine (Looks.ld he).andThen ?_;unfold instanceDict;refine (Looks.ld he).andThen ?_;refine ((looks_clsIn X hcd).andThen ?_);rw [hhd];exact .now
  unfold inOwnDict inDict;refine L1.andThen ?_;exact λ A' Q' E' s' k q=>wpAny_nsGet ((hn.ns).keeps k) (by rw [hu];exact q)
theorem exc_attr {expr:Bool} {Q:Value->Shared->Prop} (k:ExcKind K C) (nf:findIn K (.ref C) f=some none) (X:K.In s.heap) (hd:(clsIn K C).any (·.hasDict)=true) (he:s.heap.get? a=some o) (hc:o.cls= .ref C) (hf:o.data= .fields vs) (ho:o.dict=some dx) (hn:s.heap.Ns1 dx mA) (hu:mA f=some u) (hho:handedIn u=true)
    (h:Q u { s with toks:=s.toks+1 }):wpAny (model prog w) A (getAttr (.ref a) f expr) Q E s:=by
  obtain ⟨hh,g,d,t,os⟩:=s;have x:ExcAt a C hh:=⟨o,he,hc⟩;have L0:=x.type (M:=model prog w);have L1:=looks_findIn (M:=model prog w) X k.ga;have L2:=looks_findIn (M:=model prog w) X k.ng;have L3:Looks (model prog w) hh (find (.ref a) (.ref C) f) (.value u):=by
    unfold find;refine (looks_findIn X nf).andThen ?_;refine Looks.andThen (a:=none) .now (Looks.andThen (a:=none) .now ?_);unfold ownThenClass;exact (Nb (s:=⟨hh,g,d,t,os⟩) X hd he hc hf ho hn hu).andThen (Looks.tag .now)
  unfold getAttr getAttrBy;refine wpAny_bind (wpAny_mkText (wpAny_holding (wpAny_bind (L0.at (wpAny_bind (L1.at ?_))))));show wpAny _ _ (getAttrByItsOwn (.ref a) _ (.ref C) (.builtin "BaseException.__getattribute__") true expr) _ _ _;unfold getAttrByItsOwn;refine wpAny_bind (L2.at ?_);refine wpAny_bind (wpAny_attempt (wpAny_holding ?_));have hx0:(expr&&onTheHeap (Value.builtin "BaseException.__getattribute__"))=false:=by cases expr <;> rfl
  unfold callGetattribute;rw [hx0];show wpAny _ _ (boundAndCalled (.builtin "BaseException.__getattribute__") (.ref a) _) _ _ _;unfold boundAndCalled;rw [PySem.F.excAttr_ValueError.ga.bind (.ref a)];refine wpAny_bind (wpAny_pure ?_);refine wpAny_call (codeAny_call_builtin PySem.F.excAttr_ValueError.ga.plain PySem.F.entry_bexc_ga (GS (s:=⟨hh,g,d,t+1,os⟩) k X x ?_));unfold Builtin.«object.__getattribute__»
  repeat lk
  show wpAny _ _ (handedOut u) _ _ _;exact handed_on (s:=⟨hh,g,d,t+1,os⟩) hho h
end
end HT
namespace L2
open PySem PySem.Spec PyProof.Rows PySem.W
structure XKind (K:PySem.W.Frag) (C:Addr):Prop extends HT.ExcKind K C where
  hd:(clsIn K C).any (·.hasDict)=true
def xdO (d:Addr) (fs:List (Str × V)):HO:= .ext λ h=>∃ mA,h.Ns1 d mA/\(∀ f,RelO (fs.lookup f) (mA f))/\PySem.Within mA (fs.map (·.1))
theorem Oo {P:Program} {w:World} {H:Hp} {h:Heap} {d:Addr} {fs:List (Str × V)} {mA:Str->Option Value} (hn:h.Ns1 d mA) (hm:∀ f,RelO (fs.lookup f) (mA f)) (hw:PySem.Within mA (fs.map (·.1))):ObjOk P w H h d (xdO d fs):=
  ⟨⟨mA,hn,hm,hw⟩,let ⟨o,_,_,e,_⟩:=hn;⟨o,e⟩,λ _ _ ⟨mA,hn,hm,hw⟩ k=>⟨mA,hn.at k,hm,hw⟩⟩
def NY (K:PySem.W.Frag) (f:Str) (to:TE):TE:=λ σ H Q=>to σ H λ v H1=>∃ a C dx fs y,v= .ref a/\H1 a=some (A7 a C (some dx))/\H1 dx=some (xdO dx fs)/\fs.lookup f=some y/\XKind K C/\findIn K (.ref C) f=some none/\Q y H1
theorem BO {X:Cx} {K:PySem.W.Frag} {o:Expr} {f:Str} {to:TE} {pos:Pos} (ho:PE X o to) (hb:attributeBase o f X.env (eval o X.env)=eval o X.env) (hK:X.K=K:=by rfl):PE X (.Attribute o f pos) (NY K f to):=by
  subst hK;intro pins s σ H Q I h;refine JQ hb (thn (ho pins s σ H _ I h) λ u s1 ⟨v,H1,I1,rv,a,C,dx,fs,y,ev,ha,hdx,hl,k,nf,q⟩=> ?_);subst ev;obtain rfl:u=Value.ref a:=rv;obtain ⟨⟨ob,he,hc,hod,vs,hdat⟩,_⟩:=(show ObjOk X.prog X.w H1 s1.heap a (A7 a C (some dx)) from I1.hok a _ ha);obtain ⟨⟨mA,hn,hm,_⟩,_⟩:=(show ObjOk X.prog X.w H1 s1.heap dx (xdO dx fs) from I1.hok dx _ hdx);obtain ⟨w',hw,rw'⟩:=RelO.some_of (v:=y) (o:=mA f) (by rw [<-hl];exact hm f);exact HT.exc_attr k.toExcKind nf I1.kIn k.hd he hc hdat hod hn hw (GF rw') ⟨y,H1,I1.tok _,rw',q⟩
end L2
namespace HT
open PySem PySem.Spec PyProof.Rows PySem.W PySem.Calls PySem.Builtin PySem.Builtin.ObjectAttr PySem.Builtin.Getset_descriptor
def Et:List Value:=[.type "ValueError", .type "Exception", .type "BaseException", .type "object"]
def DE:List Value->Bool
  | .ref _::r=>DE r
  | l=>l == Et
theorem IX (self:Value):refuseLoop self "__setattr__" Et=pure ():=by kernel_rfl
theorem EV:∀ {l:List Value},DE l=true->l=Et\/∃ c r,l= .ref c::r/\DE r=true
  | [],e=> .inl (beq_iff_eq.mp e)
  | v::r,e=>by
    cases v with
    | ref c=>exact .inr ⟨c,r,rfl,e⟩
    | _=>exact .inl (beq_iff_eq.mp e)
theorem EM (self:Value):∀ (n:Nat) (l:List Value),l.length<=n->DE l=true->refuseLoop self "__setattr__" l=pure ()
  | 0,l,h,e=>by
    have z:=List.length_eq_zero_iff.mp (Nat.le_zero.mp h);subst z;cases e
  | n+1,l,h,e=>by
    rcases EV e with rfl | ⟨c,r,rfl,e'⟩
    · exact IX self
    · rw [refuseLoop_ref];exact EM self n r (by simp at h;omega) e'
theorem Ke {l:List Value} (n:Nat) (h:l.length<=n) (e:DE l=true):l.contains (.type "object")=true:=by
  induction n generalizing l with
  | zero=>
    have z:=List.length_eq_zero_iff.mp (Nat.le_zero.mp h);subst z;cases e
  | succ n ih=>
    rcases EV e with rfl | ⟨c,r,rfl,e'⟩
    · decide
    · rw [List.contains_cons,ih (by simp at h;omega) e',Bool.or_true]
def exOver (K:Frag) (C:Addr):Bool:=(clsIn K C).any λ cd=>DE cd.mro
section
variable {prog:Program} {w:World} {A:Around} {E:Value->Shared->Prop} {s:Shared} {K:Frag} {a C dx:Addr} {o:Obj} {f:Str} {mA:Str->Option Value} {v:Value} {vs:Array Value}
theorem JC {Q:Unit->Shared->Prop} (X:K.In s.heap) (hs:findIn K (.ref C) "__setattr__"=some (some (.builtin "object.__setattr__"))) (hp:exOver K C=true) (ht:takerIn K C f=some none) (x:ExcAt a C s.heap)
    (h:∀ b,wpAny (model prog w) A.in1 (storeInOwnDict (.ref a) (.ref C) (.str f s.toks) f v b) (λ fin s'=>match fin with | .done (.ret _)=>Q () s' | _=>False) E { s with toks:=s.toks+1 }):
    wpAny (model prog w) A (setAttr (.ref a) f v) Q E s:=by
  have SF:=PySem.F.store_object;obtain ⟨cd,hc,ho⟩:=any_some hp;have ne:cd.mro.isEmpty=false:=by cases q:cd.mro with | nil=>rw [q] at ho;cases ho | cons _ _=>rfl
  have L0:=x.type (M:=model prog w);have sub:Looks (model prog w) s.heap (isInstance (.ref a) (.type "object")) true:=L0.andThen (looks_mroIn X (by unfold mroIn;rw [hc,Option.bind_some,if_neg (by rw [ne];decide),Ke _ (Nat.le_refl _) ho]));obtain ⟨attr,ha,hr⟩:=Option.bind_eq_some_iff.mp ht;have hm:Looks (model prog w) s.heap (mroOf (.ref C)) cd.mro:=(looks_clsIn X hc).andThen .now;have L3:Looks (model prog w) s.heap (storeTaker? attr) none:=by
    cases attr with
    | none=>cases hr;exact .now
    | some a=>
      obtain ⟨b,hb,hbb⟩:=Option.map_eq_some_iff.mp hr;refine (looks_takesIn X hb).andThen ?_;cases b with
      | true=>cases hbb
      | false=>exact .now
  refine wpAny_bind (wpAny_mkText (wpAny_bind (wpAny_bind (wpAny_bind (L0 _ _ _ _ (λ _ _ e=>e) (looks_findIn X hs _ _ _ _ (λ _ _ e=>e) (wpAny_holding ?_)))))));rw [SF.slot.bind];refine wpAny_bind (wpAny_pure (wpAny_bind (wpAny_call (codeAny_call_builtin SF.slot.plain SF.entry (@check_slot (model prog w) _ _ { s with toks:=s.toks+1 } "object.__setattr__" "object" "__setattr__" (.ref a) [.str f s.toks,v] [] _ SF.kind SF.split sub (SF.args (.ref a) (.str f s.toks) v) ?_)))));show wpAny _ _ (Builtin.«object.__setattr__» ⟨[.ref a, .str f s.toks,v],[]⟩) _ _ _;rw [osa_eq,refuse_eq];refine wpAny_bind (wpAny_bind (Looks.here (s:={ s with toks:=s.toks+1 }) L0 (wpAny_bind (Looks.here (s:={ s with toks:=s.toks+1 }) hm ?_))));rw [EM _ _ _ (Nat.le_refl _) ho];refine wpAny_pure (wpAny_bind (Looks.here (s:={ s with toks:=s.toks+1 }) L0 (wpAny_bind (Looks.here (s:={ s with toks:=s.toks+1 }) (looks_findIn X ha) (wpAny_bind (Looks.here (s:={ s with toks:=s.toks+1 }) L3 ?_))))));refine wpAny_mono (h _) (λ fin s' z=> ?_) λ e s' z=>z;cases fin with
  | again c'=>exact False.elim z
  | done f=>
    cases f with
    | ret u=>exact wpAny_pure (wpAny_pure z)
    | next=>exact False.elim z
    | brk=>exact False.elim z
    | cont=>exact False.elim z
theorem exc_set {ns:List Str} {Q:Unit->Shared->Prop} (X:K.In s.heap) (hs:findIn K (.ref C) "__setattr__"=some (some (.builtin "object.__setattr__"))) (hp:exOver K C=true) (ht:takerIn K C f=some none) (hd:(clsIn K C).any (·.hasDict)=true)
    (he:s.heap.get? a=some o) (hc:o.cls= .ref C) (ho:o.dict=some dx) (hn:s.heap.Ns1 dx mA) (hw:PySem.Within mA ns) (hsz:ns.length<=1000)
    (h:∀ h',h'.Ns1 dx (λ y=>if y=f then some v else mA y)->Heap.SameBut dx s.heap h'->Q () { s with heap:=h',toks:=s.toks+2 }):wpAny (model prog w) A (setAttr (.ref a) f v) Q E s:=by
  refine JC X hs hp ht ⟨o,he,hc⟩ λ b=> ?_;obtain ⟨cd,hcd,hhd⟩:=any_some hd;obtain ⟨oc,od,dat,sl⟩:=o;dsimp only at hc ho;subst hc ho;refine wpAny_bind (wpAny_pure (wpAny_bind (wpAny_bind (wpAny_loadPart he (wpAny_bind (Looks.here (s:={ s with toks:=s.toks+1 }) (looks_clsIn X hcd) ?_))))));rw [hhd];refine wpAny_pure (a:=some dx) (wpAny_bind (wpAny_pure (wpAny_bind ?_)));refine wpAny_nsSet1 (s:={ s with toks:=s.toks+1 }) hn λ h' hn2 hs2=> ?_;obtain ⟨oD,esD,epD,hoD,hdD,hcD⟩:=hn2.count (PySem.Within.cons f v hw);refine wpAny_bind (wpAny_lookBehind hoD (by rw [hdD];exact pastItsLine_dict (Nat.le_trans hcD (by rw [List.length_cons,sizeLine_eq];omega))) ?_);exact wpAny_pure (h _ hn2 hs2)
theorem KS {M:Model} {sl:Array (Option Value)} {cd:ClassData} {Q:Option Addr->Shared->Prop} (X:K.In s.heap) (hcd:clsIn K C=some cd) (hhd:cd.hasDict=true) (he:s.heap.get? a=some ⟨.ref C,none, .fields vs,sl⟩)
    (h:Q (some s.heap.objs.size) { s with heap:=(s.heap.push { cls:= .type "dict",data:= .dict #[] }).update a (λ o=>{ o with dict:=some s.heap.objs.size }) }):wpAny M A (instanceDict a true) Q E s:=by
  unfold instanceDict;refine wpAny_bind (wpAny_loadPart he ?_);refine wpAny_bind (Looks.here (looks_clsIn X hcd) ?_);rw [hhd];dsimp only [Bool.not_true];rw [if_neg (show ¬ ((!true)=true) from Bool.false_ne_true)];have ht:(!true|| !typeHasDict (.ref C))=false:=rfl;rw [ht,if_neg Bool.false_ne_true];have he1:=Heap.get?_push_of_some { cls:= .type "dict",data:= .dict #[] } he;refine wpAny_bind (wpAny_alloc ?_);refine wpAny_bind (wpAny_update (s:={ s with heap:=s.heap.push { cls:= .type "dict",data:= .dict #[] } }) he1 ?_);unfold dictMade;exact wpAny_pure h
theorem Ib:StrKeys (#[]:Array DictEntry):=λ e he=>absurd he (by simp)
theorem Hr:UniqKeys (#[]:Array DictEntry):=List.Pairwise.nil
theorem exc_set0 {Q:Unit->Shared->Prop} (X:K.In s.heap) (hs:findIn K (.ref C) "__setattr__"=some (some (.builtin "object.__setattr__"))) (hp:exOver K C=true) (ht:takerIn K C f=some none) (hd:(clsIn K C).any (·.hasDict)=true)
    (he:s.heap.get? a=some o) (hc:o.cls= .ref C) (hf:o.data= .fields vs) (ho:o.dict=none)
    (h:∀ h',h'.get? a=some { o with dict:=some s.heap.objs.size }->h'.Ns1 s.heap.objs.size (λ y=>if y=f then some v else none)->(∀ b ob,b≠a->s.heap.get? b=some ob->h'.get? b=some ob)->Q () { s with heap:=h',toks:=s.toks+2 }):
    wpAny (model prog w) A (setAttr (.ref a) f v) Q E s:=by
  refine JC X hs hp ht ⟨o,he,hc⟩ λ b=> ?_;obtain ⟨cd,hcd,hhd⟩:=any_some hd;obtain ⟨oc,od,dat,sl⟩:=o;dsimp only at hc ho hf;subst hc ho hf;have na:a≠s.heap.objs.size:=Nat.ne_of_lt (Heap.lt_size he);have he1:=Heap.get?_push_of_some { cls:= .type "dict",data:= .dict #[] } he;refine wpAny_bind (wpAny_pure (wpAny_bind (KS (s:={ s with toks:=s.toks+1 }) X hcd hhd he ?_)));have hn1:((s.heap.push { cls:= .type "dict",data:= .dict #[] }).update a (λ o=>{ o with dict:=some s.heap.objs.size })).Ns1 s.heap.objs.size (λ _=>none):=by
    refine ⟨{ cls:= .type "dict",data:= .dict #[] }, #[],0,?_,rfl,Ib,Hr,λ name=>rfl⟩;rw [Heap.get?_update_other _ _ na];exact Heap.get?_push_size _ rfl
  have ha1:((s.heap.push { cls:= .type "dict",data:= .dict #[] }).update a (λ o=>{ o with dict:=some s.heap.objs.size })).get? a=some ⟨.ref C,some s.heap.objs.size, .fields vs,sl⟩:=Heap.get?_update_self _ he1 rfl;have hk:∀ b ob,b≠a->s.heap.get? b=some ob->((s.heap.push { cls:= .type "dict",data:= .dict #[] }).update a (λ o=>{ o with dict:=some s.heap.objs.size })).get? b=some ob:=λ b ob hb e=>by
    rw [Heap.get?_update_other _ _ (Ne.symm hb)];exact Heap.get?_push_of_some _ e
  generalize (s.heap.push { cls:= .type "dict",data:= .dict #[] }).update a (λ o=>{ o with dict:=some s.heap.objs.size })=h1 at hn1 ha1 hk ⊢;show wpAny _ _ (storeInDict s.heap.objs.size (.str f s.toks) f v) _ _ _;unfold storeInDict;refine wpAny_bind (wpAny_pure (wpAny_bind ?_));refine wpAny_nsSet1 (s:={ s with heap:=h1,toks:=s.toks+1 }) hn1 λ h' hn2 hs2=> ?_;obtain ⟨oD,esD,epD,hoD,hdD,hcD⟩:=hn2.count (PySem.Within.cons f v PySem.Within.nil);refine wpAny_bind (wpAny_lookBehind hoD (by rw [hdD];exact pastItsLine_dict (Nat.le_trans hcD (by rw [List.length_cons,sizeLine_eq];simp))) ?_);exact wpAny_pure (h _ ((hs2.2 _ na).trans ha1) hn2 λ b ob hb e=>(hs2.2 b (Nat.ne_of_lt (Heap.lt_size e))).trans (hk b ob hb e))
end
end HT
namespace L2
open PySem PySem.Spec PyProof.Rows PySem.W
structure XSet (K:PySem.W.Frag) (C:Addr):Prop where
  sa:findIn K (.ref C) "__setattr__"=some (some (.builtin "object.__setattr__"))
  ov:HT.exOver K C=true
  hd:(clsIn K C).any (·.hasDict)=true
def xnO (a C:Addr) (od:Option Addr):HO:= .ext λ h=>∃ t,h.get? a=some ⟨.ref C,od, .fields #[.ref t, .none, .none, .none, .bool false, .none], #[]⟩
theorem Lz {P:Program} {w:World} {H:Hp} {h:Heap} {a C t:Addr} {od:Option Addr} (e:h.get? a=some ⟨.ref C,od, .fields #[.ref t, .none, .none, .none, .bool false, .none], #[]⟩):ObjOk P w H h a (xnO a C od):=
  ⟨⟨t,e⟩,⟨_,e⟩,λ _ _ ⟨t,e⟩ k=>⟨t,k _ e⟩⟩
def N2 (K:PySem.W.Frag) (f:Str) (to tv:TE):TS:=λ D σ H=>tv σ H λ y H1=>to σ H1 λ x H2=>∃ a C od,x= .ref a/\H2 a=some (xnO a C od)/\XSet K C/\takerIn K C f=some none/\
  ((od=none/\∀ dx,H2 dx=none->D.nx σ (upd (upd H2 dx (xdO dx [(f,y)])) a (xnO a C (some dx))))\/∃ dx fs,od=some dx/\H2 dx=some (xdO dx fs)/\fs.length<1000/\D.nx σ (upd H2 dx (xdO dx (AQ f y fs))))
theorem BM {X:Cx} {K:PySem.W.Frag} {o value:Expr} {f:Str} {to tv:TE} {pos pos':Pos} (ha:PE X o to) (hv:PE X value tv) (hs:swapsWith value (some (.Attribute o f pos')) pos.line X.env=pure false) (hK:X.K=K:=by rfl):
    PS X (.Assign [.Attribute o f pos'] value pos) (N2 K f to tv):=by
  subst hK;intro pins s σ H D I h;refine plainObj_wpAny_Assign_Attribute (thn (hv pins s σ H _ I h) λ u s1 ⟨y,H1,I1,ry,q⟩=>thn (ha pins s1 σ H1 _ I1 q) λ ov s2 ⟨x,H2,I2,rx,a,C,od,ex,ea,k,ht,q2⟩=> ?_) hs;subst ex;obtain rfl:ov=Value.ref a:=rx;obtain ⟨⟨t,he⟩,_⟩:=(show ObjOk X.prog X.w H2 s2.heap a (xnO a C od) from I2.hok a _ ea);rcases q2 with ⟨rfl,q2⟩ | ⟨dx,fs,rfl,hdx,hl,q2⟩
  · refine HT.exc_set0 I2.kIn k.sa k.ov ht k.hd he rfl rfl rfl λ h' ha' hn' keep=>⟨σ,_,?_,q2 s2.heap.objs.size I2.fresh⟩;have fr:=I2.fresh;generalize hdx:s2.heap.objs.size=dx at ha' hn' fr ⊢;have na:a≠dx:=λ z=>by rw [z,fr] at ea;cases ea
    have neA:∀ b u,H2 b=some u->(∀ φ,u≠ .ext φ)->b≠a:=λ b u e n z=>by rw [z,ea] at e;cases e;exact n _ rfl
    have neD:∀ b u,H2 b=some u->b≠dx:=λ b u e z=>by rw [z,fr] at e;cases e
    have oD:∀ b ob,s2.heap.get? b=some ob->b≠dx:=λ b ob e z=>by rw [<-hdx] at z;exact absurd (Heap.lt_size e) (by rw [z];exact Nat.lt_irrefl _)
    have eH:∀ b,b≠a->b≠dx->upd (upd H2 dx (xdO dx [(f,y)])) a (xnO a C (some dx)) b=H2 b:=λ b h1 h2=>by rw [Af h1,Af h2]
    refine I2.un (t':=s2.toks+2) ⟨λ b ob e hH hn hx=> ?_,λ b ob e hH hb hx=> ?_,λ b ob e hH hx=> ?_,λ b ob e hx=> ?_,λ b xs e=> ?_,λ b ob u e=> ?_,λ b ps e=> ?_⟩ λ b u e=> ?_
    · exact keep b ob (λ z=>by rw [z,ea] at hH;cases hH) e
    · exact ⟨ob.slots,keep b ob (λ z=>by rw [z,ea] at hH;cases hH) e⟩
    · rw [eH b (λ z=>by rw [z,ea] at hH;cases hH) (oD b ob e)];exact hH
    · by_cases z:b=a
      · rw [z];exact ⟨_,ha'⟩
      · exact ⟨ob,keep b ob z e⟩
    · rw [eH b (neA b _ e λ φ z=>by cases z) (neD b _ e)];exact e
    · rw [eH b (neA b _ e λ φ z=>by cases z) (neD b _ e)];exact e
    · exact ⟨#[],by rw [eH b (neA b _ e λ φ z=>by cases z) (neD b _ e)];simpa using e⟩
    · by_cases z:b=a
      · subst z;rw [Ac] at e;cases e;exact Lz (t:=t) ha'
      · rw [Af z] at e;by_cases z2:b=dx
        · subst z2;rw [Ac] at e;cases e;refine Oo hn' (λ g=> ?_) (PySem.Within.cons f _ PySem.Within.nil);show RelO (List.lookup g [(f,y)]) (if g=f then some _ else none);rw [List.lookup_cons];by_cases q:g=f
          · rw [if_pos q,q,beq_self_eq_true];exact ry
          · rw [if_neg q,show (g == f)=false from beq_eq_false_iff_ne.mpr q];exact True.intro
        · rw [Af z2] at e;refine (I2.hok b u e).stay (λ c v hc q=>keep c v ?_ q) (λ c q=> ?_) λ c xs q=> ?_
          · rcases hc with rfl | hc
            · exact z
            · exact neA c _ hc λ φ z=>by cases z
          · rw [eH c (neA c _ q λ φ z=>by cases z) (neD c _ q)];exact q
          · rw [eH c (neA c _ q λ φ z=>by cases z) (neD c _ q)];exact q
  · obtain ⟨⟨mA,hn,hm,hw⟩,_⟩:=(show ObjOk X.prog X.w H2 s2.heap dx (xdO dx fs) from I2.hok dx _ hdx);refine HT.exc_set I2.kIn k.sa k.ov ht k.hd he rfl rfl hn hw (by rw [List.length_map];omega) λ h' hn' sb=>⟨σ,_,?_,q2⟩;refine I2.write (x:=dx) (e:=dx) (t':=s2.toks+2) (by rw [hdx];exact True.intro) (.inl rfl) (λ b q hb z=>(sb.2 b hb).trans z) (let ⟨o,_,_,e,_⟩:=hn';⟨o,e⟩) (Oo hn' (λ g=> ?_) λ g hg=> ?_)
    · show RelO ((AQ f y fs).lookup g) (if g=f then some u else mA g);rw [Dh];by_cases q:g=f
      · rw [if_pos q,if_pos q];exact ry
      · rw [if_neg q,if_neg q];exact hm g
    · by_cases q:g=f
      · rw [q];exact (Cq f y fs).1
      · refine (Cq f y fs).2 g (hw g λ z=>hg ?_);show (if g=f then some u else mA g)=none;rw [if_neg q];exact z
end L2
namespace HT
open PySem PySem.Spec PyProof.Rows PySem.W PySem.Calls PySem.Builtin
def iniIn (K:Frag) (C fi:Addr):Bool:=match K.lookup C with
  | some ⟨.type "type",_, .cls cd,sl⟩=>(match cd.mro,sl.toList with
    | .ref C'::bm,[_,_,_,_,some (.builtin n),_]=>C' == C&&n == "ValueError.__new__"&& !cd.hasDel&&tailIn K Et bm&&nsOkIn K cd.ns&&nsIn K cd.ns "__init__" == some (some (.ref fi))
    | _,_=>false)
  | _=>false
def Lx (h:Heap) (C fi:Addr):Prop:=∃ bm N nm q bs hdct sn sub ab col dd k0 k1 k2 k3 k5 mN,h.get? C=some (excClassObj nm q C N bs bm hdct sn sub ab col dd k0 k1 k2 k3 k5 "ValueError.__new__")/\h.Ns N mN/\mN "__init__"=some (.ref fi)/\OwnTail h Et bm
theorem IW {K:Frag} {h:Heap} {N:Addr} {mg:Str->Option Value} {n:Str} {v:Value} (X:K.In h) (G:h.Ns N mg) (e:nsIn K N n=some (some v)):mg n=some v:=by
  obtain ⟨o,es,ep,ho,hd,_,hf⟩:=G;unfold nsIn at e;split at e
  · rename_i c d es' n' sl q
    have:=X _ _ q;rw [ho] at this;cases this;cases hd;split at e
    · rename_i en he
      cases e;rw [<-hf];unfold nsFind findBy;rw [<-Array.find?_toList,he];rfl
    · split at e
      · cases e
      · cases e
  · cases e
theorem ini_of {K:Frag} {h:Heap} {C fi:Addr} (X:K.In h) (q:iniIn K C fi=true):Lx h C fi:=by
  unfold iniIn at q;split at q
  · rename_i dd cd sl ho
    split at q
    · rename_i C' bm k0 k1 k2 k3 n k5 hm' hs
      simp only [Bool.and_eq_true,beq_iff_eq,Bool.not_eq_true'] at q;obtain ⟨⟨⟨⟨⟨rfl,rfl⟩,hdel⟩,ht⟩,hok⟩,hni⟩:=q;obtain ⟨nm,bs,mro,ns,qn,hd,sn,sub,ab,col,del⟩:=cd;dsimp only at hm' hdel hok hni;subst hm' hdel;obtain ⟨l⟩:=sl;have hsl:l=[k0,k1,k2,k3,some (.builtin "ValueError.__new__"),k5]:=hs;subst hsl;exact ⟨bm,ns,nm,qn,bs,hd,sn,sub,ab,col,dd,k0,k1,k2,k3,k5,_,X _ _ ho, .of_isNs (isNs_of_in X hok),IW X (.of_isNs (isNs_of_in X hok)) hni,tail_of_in X ht⟩
    · cases q
  · cases q
section
variable {prog:Program} {w:World} {A:Around} {E:Value->Shared->Prop} {s:Shared} {K:Frag} {a C fi t0:Addr} {od:Option Addr} {u:Value}
theorem exc_initB {Q:Value->Shared->Prop} (i:Lx s.heap C fi) (he:s.heap.get? a=some ⟨.ref C,od, .fields #[.ref t0, .none, .none, .none, .bool false, .none], #[]⟩)
    (h:∀ h',h'.get? a=some ⟨.ref C,od, .fields #[.ref s.heap.objs.size, .none, .none, .none, .bool false, .none], #[]⟩->(∀ b ob,b≠a->s.heap.get? b=some ob->h'.get? b=some ob)->Q .none { s with heap:=h' }):
    wpAny (model prog w) A (call (.builtin "ValueError.__init__") [.ref a,u]) Q E s:=by
  obtain ⟨bm,N,nm,q,bs,hdct,sn,sub,ab,col,dd,k0,k1,k2,k3,k5,mN,hC,hN,hi,T⟩:=i;obtain ⟨hh,g,d,t,os⟩:=s;have F:=PySem.F.excBase_ValueError;refine wpAny_call (codeAny_call_builtin F.init.plain F.initEntry (wpAny_check_init_subT F T hC he rfl ?_))
  wp_walk
  have he1:=Heap.get?_push_of_some { cls:= .type "tuple",data:= .seq #[u] } he;refine h _ (Heap.get?_update_self _ he1 rfl) λ b ob hb e=> ?_;rw [Heap.get?_update_other _ _ (Ne.symm hb)];exact Heap.get?_push_of_some _ e
theorem exc_make {R:Result->Shared->Prop} {rest:List Value} (X:K.In s.heap) (i:Lx s.heap C fi) (hf:typeIn K (.ref fi)=some (.type "function")) (hrest:rest.length<=1000)
    (h:codeAny (model prog w) (A.under (.builtin "type.__call__" ⟨.ref C::rest,[]⟩)) (.call (.ref fi) ⟨.ref (s.heap.objs.size+1)::rest,[]⟩) (InitBack (s.heap.objs.size+1) R)
      { s with heap:=(s.heap.push { cls:= .type "tuple",data:= .seq rest.toArray }).push { cls:= .ref C,data:= .fields #[.ref s.heap.objs.size, .none, .none, .none, .bool false, .none] } }):
    codeAny (model prog w) A (.call (.ref C) ⟨rest,[]⟩) R s:=by
  obtain ⟨bm,N,nm,q,bs,hdct,sn,sub,ab,col,dd,k0,k1,k2,k3,k5,mN,hC,hN,hi,T⟩:=i;obtain ⟨hh,g,d,t,os⟩:=s;have F:=PySem.F.excBase_ValueError;have f1:=tc_lookup;have f2:=tc_bind (.ref C);have hT:(⟨hh,g,d,t,os⟩:Shared).TypeIs (.ref C) "type":=⟨_,hC,rfl⟩;refine codeAny_of_tree ?_;show wpAny _ _ (callAny (.ref C) _) _ _ _
  repeat (any_goals (first | assumption | with_reducible refine wpAny_loadPart_at hC ?_ | wp_step))
  refine ⟨rfl,?_⟩;refine codeAny_call_builtin_at (Code.quiet_builtin _ (by decide +kernel)) entry_typeCall (wpAny_check_type_call_sub hC ?_);show wpAny _ _ (Builtin.«type.__call__» ⟨.ref C::rest,[]⟩) _ _ _
  repeat (first | with_reducible refine wpAny_loadPart_at hC ?_ | with_reducible refine wpAny_madeBy_exc hC ?_ | wp_step)
  refine codeAny_call_builtin_code (Code.quiet_builtin _ F.quiet) (wpAny_check_new_subT F T hC ?_);refine codeAny_exc_new_subT F T hC ?_ (Nat.le_trans hrest (by decide));show wpAny _ _ _ _ _ _;have kp:∀ b o,hh.get? b=some o->((hh.push { cls:= .type "tuple",data:= .seq rest.toArray }).push { cls:= .ref C,data:= .fields #[.ref hh.objs.size, .none, .none, .none, .bool false, .none] }).get? b=some o:=λ b o e=>Heap.get?_push_of_some _ (Heap.get?_push_of_some _ e);have hC₁:=kp _ _ hC;have hn₁:=hN.keeps kp;have hget:((hh.push { cls:= .type "tuple",data:= .seq rest.toArray }).push { cls:= .ref C,data:= .fields #[.ref hh.objs.size, .none, .none, .none, .bool false, .none] }).get? (hh.objs.size+1)=some { cls:= .ref C,data:= .fields #[.ref hh.objs.size, .none, .none, .none, .bool false, .none] }:=by heap_get
  have hcC:(Value.ref C::bm).contains (.ref C)=true:=by simp
  have T₁:=T.keeps kp;unfold isInstance
  repeat (first | with_reducible refine wpAny_loadPart_at hget ?_ | (with_reducible refine wpAny_isSubtype_exc hC₁ ?_;rw [hcC]) | wp_step)
  show wpAny _ _ (typeLookup (.ref C) _) _ _ _;refine wpAny_typeLookup_tail hC₁ hn₁ T₁ F.mroIs F.init.lookup ?_;rw [hi];have b1:=bind_fn (M:=model prog w) (Frag.In.keeps X kp) (.ref (hh.objs.size+1)) hf
  repeat (first | with_reducible refine wpAny_call ?_ | lk)
  refine codeAny_mono h λ r s' z=> ?_;rcases r with e | (v | _ | _ | _) <;> first | exact z | exact z.elim | skip;obtain ⟨rfl,z⟩:=z;exact wpAny_pure (wpAny_pure z)
end
end HT
namespace L2
open PySem PySem.Spec PyProof.Rows PySem.W
def Qi (te:TE):TE:=λ σ H Q=>te σ H λ v H1=>(∃ i:Int,v= .int i/\i.natAbs.log2<1920/\Q (.str (Str.ofString (toString i))) H1)\/∃ x:Str,v= .str x/\x.length<=100000/\Q (.str x) H1
theorem CF {X:Cx} {e:Expr} {te:TE} {pos:Pos} (he:PE X e te):PE X (.FormattedValue e (-1) none pos) (Qi te):=by
  intro pins s σ H Q I h;refine FormattedValue_plain (thn (he pins s σ H _ I h) λ u s1 ⟨v,H1,I1,rv,q⟩=> ?_);rcases q with ⟨i,rfl,hi,q⟩ | ⟨x,rfl,hx,q⟩
  · obtain ⟨t,rfl⟩:=rv;exact formatField_int_small hi ⟨.str _,H1,I1.tok _,⟨_,rfl⟩,q⟩
  · obtain ⟨t,rfl⟩:=rv;exact formatField_str (λ t' tk=>⟨.str _,H1,I1.tok _,⟨_,rfl⟩,q⟩) (Nat.le_trans hx (by decide))
def PEs (X:Cx):List Expr->List TE->Prop
  | [],[]=>True
  | e::es,t::ts=>PE X e t/\PEs X es ts
  | _,_=>False
theorem EC {X:Cx}:PEs X [] []:=trivial
theorem AA {X:Cx} {e:Expr} {es:List Expr} {t:TE} {ts:List TE} (h:PE X e t) (hs:PEs X es ts):PEs X (e::es) (t::ts):=⟨h,hs⟩
def GC:List TE->Str->St->Hp->VK->Prop
  | [],out,_,H,Q=>Q (.str out) H
  | t::ts,out,σ,H,Q=>t σ H λ v H1=>∃ y,v= .str y/\(out++y).length<=100000/\GC ts (out++y) σ H1 Q
theorem HG {X:Cx}:∀ (es:List Expr) (ts:List TE) (out:Str) (pins:List (Addr × Obj)) (s:Shared) (σ:St) (H:Hp) (Q:VK),PEs X es ts->out.length<=100000->Inv X pins σ H s->GC ts out σ H Q->
    wpAny (model X.prog X.w) X.A (joinParts out (evalEach es X.env)) (EP X pins σ Q) X.xe s
  | [],[],out,pins,s,σ,H,Q,_,hl,I,h=>joinParts_nil ⟨.str _,H,I.tok _,⟨_,rfl⟩,h⟩ (Nat.le_trans hl (by decide))
  | e::es,t::ts,out,pins,s,σ,H,Q,⟨he,hes⟩,hl,I,h=>by
    refine joinParts_cons (thn (he pins s σ H _ I h) λ u s1 ⟨v,H1,I1,rv,y,ev,hz,q⟩=> ?_);subst ev;obtain ⟨tk,rfl⟩:=rv;exact ⟨Nat.le_trans hz (by decide),HG es ts (out++y) pins s1 σ H1 Q hes hz I1 q⟩
theorem Cm {X:Cx} {v₁ v₂:Expr} {rest:List Expr} {ts:List TE} {pos:Pos} (h:PEs X (v₁::v₂::rest) ts):PE X (.JoinedStr (v₁::v₂::rest) pos) (GC ts Str.empty):=by
  intro pins s σ H Q I hq;exact JoinedStr_many (HG _ ts Str.empty pins s σ H Q h (by decide) I hq)
theorem Me {H:Hp} {a:Addr} {o:HO} (h:H a=some o):upd H a o=H:=by
  funext b;by_cases z:b=a
  · rw [z,Ac,h]
  · rw [Af z]
structure XBase (K:PySem.W.Frag) (CL:Addr):Prop where
  sp:specialIn K (.ref CL) "__getattribute__"=some (some (.builtin "type.__getattribute__"))
  rd:readsIn K CL (.type "type")=true
  fc:findCls K (.ref CL) (.type "type") "__init__"=some (.val (.builtin "ValueError.__init__"))
def KZ (K:PySem.W.Frag) (t:TA):TE:=λ σ H Q=>t σ H λ vs H1=>∃ a C od fi z,vs=[.ref a, .str z]/\H1 a=some (xnO a C od)/\HT.iniIn K C fi=true/\Q .non H1
theorem Dp {pl:Sem Bool} {X:Cx} {K:PySem.W.Frag} {x:Str} {CL:Addr} {p apos pos:Pos} {e₁ e₂:Expr} {t:TA} (hm:X.mg x=some (.ref CL)) (b:XBase K CL) (ha:PA X [e₁,e₂] t) (hK:X.K=K:=by rfl) (hg:Gl X x:=by rfl) (hd:(x == ("__debug__":Str))=false:=by decide)
    (he:starEach [e₁,e₂] X.env=(false,eval e₁ X.env)::starEach [e₂] X.env:=by rfl) (hpl:(backTo pos (starEach [e₂] X.env)).any (·.1)=false:=by rfl)
    (ht:eval (.Call (.Attribute (.Name x p) "__init__" apos) [e₁,e₂] [] pos) X.env=(do
      let ov <-eval (.Name x p) X.env
      standAt apos.atName
      let (f,first) <-holding [ov] (getMethod ov "__init__" pl)
      callWith pos f first (backTo pos (starEach [e₁,e₂] X.env)) (backToKw pos (keywordEach [] X.env))):=by rfl):
    PE X (.Call (.Attribute (.Name x p) "__init__" apos) [e₁,e₂] [] pos) (KZ K t):=by
  subst hK;intro pins s σ H Q I h;refine PySem.W.methodCall_KW (pl:=pl) (Cz I hg hm ?_ hd) ht;refine method_cls I.kIn b.sp (cls_value I.kIn b.rd b.fc (by decide +kernel) ?_);have I0:Inv X pins σ H { s with toks:=s.toks+1 }:=I.tok _;refine PyProof.Rows.callWith_builtin1 (thn (ha pos pins _ σ H _ I0 h) λ us s1 ⟨vs,H1,I1,r1,a,C,od,fi,z,ev,ea,hi,q⟩=> ?_) he hpl;subst ev;obtain ⟨u1,u2,rfl,r1',r2'⟩:=JK r1;obtain rfl:u1=Value.ref a:=r1';obtain ⟨⟨t0,hea⟩,_⟩:=(show ObjOk X.prog X.w H1 s1.heap a (xnO a C od) from I1.hok a _ ea);refine HT.exc_initB (HT.ini_of I1.kIn hi) hea λ h' ha' keep=>⟨.non,H1,?_,rfl,q⟩;have J:=I1.write (x:=a) (e:=a) (o:=xnO a C od) (t':=s1.toks) (by rw [ea];exact True.intro) (.inl rfl) (λ b ob hb e=>keep b ob hb e) ⟨_,ha'⟩ (Lz ha');rw [Me ea] at J;exact J
section
variable {P:Program} {w:World} {K:PySem.W.Frag} {mg:Str->Option Value} {base:Heap} {N:List Str} {qual:Str} {scope:Scope} {f:Addr} {cd:Value} {A:Around} {outer:List Env} {s₀:Shared} {H₀:Hp} {E:XK}
end
end L2
namespace HT
open PySem PySem.Spec PyProof.Rows PySem.W PySem.Calls PySem.Builtin
end HT
namespace L2
open PySem PySem.Spec PyProof.Rows PySem.W
structure MkI (K:PySem.W.Frag) (C fi:Addr):Prop where
  ini:HT.iniIn K C fi=true
  fn:isFn K (.ref fi)=true
  kp:keepIn K (.ref C)=true
def BU (P:Program) (w:World) (K:PySem.W.Frag) (mg:Str->Option Value) (base:Heap) (x:Str) (C:Addr) (k:Nat) (ps:List Str) (sp:Sp):Prop:=
  ∃ fi fd,mg x=some (.ref C)/\MkI K C fi/\FnOk P w K mg base CX0 k fi fd ps sp/\Binds K fd ps []
section
variable {K:PySem.W.Frag} {σ:St} {H:Hp} {Q:VK} {D:Ends} {f:Str} {to tv te:TE} {t:TA} {E:XK} {C:Addr} {sp:Sp} {ts:List TE} {out:Str}
theorem A8 (h:findIn K (.ref C) f=some none):takerIn K C f=some none:=by unfold takerIn;rw [h];rfl
theorem Dn (h:t σ H λ vs H1=>∃ a C od fi z,vs=[.ref a, .str z]/\H1 a=some (xnO a C od)/\HT.iniIn K C fi=true/\Q .non H1):KZ K t σ H Q:=h
theorem BK (h:tv σ H λ y H1=>to σ H1 λ x H2=>∃ a C od,x= .ref a/\H2 a=some (xnO a C od)/\XSet K C/\takerIn K C f=some none/\
  ((od=none/\∀ dx,H2 dx=none->D.nx σ (upd (upd H2 dx (xdO dx [(f,y)])) a (xnO a C (some dx))))\/∃ dx fs,od=some dx/\H2 dx=some (xdO dx fs)/\fs.length<1000/\D.nx σ (upd H2 dx (xdO dx (AQ f y fs))))):N2 K f to tv D σ H:=h
theorem BQ (h:to σ H λ v H1=>∃ a C dx fs y,v= .ref a/\H1 a=some (A7 a C (some dx))/\H1 dx=some (xdO dx fs)/\fs.lookup f=some y/\XKind K C/\findIn K (.ref C) f=some none/\Q y H1):NY K f to σ H Q:=h
theorem CI (h:te σ H λ v H1=>(∃ i:Int,v= .int i/\i.natAbs.log2<1920/\Q (.str (Str.ofString (toString i))) H1)\/∃ x:Str,v= .str x/\x.length<=100000/\Q (.str x) H1):Qi te σ H Q:=h
theorem AK (h:te σ H λ v H1=>∃ y,v= .str y/\(out++y).length<=100000/\GC ts (out++y) σ H1 Q):GC (te::ts) out σ H Q:=h
theorem Co (h:Q (.str out) H):GC [] out σ H Q:=h
end
end L2
namespace L2
open PySem PySem.Spec PyProof.Rows
section
variable {X:Cx} {elts:List Expr} {k:Nat} {tpos:Pos}
end
section
variable {K:PySem.W.Frag} {H:Hp} {i1 i2 off:Nat} {z:Str}
end
section
variable {X:Cx} {K:PySem.W.Frag}
end
theorem Aq {to ti:TE} {t:Nm} {v:V} {σ:St} {H:Hp} {Q:St->Hp->Prop} (h:to σ H λ o H1=>ti σ H1 λ i H2=>t o i v H2 λ H3=>Q σ H3):Qc to ti t v σ H Q:=h
theorem L4 {n i:Nat} (h:i<n):ixN n ((i:Nat):Int)=some i:=by
  unfold ixN;rw [if_pos (by omega),if_pos (by omega)];simp
end L2
namespace L2
open PySem PySem.Spec PyProof.Rows PySem.W
section
variable {prog:Program} {w:World} {A:Around} {E:Value->Shared->Prop} {s:Shared}
def O2 (t:Addr) (b:Bool) (TI:Addr) (v:Value):Obj:={ cls:= .type "zip",data:= .fields #[rawInt t, .bool b, .bool false, .ref TI,v] }
structure ZipAg (t1 t2:Bool) (h:Heap) (z TI i1 i2 l1 l2 t:Addr) (k:Nat):Prop where
  hz:∃ b v,h.get? z=some (O2 t b TI v)
  ht:∃ o,h.get? t=some o
  hTI:IsPair h TI (.ref i1) (.ref i2)
  h1:BD t1 h i1 l1 k
  h2:BD t2 h i2 l2 k
def Zst (t1 t2:Bool) (h:Heap) (z TI TO i1 i2 l1 l2:Addr) (k:Nat):Prop:=ZipSt t1 t2 h z TI TO i1 i2 l1 l2 k\/∃ t,ZipAg t1 t2 h z TI i1 i2 l1 l2 t k/\t≠i1/\t≠i2/\t≠z
theorem Zst.at' {t1 t2:Bool} {h h':Heap} {z TI TO i1 i2 l1 l2 D:Addr} {k:Nat} (Z:Zst t1 t2 h z TI TO i1 i2 l1 l2 k) (n:∀ c∈[z,TI,TO,i1,i2],c≠D) (kp:∀ c o,c≠D->h.get? c=some o->h'.get? c=some o) (hD:∃ o,h'.get? D=some o):Zst t1 t2 h' z TI TO i1 i2 l1 l2 k:=by
  have kz:=λ o=>kp z o (n z (by simp));have kTI:=λ o=>kp TI o (n TI (by simp));have kTO:=λ o=>kp TO o (n TO (by simp));have k1:=λ o=>kp i1 o (n i1 (by simp));have k2:=λ o=>kp i2 o (n i2 (by simp));rcases Z with ⟨hz,hTI,⟨c,d,hTO⟩,h1,h2⟩ | ⟨t,⟨⟨b,v,hz⟩,⟨o,ht⟩,hTI,h1,h2⟩,n1⟩
  · exact .inl ⟨kz _ hz,kTI _ hTI,⟨c,d,kTO _ hTO⟩,AE h1 λ o e=>k1 o e,AE h2 λ o e=>k2 o e⟩
  · refine .inr ⟨t,⟨⟨b,v,kz _ hz⟩,?_,kTI _ hTI,AE h1 λ o e=>k1 o e,AE h2 λ o e=>k2 o e⟩,n1⟩;by_cases e:t=D
    · rw [e];exact hD
    · exact ⟨o,kp t o e ht⟩
end
section
variable {X:Cx} {pins:List (Addr × Obj)} {σ:St} {H:Hp} {s:Shared} {A:Around} {E:Value->Shared->Prop}
end
section
variable {X:Cx} {K:PySem.W.Frag}
end
end L2
namespace L2
open PySem PySem.Spec PyProof.Rows
def Pn (P:Program) (w:World) (K:PySem.W.Frag) (mg:Str->Option Value) (base:Heap) (k:Nat) (f:Addr) (sp:Sp):Prop:=
  ∃ fd ps,PySem.W.keepIn K (.ref f)=true/\FnOk P w K mg base (CXE P w) k f fd ps sp/\Binds K fd ps []
theorem CallE.val {P:Program} {w:World} {K:PySem.W.Frag} {mg:Str->Option Value} {base:Heap} {x:Str} {k:Nat} {ps:List Str} {sp:Sp} (h:CallE P w K mg base x k ps sp):∃ f,mg x=some (.ref f)/\Pn P w K mg base k f sp:=
  let ⟨f,fd,hm,hk,F,hb⟩:=h;⟨f,hm,fd,ps,hk,F,hb⟩
section
variable {X:Cx} {e o:Expr} {es:List Expr} {t:TA} {to:TE} {pos:Pos} {S:Addr->Sp->Prop} {E:XK}
end
section
variable {X:Cx} {K:PySem.W.Frag} {tg l:Expr} {ta:TA} {p pos:Pos}
end
section
variable {K:PySem.W.Frag} {σ0:St} {H:Hp} {a:Addr} {xs:List V}
end
section
variable {X:Cx} {scope:Scope} {cx:Str}
end
structure FnA (K:PySem.W.Frag) (m q:Str) (st:Stmt) (ps:List Str) (f:Addr) (fd:FuncData):Prop where
  fn:Fun K m q st f fd
  bi:Binds K fd ps []
section
variable {K:PySem.W.Frag} {mg:Str->Option Value} {m q x:Str} {st:Stmt} {ps:List Str} {f:Addr} {fd:FuncData}
theorem def_mk (a:mg x=some (.ref f)) (F:Fun K x x st f fd) (b:∀ us:List Value,us.length=ps.length->bindArgs fd ⟨us,[]⟩=pure (ps.zip us)):DefAt K mg x st ps f fd:=⟨F,a, .all b⟩
theorem fnA_mk (F:Fun K m q st f fd) (b:∀ us:List Value,us.length=ps.length->bindArgs fd ⟨us,[]⟩=pure (ps.zip us)):FnA K m q st ps f fd:=⟨F, .all b⟩
theorem exc_mk {C:Addr} (a:PySem.W.isClsIn K C=true) (b:PySem.W.findIn K (.ref C) "__getattribute__"=some (some (.builtin "BaseException.__getattribute__"))) (c:PySem.W.findIn K (.ref C) "__getattr__"=some none) (d:PySem.W.mroIn K C (.type "BaseException")=some true) (e:PySem.W.findIn K (.ref C) "__class__"=some (some (.builtin "object.__class__")))
    (f:PySem.W.specialIn K (.builtin "object.__class__") "__get__"=some (some (.builtin "getset_descriptor.__get__"))) (g:PySem.W.takesIn K (.builtin "object.__class__")=some true) (h:PySem.W.mroIn K C (.type "object")=some true):HT.ExcKind K C:=⟨a,b,c,d,e,f,g,h⟩
theorem ci_mk {n:Int} {t:Tok} (h:mg x=some (.int n t)):∃ t,mg x=some (.int n t):=⟨t,h⟩
theorem cs_mk {z:Str} {t:Tok} (h:mg x=some (.str z t)):∃ t,mg x=some (.str z t):=⟨t,h⟩
theorem own_nil:Own mg []:=λ _ h=>by cases h
theorem own_cons {xs:List Str} (a:mg x=none) (h:Own mg xs):Own mg (x::xs):=λ y hy=>by
  rcases List.mem_cons.mp hy with rfl | hy
  · exact a
  · exact h y hy
end
theorem xk_mk {K:PySem.W.Frag} {C:Addr} (h:HT.ExcKind K C) (d:PySem.W.hasDictIn K C=true):XKind K C:=⟨h,d⟩
section
variable {prog:Program} {w:World} {κ:Type} [DecidableEq κ] (kd:KeyKind prog w κ)
inductive Rows2 (h:Heap):List (List κ)->List Value->Prop
  | nil:Rows2 h [] []
  | cons {k:List κ} {b:Addr} {r:List (List κ)} {us:List Value} (e:IsTupleKey kd h k b) (m:Rows2 h r us):Rows2 h (k::r) (.ref b::us)
variable {kd}
theorem Rows2.len {h:Heap} {r:List (List κ)} {us:List Value} (p:Rows2 kd h r us):r.length=us.length:=by
  induction p with
  | nil=>rfl
  | cons _ _ ih=>rw [List.length_cons,List.length_cons,ih]
variable {A:Around} {E:Value->Shared->Prop} {s:Shared}
end
section
variable {prog:Program} {w:World} {κ:Type} [DecidableEq κ] {kd:HeapKind prog w κ} {A:Around} {E:Value->Shared->Prop} {s:Shared}
end
section
variable {P:Program} {w:World} {H:Hp} {h:Heap}
end
end L2
namespace HT
open PySem PySem.Spec PyProof.Rows PySem.W
variable {prog:Program} {w:World} {A:Around} {E:Value->Shared->Prop} {s:Shared}
def rawIt (it d:Addr) (i n ep:Nat) (p q x y:Value) (h:Heap):Prop:=
  h.get? it=some ⟨.type "dict_itemiterator",none, .fields #[p,q, .ref d, .int i 0, .int n 0, .int ep 0,x,y], #[]⟩
theorem rawIt.type {it d:Addr} {i n ep:Nat} {p q x y:Value} (z:rawIt it d i n ep p q x y s.heap):s.TypeIs (.ref it) "dict_itemiterator":=⟨_,z,rfl⟩
def QZ (k v:Value):Obj:=⟨.type "tuple",none, .seq #[k,v], #[]⟩
def rawOwn (it S:Addr) (p q:Value) (h:Heap):Prop:=(p= .none/\q= .bool false)\/∃ a f oa,p=rawInt ((a:Nat):Int)/\q= .bool f/\h.get? a=some oa/\a≠it/\a≠S
theorem rawOwn.to {it S:Addr} {p q:Value} {h h':Heap} (z:rawOwn it S p q h) (k:∀ b o,b≠it->b≠S->h.get? b=some o->h'.get? b=some o):rawOwn it S p q h':=
  z.imp id λ ⟨a,f,oa,h1,h2,h3,h4,h5⟩=>⟨a,f,oa,h1,h2,k a oa h4 h5 h3,h4,h5⟩
def RSt (it d S:Addr) (i n ep:Nat) (h:Heap):Prop:=∃ p q x y,rawIt it d i n ep p q x y h/\rawOwn it S p q h
theorem RSt.to {it d S:Addr} {i n ep:Nat} {h h':Heap} (z:RSt it d S i n ep h) (ne:it≠S) (k:∀ b o,b≠S->h.get? b=some o->h'.get? b=some o):RSt it d S i n ep h':=
  let ⟨p,q,x,y,h1,h2⟩:=z;⟨p,q,x,y,k _ _ ne h1,h2.to λ b o _ hs=>k b o hs⟩
structure PairsAt (es:Array DictEntry) (lo:Addr) (h:Heap) (as:List Addr):Prop where
  up:as.Pairwise (· < ·)
  lo:∀ a∈as,lo<a
  at':∀ (j:Nat) (a:Addr),as[j]?=some a->∃ e,es[j]?=some e/\h.get? a=some (QZ e.key e.val)
theorem PairsAt.to {es:Array DictEntry} {lo:Addr} {h h':Heap} {as:List Addr} (g:PairsAt es lo h as) (k:∀ b o,lo<b->h.get? b=some o->h'.get? b=some o):PairsAt es lo h' as:=
  ⟨g.up,g.lo,λ j a hj=>let ⟨e,h1,h2⟩:=g.at' j a hj;⟨e,h1,k a _ (g.lo a (List.mem_of_getElem? hj)) h2⟩⟩
end HT
namespace L2
open PySem PySem.Spec PyProof.Rows
section
variable {X:Cx} {pins:List (Addr × Obj)} {σ:St} {H H':Hp} {s:Shared} {h':Heap}
end
section
variable {P:Program} {w:World} {H:Hp} {Q:VK} {σ:St} {to:TE} {t:TA} {r:V->List V->Hp->VK->Prop}
end
variable {X:Cx} {o e:Expr} {es:List Expr} {to:TE} {t:TA} {name:Str} {apos cpos:Pos} {id:String} {r:V->List V->Hp->VK->Prop}
end L2
namespace L2
open PySem PySem.Spec PyProof.Rows PySem.W
section
variable {K:PySem.W.Frag} {a b:Addr} {xs zs:List V} {H:Hp} {σ0:St}
end
end L2
namespace HT
open PySem PySem.Spec PyProof.Rows PySem.SeqAt
open PySem.AutoSeq1 (wpAny_loadPart')
open PySem.MeetsSeq PySem.MeetsSeq2 PySem.MeetsSeq3
theorem B3:plainId "range.__contains__.loop"=true:=by decide +kernel
theorem EY:entryFor table "range.__contains__.loop"=some Builtin.«range.__contains__.loop» := entryFor_of_fast (by kernel_rfl)
def IsR (h:Heap) (r:Addr) (a b:Int):Prop:=∃ t u v,h.get? r=some { cls:= .type "range",data:= .fields #[.int a t, .int b u, .int 1 v] }
theorem BX {prog:Program} {w:World} {A:Around} {E:Value->Shared->Prop} {s:Shared} {r:Addr} {a b:Int} {Q:Int × Int × Int->Shared->Prop} (hr:IsR s.heap r a b)
    (h:Q (a,b,1) s):wpAny (model prog w) A (Builtin.Range.rangeFields (.ref r)) Q E s:=by
  obtain ⟨t,u,v,hr⟩:=hr;unfold Builtin.Range.rangeFields;refine wpAny_bind (wpAny_field hr rfl (x:= .int a t) rfl ?_);refine wpAny_bind (m:=asInt? _) (wpAny_pure ?_);refine wpAny_bind (wpAny_field hr rfl (x:= .int b u) rfl ?_);refine wpAny_bind (m:=asInt? _) (wpAny_pure ?_);refine wpAny_bind (wpAny_field hr rfl (x:= .int 1 v) rfl ?_);refine wpAny_bind (m:=asInt? _) (wpAny_pure ?_);exact wpAny_pure h
theorem QE (r:Addr) (a b:Int) (x:Value) (k:Nat):
    ∀ (i:Nat),(Builtin.Range.rangeSize a b 1).toNat - i=k->Meets (Builtin.«range.__contains__.loop» ⟨[.ref r,x,rawInt i],[]⟩)
      (λ A R s=>IsR s.heap r a b/\(∀ tk t j,EqAt A.in1 { s with toks:=tk } (.int j t) x false)/\∀ tk,R (.ok (.ret (.bool false))) { s with toks:=tk }):=by
  induction k with
  | zero=>
    intro i hk prog w A R s h;obtain ⟨hr,he,h⟩:=h;show wpAny _ _ (Builtin.Range.rangeFields (.ref r) >>= _) _ _ s;refine wpAny_bind (BX hr ?_);dsimp only;rw [if_pos (by omega)];exact wpAny_pure (h s.toks)
  | succ k ih=>
    intro i hk prog w A R s h;obtain ⟨hr,he,h⟩:=h;show wpAny _ _ (Builtin.Range.rangeFields (.ref r) >>= _) _ _ s;refine wpAny_bind (BX hr ?_);dsimp only;rw [if_neg (by omega)];refine wpAny_bind (wpAny_mkInt ?_);refine wpAny_bind (he (s.toks+1) _ _ prog w _ _ ?_);rw [if_neg (by decide)];have hc:((i:Int)+1)=((i+1:Nat):Int):=by push_cast;rfl
    refine wpAny_pure ?_;rw [hc];exact ⟨plainId_quiet B3 _,codeAny_builtin EY (by
      rw [Around.under_plainId B3 _];exact ih (i+1) (by omega) prog w A R { s with toks:=s.toks+1 } ⟨hr,he,h⟩)⟩
theorem range_contains (r:Addr) (a b:Int) (x:Value):
    Meets (Builtin.«range.__contains__» ⟨[.ref r,x],[]⟩)
      (λ A R s=>IsR s.heap r a b/\(((Builtin.Range.rangeExactInt? x).isSome=true)\/∀ tk t j,EqAt A.in1 { s with toks:=tk } (.int j t) x false)/\∀ tk c,R (.ok (.ret (.bool c))) { s with toks:=tk }):=by
  intro prog w A R s h;obtain ⟨hr,he,h⟩:=h;show wpAny _ _ (match Builtin.Range.rangeExactInt? x with
    | some i=>(do rule "range.contains.reckoned";let (a,b,c) <-Builtin.Range.rangeFields (.ref r);ret (.bool (Builtin.Range.rangePlace? a b c i).isSome):Sem Fin)
    | none=>(do rule "range.contains.searched";again (.builtin "range.__contains__.loop" ⟨[.ref r,x,rawInt 0],[]⟩))) _ _ s
  cases hx:Builtin.Range.rangeExactInt? x with
  | some i=>
    dsimp only;refine wpAny_bind (wpAny_rule (wpAny_bind (BX hr ?_)));exact wpAny_pure (h s.toks _)
  | none=>
    dsimp only;refine wpAny_bind (wpAny_rule (wpAny_pure ?_));have he:∀ tk t j,EqAt A.in1 { s with toks:=tk } (.int j t) x false:=he.resolve_left (by rw [hx];decide);exact ⟨plainId_quiet B3 _,codeAny_builtin EY (by
      rw [Around.under_plainId B3 _];exact QE r a b x _ 0 rfl prog w A R s ⟨hr,he,λ tk=>h tk false⟩)⟩
theorem Dv (b:Int) (u:Tok) (l:Addr) (c:Value) (es:Array DictEntry) (n:Nat) (dd:Option Addr) (sl:Array (Option Value)):
    Meets (Builtin.«int.__eq__» ⟨[.int b u, .ref l],[]⟩) (λ _ R s=>s.heap.get? l=some { cls:=c,dict:=dd,data:= .dict es n,slots:=sl }/\R (.ok (.ret .notImplemented)) s):=
  .of_wp λ prog w A R s h=>by obtain ⟨hp,g,d,tk,os⟩:=s;obtain ⟨hl,h⟩:=h;wp_walk using wpAny_loadPart' hl,wpAny_load hl;exact ⟨_,rfl,h⟩
theorem DB (l:Addr) (es:Array DictEntry) (n:Nat) (dd:Option Addr) (sl:Array (Option Value)) (b:Int) (u:Tok):
    Meets (Builtin.«dict.__eq__» ⟨[.ref l, .int b u],[]⟩) (λ _ R s=>s.heap.get? l=some { cls:= .type "dict",dict:=dd,data:= .dict es n,slots:=sl }/\R (.ok (.ret .notImplemented)) s):=
  .of_wp λ prog w A R s h=>by obtain ⟨hp,g,d,tk,os⟩:=s;obtain ⟨hl,h⟩:=h;have f1:=PySem.F.sub_int_dict;wp_walk using wpAny_loadPart' hl;exact ⟨_,rfl,h⟩
section
variable {A:Around} {s:Shared}
theorem Gd {l:Addr} {es:Array DictEntry} {n:Nat} {dd:Option Addr} {sl:Array (Option Value)} (b:Int) (u:Tok) (ho:s.heap.get? l=some { cls:= .type "dict",dict:=dd,data:= .dict es n,slots:=sl }) (hu:A.units<cLine):RcAt A s (.int b u) (.ref l) false:=λ prog w E Q h=>
  rc_eq_decline_or (k:=false) (typeIs_int s b u) ⟨_,ho,rfl⟩ (by decide) PySem.F.sub_dict_int PySem.F.slot_int_eq PySem.F.slot_dict_eq_refl
    (λ _ hq=>call_meets PySem.F.slot_int_eq (typeIs_int s b u) PySem.F.entry_int_eq (PySem.F.args_int_eq_2 _ _) (Dv b u l (.type "dict") es n dd sl) ⟨ho,hq⟩)
    (λ _ hq=>call_meets PySem.F.slot_dict_eq_refl ⟨_,ho,rfl⟩ PySem.F.entry_dict_eq (PySem.F.args_dict_eq_2 _ _) (DB l es n dd sl b u) ⟨ho,hq⟩)
    (λ _ hq=>wpAny_of_eq (rfl:isSame (.int b u) (.ref l)=pure false) hq) (.inr hu) h
theorem eqAt_int_dict {l:Addr} {es:Array DictEntry} {n:Nat} {dd:Option Addr} {sl:Array (Option Value)} (b:Int) (u:Tok) (ho:s.heap.get? l=some { cls:= .type "dict",dict:=dd,data:= .dict es n,slots:=sl }) (hu:A.units<cLine):EqAt A s (.int b u) (.ref l) false:=λ prog w E Q h=>by
  unfold eqBool;refine wpAny_holding ?_;refine wpAny_ite_split (λ hab=>absurd (eq_of_beq hab) nofun) (λ _=> ?_);exact wpAny_bind (Gd b u ho hu prog w E _ (wpAny_truthy_bool h))
end
end HT
namespace L2
open PySem PySem.Spec PyProof.Rows
inductive Ov (H:Hp):V->Prop
  | d {v:V} {d:Dt} (r:Rp H FT 1 v d):Ov H v
  | dic {a:Addr} (h:H a=some (.dK [])):Ov H (.ref a)
def Se:R2:=λ x y H Q=>∃ p a b,y= .ref p/\H p=some (.rng a b)/\Ov H x/\∀ c,Q (.bl c) H
theorem Ng {X:Cx} (hu:X.A.units+64<cLine):OpR X (compareOp .NotIn) Se:=by
  intro pins s σ H x y v u Q I rx ry h;obtain ⟨p,a,b,rfl,hp,ov,q⟩:=h;cases ry;have hr:HT.IsR s.heap p a b:=I.hok p _ hp;obtain ⟨t,u',v',e⟩:=id hr;refine PySem.SeqRoads2.notIn_meets ⟨_,e,rfl⟩ PySem.F.slot_range_contains PySem.F.entry_range_contains (PySem.F.args_range_contains_2 _ _) (HT.range_contains p a b v) ⟨hr,?_,λ tk c=>⟨c,rfl, .bl _,H,I.kept (t':=tk) λ _ _ e=>e,rfl,q _⟩⟩;have I2:∀ tk,Inv X pins σ H { s with toks:=tk }:=λ tk=>I.kept (t':=tk) λ _ _ e=>e;have hu1:X.A.in1.units=X.A.units+1:=rfl;cases ov with
  | @d _ d r=>
    have out:∀ d',Rp H FT 1 x d'->(∀ j,eqD (.int j) d'=false)->∀ tk t j,SeqAt.EqAt X.A.in1 { s with toks:=tk } (.int j t) v false:=λ d' r h tk t j=>by
      have:=IE (I2 tk) (F:=FT) (A:=X.A.in1) (n:=1) (v:= .int j) (rv:= .int j t) (.int j) r ⟨t,rfl⟩ rx (by omega)
      rwa [h j] at this
    cases r with
    | non=>exact .inr (out _ .non λ _=>rfl)
    | bl b=>cases (show v=Value.bool b from rx);exact .inl rfl
    | int i=>obtain ⟨t,rfl⟩:=rx;exact .inl rfl
    | str z=>exact .inr (out _ (.str z) λ _=>rfl)
    | lst h f b l e=>exact .inr (out _ (.lst h f b l e) λ _=>rfl)
    | tup h b l e=>exact .inr (out _ (.tup h b l e) λ _=>rfl)
  | @dic l h=>
    cases rx;obtain ⟨es,m,dd,sl,ho⟩:=Na (I.hok l _ h);exact .inr λ tk t j=>HT.eqAt_int_dict j t ho (by omega)
def R9 (ta:TA):TE:=λ σ H Q=>ta σ H λ vs H1=>∃ a b,vs=[.int a, .int b]/\∀ l,H1 l=none->Q (.ref l) (upd H1 l (.rng a b))
theorem Nv {X:Cx} {a b:Expr} {ta:TA} {p pos:Pos} (hg:Gl X "range") (hm:X.mg "range"=none) (ha:PA X [a,b] ta) (hs:starEach [a,b] X.env=[(false,eval a X.env),(false,eval b X.env)]:=by rfl) (hs2:starEach [b] X.env=[(false,eval b X.env)]:=by rfl):
    PE X (.Call (.Name "range" p) [a,b] [] pos) (R9 ta):=by
  intro pins s σ H Q I h;refine Call_ (C5 I hg hm boot_range (PyProof.Rows.callWith_type1 (thn (ha pos pins s σ H _ I h) λ us s1 ⟨vs,H1,I1,r1,q1⟩=> ?_) (by rw [hs,hs2]) (by rw [hs2];rfl)));obtain ⟨i,j,e,q⟩:=q1;subst e;cases r1 with
  | cons r rr=>
    cases rr with
    | cons r' rr=>
      cases rr;obtain ⟨t,rfl⟩:=r;obtain ⟨t',rfl⟩:=r';refine call_range_2 ?_;refine ⟨.ref s1.heap.objs.size,_,I1.laid (o:= .rng i j) (λ b o e=>Heap.get?_push_of_some _ e) (Nat.le_refl _) ⟨t,t',_,Heap.get?_push_size _ rfl⟩,rfl,q _ (I1.hok.fresh (Nat.le_refl _))⟩
def TJ (K:PySem.W.Frag) (n:Nat) (t:TGs):TG:=λ v σ H Q=>∃ a xs,v= .ref a/\(SqL K H a xs\/SqT K H a xs)/\xs.length=n/\t xs σ H Q
theorem OI {X:Cx} {K:PySem.W.Frag} {es:List Expr} {k:Nat} {t:TGs} {n:Nat} {pos:Pos} (hc:X.calm=true) (h:PGs X es t) (hK:X.K=K:=by rfl)
    (hn:(assignEach es X.env).length=n:=by rfl) (hst:(assignEach es X.env).findIdx? (·.1)=none:=by rfl):PG X (.Tuple es k pos) (TJ K n t):=by
  subst hK;intro pins s σ H v u Q I r hw;obtain ⟨a,xs,e1,hq,hl,hw⟩:=hw;subst e1;cases r;rcases hq with hq | hq
  · obtain ⟨its,rv,pl,hz⟩:=I.list hq;rw [assign_Tuple];refine wpAny_bind (wpAny_standAt ?_);unfold unpack;rw [hst,show (assignEach es X.env).length=its.toArray.size by simp [hn, <-hl,rv.length]];refine wpAny_bind (wpAny_holding (PySem.W.kun_itemsOf (I.ok.hd hc) pl.isList λ h' hx=> ?_));have I1:Inv X pins σ H { s with heap:=h' }:=I.kept (t':=s.toks) λ b o e=>hx b o (Nat.ne_of_lt (Heap.lt_size e)) e;exact h pins _ σ H xs _ Q I1 (by simpa using rv) hw
  · obtain ⟨its,rv,ht,hz⟩:=I.tuple hq;refine assign_Tuple_tuple (I.ok.hd hc) ht (by simp [hn, <-hl,rv.length]) hst λ h' hx=> ?_;have I1:Inv X pins σ H { s with heap:=h' }:=I.kept (t':=s.toks) λ b o e=>hx b o (Nat.ne_of_lt (Heap.lt_size e)) e;exact h pins _ σ H xs _ Q I1 (by simpa using rv) hw
end L2
namespace L2
open PySem PySem.Spec PyProof.Rows PySem.W
def LS (C:Addr) (sp:Sp) (t:TA):TE:=λ σ H Q=>t σ H λ vs H1=>vs.length<=900/\∀ a,H1 a=none->sp (.ref a::vs) (upd H1 a (xnO a C none)) (λ v H2=>v= .non/\∃ od,H2 a=some (xnO a C od)/\Q (.ref a) (upd H2 a (A7 a C od))) E0
theorem Cr {X:Cx} {k:Nat} {x:Str} {C:Addr} {ps:List Str} {sp:Sp} {e₀:Expr} {rest:List Expr} {np cpos:Pos} {t:TA} (h:BU X.prog X.w X.K X.mg X.base x C k ps sp) (hr:Room (k+1) X.A) (ha:PA X (e₀::rest) t)
    (he:starEach (e₀::rest) X.env=(false,eval e₀ X.env)::starEach rest X.env:=by rfl) (hpl:(backTo cpos (starEach rest X.env)).any (·.1)=false:=by rfl)
    (hg:Gl X x:=by rfl) (hd:(x == ("__debug__":Str))=false:=by decide):PE X (.Call (.Name x np) (e₀::rest) [] cpos) (LS C sp t):=by
  intro pins s σ H Q I h0;obtain ⟨fi,fd,hm,M,F,hb⟩:=h;refine wpAny_Call_Name_kw (Cz I hg hm ?_ hd);refine PySem.W.callWith_K (h₀:=X.base) I.ok.mod.kin M.kp (thn (ha cpos pins s σ H _ I h0) λ us s1 ⟨vs,H1,I1,r,hl,q⟩=>⟨I1.kIn,?_⟩) he hpl;have hq:=q (s1.heap.objs.size+1) (I1.hok.fresh (Nat.le_succ _));have hl':us.length<=1000:=by rw [<-r.length];omega
  have kp:∀ b o,s1.heap.get? b=some o->((s1.heap.push { cls:= .type "tuple",data:= .seq us.toArray }).push { cls:= .ref C,data:= .fields #[.ref s1.heap.objs.size, .none, .none, .none, .bool false, .none] }).get? b=some o:=λ b o e=>Heap.get?_push_of_some _ (Heap.get?_push_of_some _ e);have hget:((s1.heap.push { cls:= .type "tuple",data:= .seq us.toArray }).push { cls:= .ref C,data:= .fields #[.ref s1.heap.objs.size, .none, .none, .none, .bool false, .none] }).get? (s1.heap.objs.size+1)=some { cls:= .ref C,data:= .fields #[.ref s1.heap.objs.size, .none, .none, .none, .bool false, .none] }:=by heap_get
  have I2:=I1.laid (a:=s1.heap.objs.size+1) (o:=xnO (s1.heap.objs.size+1) C none) (t':=s1.toks) kp (Nat.le_succ _) (Lz hget);have r2:Vals (V.ref (s1.heap.objs.size+1)::vs) (Value.ref (s1.heap.objs.size+1)::us):= .cons rfl r;have hlen:(Value.ref (s1.heap.objs.size+1)::us).length=ps.length:=by
    have e:=r2.length;rw [F.len _ _ _ _ hq] at e;exact e.symm
  refine wpAny_call (HT.exc_make I1.kIn (HT.ini_of I1.kIn M.ini) (beq_iff_eq.mp M.fn) hl' (codeAny_mono (F.run _ _ _ _ ⟨Value.ref (s1.heap.objs.size+1)::us,[]⟩ (Value.ref (s1.heap.objs.size+1)::us) _ _ E0 (hr.make C us [])
    (I2.env0.make C us []) (by have:=hb _ (Value.ref (s1.heap.objs.size+1)::us) I2.kIn (by simpa using hlen);simpa using this) r2 hq) λ r s' hq'=> ?_))
  cases r with
  | error e=>exact False.elim hq'
  | ok fl=>
    cases fl with
    | ret u=>
      obtain ⟨v,H',I3,rv,ev,od,e3,q3⟩:=I2.after hq';subst ev;obtain ⟨⟨t0,he3⟩,_⟩:=(show ObjOk X.prog X.w H' s'.heap (s1.heap.objs.size+1) (xnO (s1.heap.objs.size+1) C od) from I3.hok _ _ e3);have J:=I3.write (x:=s1.heap.objs.size+1) (e:=s1.heap.objs.size+1) (o:=A7 (s1.heap.objs.size+1) C od) (t':=s'.toks) (by rw [e3];exact True.intro) (.inl rfl) (λ b ob _ e=>e) ⟨_,he3⟩ (IG he3 rfl rfl);exact ⟨rv, .ref (s1.heap.objs.size+1),_,J,rfl,q3⟩
    | next=>exact False.elim hq'
    | brk=>exact False.elim hq'
    | cont=>exact False.elim hq'
def Md (C:Addr) (t:TA):TE:=λ σ H Q=>t σ H λ vs H1=>vs.length<=1000/\∀ a,H1 a=none->Q (.ref a) (upd H1 a (A7 a C none))
theorem F5 {X:Cx} {x:Str} {C:Addr} {e₀:Expr} {rest:List Expr} {np cpos:Pos} {t:TA} (hm:X.mg x=some (.ref C)) (q:PySem.W.excIn X.K C [.type "ValueError", .type "Exception", .type "BaseException", .type "object"] "ValueError.__new__"=true) (ha:PA X (e₀::rest) t)
    (he:starEach (e₀::rest) X.env=(false,eval e₀ X.env)::starEach rest X.env:=by rfl) (hpl:(backTo cpos (starEach rest X.env)).any (·.1)=false:=by rfl)
    (hg:Gl X x:=by rfl) (hd:(x == ("__debug__":Str))=false:=by decide):PE X (.Call (.Name x np) (e₀::rest) [] cpos) (Md C t):=by
  intro pins s σ H Q I h;obtain ⟨tl,Nn,nm,qq,bs,hdct,sn,sub,ab,col,dd,k0,k1,k2,k3,k5,mN,hC,hN,hni,T⟩:=(HT.own_mk I.mod.kin hm q).obj;have hw:=ha cpos pins s σ H _ I h;refine wpAny_Call_Name_kw (Cz I hg hm ?_ hd);have hplain:(backTo cpos (starEach (e₀::rest) X.env)).any (·.1)=false:=by
    rw [he];show (false||(backTo cpos (starEach rest X.env)).any (·.1))=false;rw [hpl];rfl
  unfold callWith;rw [he] at hw hplain ⊢;refine wpAny_bind (wpAny_holding (Calls.evalArgs_plain (thn hw λ us s2 ⟨vs,H1,I1,r,hl,hq⟩=> ?_)));have bk:∀ b o,X.base.get? b=some o->s2.heap.get? b=some o:=I1.bk;refine wpAny_bind (wpAny_standAt ?_);obtain ⟨hp,g,d,tk,os⟩:=s2;simp only [hplain];refine wpAny_bind (wpAny_keeperOf_exc (bk _ _ hC) ?_);refine wpAny_bind (wpAny_call_exc_subT (hrest:=by rw [List.nil_append, <-r.length];exact Nat.le_trans hl (by decide)) PySem.F.excBase_ValueError (T.keeps bk) (bk _ _ hC) (hN.keeps bk) hni λ h' e mk=>wpAny_bind (wpAny_holding (wpAny_point (wpAny_pure ?_))));obtain ⟨t0,ht,_,_⟩:=mk.there;have n:H1 e=none:=by
    cases hx:H1 e with
    | none=>rfl
    | some u=>
      obtain ⟨o,eo⟩:=FH (I1.hok e u hx);have eo:hp.get? e=some o:=eo;rw [mk.new] at eo;cases eo
  exact ⟨.ref e,_,I1.un (HP (Un.kept mk.keeps) n mk.new) (Il (I1.hok.kept mk.keeps) n (IG ht rfl rfl)),rfl,hq e n⟩
theorem Cj {C:Addr} {sp:Sp} {t:TA} {σ:St} {H:Hp} {Q:VK} (h:t σ H λ vs H1=>vs.length<=900/\∀ a,H1 a=none->sp (.ref a::vs) (upd H1 a (xnO a C none)) (λ v H2=>v= .non/\∃ od,H2 a=some (xnO a C od)/\Q (.ref a) (upd H2 a (A7 a C od))) E0):LS C sp t σ H Q:=h
theorem FX {C:Addr} {t:TA} {σ:St} {H:Hp} {Q:VK} (h:t σ H λ vs H1=>vs.length<=1000/\∀ a,H1 a=none->Q (.ref a) (upd H1 a (A7 a C none))):Md C t σ H Q:=h
end L2
open L2
local macro_rules | `(tactic| walk_at "t") => `(tactic| first | (with_reducible first | refine FE ?_ | refine O3 ?_ | refine Jj ?_ | refine TR ?_ | refine Sf ?_ | refine QJ ?_ | refine Po ?_ | refine QB ?_ | refine Pw ?_ | refine Pe ?_ | refine OK ?_ | refine PK ?_ | refine Pd ?_ | refine NS ?_ | refine QL ?_ | refine S0 ?_ | refine Qx ?_ | refine OP ?_ | refine NM ?_ | refine M7 ?_ | refine Q3 ?_ | refine O8 ?_ | refine NK ?_ | refine O7 ?_ | refine NF ?_ | refine OU ?_ | refine PU ?_ | refine RK ?_ | refine Nz ?_ | refine Q8 ?_ | refine Np ?_ | refine Kz ?_ | refine O5 ?_ | refine Dj ?_ | refine DO ?_ | refine JR ?_ | refine MG ?_ | refine ND ?_ | refine MA ?_ | refine MP ?_ | refine Qe ?_ | refine SR ?_ | refine NT ?_ | refine Pl ?_ | refine RA ?_ | refine RP ?_ | refine Q7 ?_ | refine Sr ?_ | refine QK ?_ | refine Qo ?_ | refine Mn ?_ | refine Ni ?_ | refine OL ?_ | refine ON ?_ | refine Lf ?_ | refine Mx ?_ | refine PH ?_ | refine OB ?_ | refine NA ?_) | ((with_reducible apply OQ); exact rfl) | (with_reducible refine OO (by simp only [List.length_cons, List.length_nil]; decide) ?_))
local macro_rules | `(tactic| walk_at "s") => `(tactic| first | walk_at "t" | (with_reducible refine Oz ?_))
local macro_rules | `(tactic| walk_at "v") => `(tactic| repeat walk_at "t")
local macro_rules | `(tactic| walk_at "w") => `(tactic| repeat walk_at "s")
local macro_rules | `(tactic| wrow_has $H $n) => do let t := ((n.getId.toString.drop 1).toString); let i := λ (a : String) => Lean.mkIdent (Lean.Name.mkSimple (a ++ t)); `(tactic| (generalize e : upd $H $(i "p") _ = $(i "H"); have $(i "s"):ident : Same $H $(i "H") := (by rw [<-e]; exact Ag $(i "n")); have $(i "g"):ident := (congrFun e $(i "p")).symm.trans Ac; clear e))
local macro_rules | `(tactic| row_lines $H $n) => do let t := ((n.getId.toString.drop 1).toString); let i := λ (a : String) => Lean.mkIdent (Lean.Name.mkSimple (a ++ t)); `(tactic| (intro $(i "p"):ident $(i "n"):ident; wrow_has $H $n))
local macro_rules | `(tactic| walk_at "x") => `(tactic| repeat first | walk_at "s" | (with_reducible refine AH (by decide) ?_))
namespace K04
open PySem L2 PySem.Spec PyProof.Rows
seal L2.PE L2.PT L2.PW L2.PA L2.PS L2.PSs L2.PI L2.PG L2.PTs L2.PGs
section
variable {P:Program} {w:World} {K:PySem.W.Frag} {mg:Str->Option Value} {base:Heap}
structure Cs where
  Draft:Addr
  LoomError:Addr
  BadRow:Addr
  BadWord:Addr
  TooMany:Addr
  NotPlain:Addr
  NotGrown:Addr
  BadDraft:Addr
  BadCloth:Addr
  OutOfPlace:Addr
structure Txt (K:PySem.W.Frag) (mg:Str->Option Value) (c:Cs):Prop where
  own:Own mg ["isinstance","int","bool","str","list","tuple","len","all","range","sum","zip","enumerate","ValueError"]
  g_Draft:mg "Draft"=some (.ref c.Draft)
  kd_Draft:Kind K c.Draft
  is_Draft:PySem.W.kitOne K (.ref c.Draft) (.ref c.Draft)=some true
  na_Draft_shafts:NoAttr K c.Draft "shafts"
  na_Draft_treadles:NoAttr K c.Draft "treadles"
  na_Draft_threading:NoAttr K c.Draft "threading"
  na_Draft_ties:NoAttr K c.Draft "ties"
  na_Draft_treading:NoAttr K c.Draft "treading"
  na_Draft_warp:NoAttr K c.Draft "warp"
  na_Draft_weft:NoAttr K c.Draft "weft"
  g_LoomError:mg "LoomError"=some (.ref c.LoomError)
  g_BadRow:mg "BadRow"=some (.ref c.BadRow)
  g_BadWord:mg "BadWord"=some (.ref c.BadWord)
  g_TooMany:mg "TooMany"=some (.ref c.TooMany)
  g_NotPlain:mg "NotPlain"=some (.ref c.NotPlain)
  g_NotGrown:mg "NotGrown"=some (.ref c.NotGrown)
  g_BadDraft:mg "BadDraft"=some (.ref c.BadDraft)
  xk_BadDraft:HT.ExcKind K c.BadDraft
  xi_BadDraft:PySem.W.excIn K c.BadDraft [.type "ValueError", .type "Exception", .type "BaseException", .type "object"] "ValueError.__new__"=true
  xm_BadDraft_LoomError:PySem.W.exmOne K (.ref c.BadDraft) (.ref c.LoomError)=some true
  ki_BadDraft_BadRow:PySem.W.kitOne K (.ref c.BadDraft) (.ref c.BadRow)=some false
  ki_BadDraft_BadWord:PySem.W.kitOne K (.ref c.BadDraft) (.ref c.BadWord)=some false
  ki_BadDraft_TooMany:PySem.W.kitOne K (.ref c.BadDraft) (.ref c.TooMany)=some false
  ki_BadDraft_NotPlain:PySem.W.kitOne K (.ref c.BadDraft) (.ref c.NotPlain)=some false
  ki_BadDraft_NotGrown:PySem.W.kitOne K (.ref c.BadDraft) (.ref c.NotGrown)=some false
  ki_BadDraft_BadDraft:PySem.W.kitOne K (.ref c.BadDraft) (.ref c.BadDraft)=some true
  ki_BadDraft_BadCloth:PySem.W.kitOne K (.ref c.BadDraft) (.ref c.BadCloth)=some false
  ki_BadDraft_OutOfPlace:PySem.W.kitOne K (.ref c.BadDraft) (.ref c.OutOfPlace)=some false
  ki_BadDraft_ValueError:PySem.W.kitOne K (.ref c.BadDraft) (.type "ValueError")=some true
  g_BadCloth:mg "BadCloth"=some (.ref c.BadCloth)
  xk_BadCloth:HT.ExcKind K c.BadCloth
  xi_BadCloth:PySem.W.excIn K c.BadCloth [.type "ValueError", .type "Exception", .type "BaseException", .type "object"] "ValueError.__new__"=true
  xm_BadCloth_LoomError:PySem.W.exmOne K (.ref c.BadCloth) (.ref c.LoomError)=some true
  ki_BadCloth_BadRow:PySem.W.kitOne K (.ref c.BadCloth) (.ref c.BadRow)=some false
  ki_BadCloth_BadWord:PySem.W.kitOne K (.ref c.BadCloth) (.ref c.BadWord)=some false
  ki_BadCloth_TooMany:PySem.W.kitOne K (.ref c.BadCloth) (.ref c.TooMany)=some false
  ki_BadCloth_NotPlain:PySem.W.kitOne K (.ref c.BadCloth) (.ref c.NotPlain)=some false
  ki_BadCloth_NotGrown:PySem.W.kitOne K (.ref c.BadCloth) (.ref c.NotGrown)=some false
  ki_BadCloth_BadDraft:PySem.W.kitOne K (.ref c.BadCloth) (.ref c.BadDraft)=some false
  ki_BadCloth_BadCloth:PySem.W.kitOne K (.ref c.BadCloth) (.ref c.BadCloth)=some true
  ki_BadCloth_OutOfPlace:PySem.W.kitOne K (.ref c.BadCloth) (.ref c.OutOfPlace)=some false
  ki_BadCloth_ValueError:PySem.W.kitOne K (.ref c.BadCloth) (.type "ValueError")=some true
  g_OutOfPlace:mg "OutOfPlace"=some (.ref c.OutOfPlace)
  xk_OutOfPlace:HT.ExcKind K c.OutOfPlace
  xi_OutOfPlace:PySem.W.excIn K c.OutOfPlace [.type "ValueError", .type "Exception", .type "BaseException", .type "object"] "ValueError.__new__"=true
  xm_OutOfPlace_LoomError:PySem.W.exmOne K (.ref c.OutOfPlace) (.ref c.LoomError)=some true
  ki_OutOfPlace_BadRow:PySem.W.kitOne K (.ref c.OutOfPlace) (.ref c.BadRow)=some false
  ki_OutOfPlace_BadWord:PySem.W.kitOne K (.ref c.OutOfPlace) (.ref c.BadWord)=some false
  ki_OutOfPlace_TooMany:PySem.W.kitOne K (.ref c.OutOfPlace) (.ref c.TooMany)=some false
  ki_OutOfPlace_NotPlain:PySem.W.kitOne K (.ref c.OutOfPlace) (.ref c.NotPlain)=some false
  ki_OutOfPlace_NotGrown:PySem.W.kitOne K (.ref c.OutOfPlace) (.ref c.NotGrown)=some false
  ki_OutOfPlace_BadDraft:PySem.W.kitOne K (.ref c.OutOfPlace) (.ref c.BadDraft)=some false
  ki_OutOfPlace_BadCloth:PySem.W.kitOne K (.ref c.OutOfPlace) (.ref c.BadCloth)=some false
  ki_OutOfPlace_OutOfPlace:PySem.W.kitOne K (.ref c.OutOfPlace) (.ref c.OutOfPlace)=some true
  ki_OutOfPlace_ValueError:PySem.W.kitOne K (.ref c.OutOfPlace) (.type "ValueError")=some true
  xk_BadRow:XKind K c.BadRow
  xs_BadRow:XSet K c.BadRow
  xm_BadRow_LoomError:PySem.W.exmOne K (.ref c.BadRow) (.ref c.LoomError)=some true
  ki_BadRow_BadRow:PySem.W.kitOne K (.ref c.BadRow) (.ref c.BadRow)=some true
  ki_BadRow_BadWord:PySem.W.kitOne K (.ref c.BadRow) (.ref c.BadWord)=some false
  ki_BadRow_TooMany:PySem.W.kitOne K (.ref c.BadRow) (.ref c.TooMany)=some false
  ki_BadRow_NotPlain:PySem.W.kitOne K (.ref c.BadRow) (.ref c.NotPlain)=some false
  ki_BadRow_NotGrown:PySem.W.kitOne K (.ref c.BadRow) (.ref c.NotGrown)=some false
  ki_BadRow_BadDraft:PySem.W.kitOne K (.ref c.BadRow) (.ref c.BadDraft)=some false
  ki_BadRow_BadCloth:PySem.W.kitOne K (.ref c.BadRow) (.ref c.BadCloth)=some false
  ki_BadRow_OutOfPlace:PySem.W.kitOne K (.ref c.BadRow) (.ref c.OutOfPlace)=some false
  ki_BadRow_ValueError:PySem.W.kitOne K (.ref c.BadRow) (.type "ValueError")=some true
  xf_BadRow_row:PySem.W.findIn K (.ref c.BadRow) "row"=some none
  xf_BadRow_word:PySem.W.findIn K (.ref c.BadRow) "word"=some none
  xj_BadRow:∃ fi,HT.iniIn K c.BadRow fi=true
  xk_BadWord:XKind K c.BadWord
  xs_BadWord:XSet K c.BadWord
  xm_BadWord_LoomError:PySem.W.exmOne K (.ref c.BadWord) (.ref c.LoomError)=some true
  ki_BadWord_BadRow:PySem.W.kitOne K (.ref c.BadWord) (.ref c.BadRow)=some false
  ki_BadWord_BadWord:PySem.W.kitOne K (.ref c.BadWord) (.ref c.BadWord)=some true
  ki_BadWord_TooMany:PySem.W.kitOne K (.ref c.BadWord) (.ref c.TooMany)=some false
  ki_BadWord_NotPlain:PySem.W.kitOne K (.ref c.BadWord) (.ref c.NotPlain)=some false
  ki_BadWord_NotGrown:PySem.W.kitOne K (.ref c.BadWord) (.ref c.NotGrown)=some false
  ki_BadWord_BadDraft:PySem.W.kitOne K (.ref c.BadWord) (.ref c.BadDraft)=some false
  ki_BadWord_BadCloth:PySem.W.kitOne K (.ref c.BadWord) (.ref c.BadCloth)=some false
  ki_BadWord_OutOfPlace:PySem.W.kitOne K (.ref c.BadWord) (.ref c.OutOfPlace)=some false
  ki_BadWord_ValueError:PySem.W.kitOne K (.ref c.BadWord) (.type "ValueError")=some true
  xf_BadWord_place:PySem.W.findIn K (.ref c.BadWord) "place"=some none
  xj_BadWord:∃ fi,HT.iniIn K c.BadWord fi=true
  xk_TooMany:XKind K c.TooMany
  xs_TooMany:XSet K c.TooMany
  xm_TooMany_LoomError:PySem.W.exmOne K (.ref c.TooMany) (.ref c.LoomError)=some true
  ki_TooMany_BadRow:PySem.W.kitOne K (.ref c.TooMany) (.ref c.BadRow)=some false
  ki_TooMany_BadWord:PySem.W.kitOne K (.ref c.TooMany) (.ref c.BadWord)=some false
  ki_TooMany_TooMany:PySem.W.kitOne K (.ref c.TooMany) (.ref c.TooMany)=some true
  ki_TooMany_NotPlain:PySem.W.kitOne K (.ref c.TooMany) (.ref c.NotPlain)=some false
  ki_TooMany_NotGrown:PySem.W.kitOne K (.ref c.TooMany) (.ref c.NotGrown)=some false
  ki_TooMany_BadDraft:PySem.W.kitOne K (.ref c.TooMany) (.ref c.BadDraft)=some false
  ki_TooMany_BadCloth:PySem.W.kitOne K (.ref c.TooMany) (.ref c.BadCloth)=some false
  ki_TooMany_OutOfPlace:PySem.W.kitOne K (.ref c.TooMany) (.ref c.OutOfPlace)=some false
  ki_TooMany_ValueError:PySem.W.kitOne K (.ref c.TooMany) (.type "ValueError")=some true
  xf_TooMany_what:PySem.W.findIn K (.ref c.TooMany) "what"=some none
  xf_TooMany_many:PySem.W.findIn K (.ref c.TooMany) "many"=some none
  xj_TooMany:∃ fi,HT.iniIn K c.TooMany fi=true
  xk_NotPlain:XKind K c.NotPlain
  xs_NotPlain:XSet K c.NotPlain
  xm_NotPlain_LoomError:PySem.W.exmOne K (.ref c.NotPlain) (.ref c.LoomError)=some true
  ki_NotPlain_BadRow:PySem.W.kitOne K (.ref c.NotPlain) (.ref c.BadRow)=some false
  ki_NotPlain_BadWord:PySem.W.kitOne K (.ref c.NotPlain) (.ref c.BadWord)=some false
  ki_NotPlain_TooMany:PySem.W.kitOne K (.ref c.NotPlain) (.ref c.TooMany)=some false
  ki_NotPlain_NotPlain:PySem.W.kitOne K (.ref c.NotPlain) (.ref c.NotPlain)=some true
  ki_NotPlain_NotGrown:PySem.W.kitOne K (.ref c.NotPlain) (.ref c.NotGrown)=some false
  ki_NotPlain_BadDraft:PySem.W.kitOne K (.ref c.NotPlain) (.ref c.BadDraft)=some false
  ki_NotPlain_BadCloth:PySem.W.kitOne K (.ref c.NotPlain) (.ref c.BadCloth)=some false
  ki_NotPlain_OutOfPlace:PySem.W.kitOne K (.ref c.NotPlain) (.ref c.OutOfPlace)=some false
  ki_NotPlain_ValueError:PySem.W.kitOne K (.ref c.NotPlain) (.type "ValueError")=some true
  xf_NotPlain_what:PySem.W.findIn K (.ref c.NotPlain) "what"=some none
  xf_NotPlain_number:PySem.W.findIn K (.ref c.NotPlain) "number"=some none
  xj_NotPlain:∃ fi,HT.iniIn K c.NotPlain fi=true
  xk_NotGrown:XKind K c.NotGrown
  xs_NotGrown:XSet K c.NotGrown
  xm_NotGrown_LoomError:PySem.W.exmOne K (.ref c.NotGrown) (.ref c.LoomError)=some true
  ki_NotGrown_BadRow:PySem.W.kitOne K (.ref c.NotGrown) (.ref c.BadRow)=some false
  ki_NotGrown_BadWord:PySem.W.kitOne K (.ref c.NotGrown) (.ref c.BadWord)=some false
  ki_NotGrown_TooMany:PySem.W.kitOne K (.ref c.NotGrown) (.ref c.TooMany)=some false
  ki_NotGrown_NotPlain:PySem.W.kitOne K (.ref c.NotGrown) (.ref c.NotPlain)=some false
  ki_NotGrown_NotGrown:PySem.W.kitOne K (.ref c.NotGrown) (.ref c.NotGrown)=some true
  ki_NotGrown_BadDraft:PySem.W.kitOne K (.ref c.NotGrown) (.ref c.BadDraft)=some false
  ki_NotGrown_BadCloth:PySem.W.kitOne K (.ref c.NotGrown) (.ref c.BadCloth)=some false
  ki_NotGrown_OutOfPlace:PySem.W.kitOne K (.ref c.NotGrown) (.ref c.OutOfPlace)=some false
  ki_NotGrown_ValueError:PySem.W.kitOne K (.ref c.NotGrown) (.type "ValueError")=some true
  xf_NotGrown_row:PySem.W.findIn K (.ref c.NotGrown) "row"=some none
  xf_NotGrown_column:PySem.W.findIn K (.ref c.NotGrown) "column"=some none
  xj_NotGrown:∃ fi,HT.iniIn K c.NotGrown fi=true
  xb_LoomError:XBase K c.LoomError
  k_MOST_SHAFTS:∃ t,mg "MOST_SHAFTS"=some (.int 16 t)
  k_MOST_TREADLES:∃ t,mg "MOST_TREADLES"=some (.int 16 t)
  k_MOST_ENDS:∃ t,mg "MOST_ENDS"=some (.int 60 t)
  k_MOST_PICKS:∃ t,mg "MOST_PICKS"=some (.int 60 t)
  k_COLOURS:∃ t,mg "COLOURS"=some (.str "abcdefghijklmnopqrstuvwxyz" t)
def Jn (K:PySem.W.Frag):Sp:=λ vs H Q _=>∃ (a:Addr) (ns:List Int),vs=[.ref a]/\SqL K H a (ns.map V.int)/\ns.length<=63/\∀ H',Q (.bl true) H'
end
section
variable {P:Program} {w:World} {K:PySem.W.Frag} {mg:Str->Option Value} {base:Heap} {c:Cs}
def BP:Nat->Sp
  | 0=>λ _ _ _ _=>False
  | n+1=>λ vs H Q _=>∃ v u d,vs=[v,u]/\Rp H FT n v d/\Rp H FT n u d/\∀ H',Same H H'->Q (.bl true) H'
abbrev B6:Stmt:=top 30
theorem Ha:FnScope ["_law_found","_law_due"] ["_law_found","_law_due"] (Al B6):=⟨rfl,rfl,rfl,by decide +kernel,rfl,by decide +kernel,by decide +kernel⟩
theorem Gg {n:Nat} {f:Addr} {fd:FuncData} (F:Fun K "_law_same" "_law_same" B6 f fd) (T:Txt K mg c) (c__law_same:CallF P w K mg base "_law_same" (n+1) ["_law_found","_law_due"] (BP n)):FnOk P w K mg base CX0 (n+2) f fd ["_law_found","_law_due"] (BP (n+1)):=by
  refine F.ok Ha (λ vs H Q E h=> ?_) (λ cdv A outer s H vs Q E hr h=> ?_)
  · obtain ⟨v,u,d,rfl,_⟩:=h;rfl
  · obtain ⟨v,u,d,rfl,rv,ru,k⟩:=h;refine ⟨_,(Ad (Bn (By (Ak (NE (K:=K)) rfl (T.own _ (by decide)) boot_isinstance (Aa (pv 1) (Aa (Bk (Aa (Bo rfl (T.own _ (by decide)) AC) (Aa (Bo rfl (T.own _ (by decide)) Ay) Ab))) Ab)))) (Ad (Bn (PW.pt (GD (AT Ik (Ak (Bc (K:=K)) rfl (T.own _ (by decide)) boot_isinstance (Aa (pv 0) (Aa (Bo rfl (T.own _ (by decide)) AC) Ab))) (Ak (Bc (K:=K)) rfl (T.own _ (by decide)) boot_isinstance (Aa (pv 1) (Aa (Bo rfl (T.own _ (by decide)) AC) Ab))) (AN _)) (Fq (AT Ik (Ak (Bc (K:=K)) rfl (T.own _ (by decide)) boot_isinstance (Aa (pv 0) (Aa (Bo rfl (T.own _ (by decide)) Ay) Ab))) (Ak (Bc (K:=K)) rfl (T.own _ (by decide)) boot_isinstance (Aa (pv 1) (Aa (Bo rfl (T.own _ (by decide)) Ay) Ab))) (AN _))))) (Ai (Au B7)) AL)
      (Ai (Au (B1 (BL Gu (Ak (CQ (K:=K)) rfl (T.own _ (by decide)) boot_len (Aa (pv 0) Ab)) (Ak (CQ (K:=K)) rfl (T.own _ (by decide)) boot_len (Aa (pv 1) Ab)) (AN _)) (CK (Ak (JI (K:=K)) rfl (T.own _ (by decide)) DJ (Aa (Ft (K:=K) (RF (K:=K) rfl (T.own _ (by decide)) (Aa (pv 0) (Aa (pv 1) Ab))) (λ _ _ _ _=>AG) (λ _ _ _ _=>(Aj c__law_same hr (Aa (pv 0) (Aa (pv 1) Ab))))) Ab))))))) AL)
      (Ai (Au (B1 (BL Gu (Ak (Bc (K:=K)) rfl (T.own _ (by decide)) boot_isinstance (Aa (pv 0) (Aa (Bo rfl (T.own _ (by decide)) boot_bool) Ab))) (Ak (Bc (K:=K)) rfl (T.own _ (by decide)) boot_isinstance (Aa (pv 1) (Aa (Bo rfl (T.own _ (by decide)) boot_bool) Ab))) (AN _)) (CK (BL Gu (pv 0) (pv 1) (AN _))))))),?_⟩
    walk_at "w";intro p hp;walk_at "w";have sp:=Ag (o:=HO.tup [V.ty "list",V.ty "tuple"]) hp;refine K9 (ns:=["list","tuple"]) Ac (ru.same sp).ty (Qm d) ?_;have rv:=rv.same sp;have ru:=ru.same sp;generalize upd H p (HO.tup [V.ty "list",V.ty "tuple"])=H1 at rv ru sp ⊢;walk_at "w";refine PD (λ hc=> ?_) (λ hc=> ?_)
    · walk_at "w";refine AM rv.ty (Fl d) ?_;walk_at "w";refine AM ru.ty (Fl d) ?_;walk_at "w";refine L6 (λ q=>absurd rfl q) (λ _=> ?_);walk_at "w";refine AM rv.ty (Ey d) ?_;walk_at "w";refine AM ru.ty (Ey d) ?_;walk_at "w";refine L6 (λ q=>absurd rfl q) (λ _=> ?_);walk_at "w";obtain ⟨m,a,xs,hm,rfl,sa,la,ba,ea⟩:=rv.seq (K:=K) hc;obtain ⟨m',b,zs,hm',rfl,sb,lb,bb,eb⟩:=ru.seq (K:=K) hc;subst hm;cases hm';refine Jk sa ?_;walk_at "w";refine Jk sb ?_;walk_at "w";refine FD (λ _=> ?_) (λ q=>absurd (by rw [la,lb]) q);walk_at "w";refine ⟨BI d,BI d,a,b,rfl,⟨_,sa⟩,⟨_,sb⟩,λ D hD=> ?_⟩;refine MI (xs:=xs) (zs:=zs) (by omega) (λ i ys H'=>ys=(List.replicate i true).map V.bl/\Same H1 H'/\H' D=some (.lst ys)) ⟨rfl,Fm (Same.refl _) hD,Ac⟩ (λ i ys H' _ ⟨_,s,_⟩=>⟨sa.same s,sb.same s⟩) ?_ ?_
      · rintro i x z ys H' q hx hz ⟨rfl,s1,hl⟩ hq;refine ⟨((Kp.refl _).set rfl).set rfl,OZ ?_⟩;walk_at "w";have hi:i<(A2 d).length:=by
          have:=(List.getElem?_eq_some_iff.mp hx).1;omega
        have hd:(A2 d)[i]?=some (A2 d)[i]:=List.getElem?_eq_getElem hi;have s2:Same H1 (upd H' q (HO.tup [x,z])):=s1.trans (Ag hq);refine ⟨x,z,(A2 d)[i],rfl,(ea i x _ hx hd).same s2,(eb i z _ hz hd).same s2,λ H'' s3=> ?_⟩;have hl':H'' D=some (.lst ((List.replicate i true).map V.bl)):=s3 _ _ (Ag hq _ _ hl);refine ⟨hl',?_,?_,?_,Ac⟩
        · rw [List.length_map,List.length_replicate];exact Nat.lt_of_lt_of_le hi (Nat.le_trans (by omega) (show 100000<=sizeLine by decide))
        · rw [List.replicate_succ',List.map_append];rfl
        · exact Fm (s2.trans s3) hD
      · rintro ys H' ⟨rfl,s1,hl⟩;walk_at "w";refine Ho (SqL.of hl) ?_;have e:(List.replicate xs.length true).all id=true:=by simp
        rw [e];exact k H' (sp.trans s1)
    · walk_at "w";refine AM rv.ty (J3 d) ?_;walk_at "w";refine AM ru.ty (J3 d) ?_;walk_at "w";refine FD (λ _=> ?_) (λ q=>absurd rfl q);walk_at "w";have e:=Nc rv ru hc;subst e;refine ⟨KM rv hc,?_⟩;rw [decide_eq_true rfl];exact k H1 sp
theorem EA {f:Addr} {fd:FuncData} (D:DefAt K mg "_law_same" B6 ["_law_found","_law_due"] f fd) (T:Txt K mg c):∀ n,FnOk P w K mg base CX0 (n+1) f fd ["_law_found","_law_due"] (BP n)
  | 0=>⟨λ _ _ _ _ h=>h.elim,λ _ _ _ _ _ _ _ _ _ _ _ _ _ h=>h.elim⟩
  | n+1=>Gg D.fn T (D.call (EA D T n))
def E3 (K:PySem.W.Frag):Sp:=λ vs H Q _=>∃ x,vs=[x]/\Ty K H x/\Q (.bl (LK x)) H
abbrev En:Stmt:=top 16
theorem Hx:FnScope ["thing"] ["thing"] (Al En):=⟨rfl,rfl,rfl,by decide +kernel,rfl,by decide +kernel,by decide +kernel⟩
theorem IB {f:Addr} {fd:FuncData} (F:Fun K "is_whole" "is_whole" En f fd) (T:Txt K mg c):FnOk P w K mg base CX0 1 f fd ["thing"] (E3 K):=by
  refine F.ok Hx (λ vs H Q E h=> ?_) (λ cdv A outer s H vs Q E hr h=> ?_)
  · obtain ⟨x,rfl,_⟩:=h;rfl
  · obtain ⟨x,rfl,⟨n,ty⟩,k⟩:=h;refine ⟨_,(Ai (Au (B1 (Ak (Bc (K:=K)) rfl (T.own _ (by decide)) boot_isinstance (Aa (pv 0) (Aa (Bo rfl (T.own _ (by decide)) boot_int) Ab))) (CK (Ml (Ak (Bc (K:=K)) rfl (T.own _ (by decide)) boot_isinstance (Aa (pv 0) (Aa (Bo rfl (T.own _ (by decide)) boot_bool) Ab)))))))),?_⟩;walk_at "w";refine AM ty (NP ty) ?_;walk_at "w";refine MD (λ hc=> ?_) (λ hc=> ?_)
    · walk_at "w";refine AM ty (Ih ty) ?_;walk_at "w";exact BG (by cases x <;> first | rfl | exact absurd hc Bool.false_ne_true) k
    · exact BG (by cases x <;> first | rfl | exact absurd hc.symm Bool.false_ne_true) k
def B5 (K:PySem.W.Frag):Sp:=λ vs H Q _=>∃ x a b,vs=[x, .int a, .int b]/\Ty K H x/\Q (.bl (Ax x a b)) H
abbrev Ej:Stmt:=top 17
theorem Hs:FnScope ["thing","least","most"] ["thing","least","most"] (Al Ej):=⟨rfl,rfl,rfl,by decide +kernel,rfl,by decide +kernel,by decide +kernel⟩
theorem Hw {f:Addr} {fd:FuncData} (F:Fun K "is_among" "is_among" Ej f fd) (T:Txt K mg c) (c_is_whole:CallF P w K mg base "is_whole" 1 ["thing"] (E3 K)):FnOk P w K mg base CX0 2 f fd ["thing","least","most"] (B5 K):=by
  refine F.ok Hs (λ vs H Q E h=> ?_) (λ cdv A outer s H vs Q E hr h=> ?_)
  · obtain ⟨x,a,b,rfl,_⟩:=h;rfl
  · obtain ⟨x,a,b,rfl,ty,k⟩:=h;refine ⟨_,(Ai (Au (B1 (Aj c_is_whole hr (Aa (pv 0) Ab)) (CK (Mc N8 N8 (pv 1) (pv 0) (pv 2)))))),?_⟩;walk_at "w";refine ⟨x,rfl,ty,?_⟩;walk_at "w";refine MD (λ hc=> ?_) (λ hc=> ?_)
    · cases x with
      | int i=>
        walk_at "w";refine MD (λ h1=> ?_) (λ h1=> ?_)
        · walk_at "w";exact BG (by show _=(decide (a<=i)&&decide (i<=b));rw [h1,Bool.true_and]) k
        · walk_at "w";exact BG (by show _=(decide (a<=i)&&decide (i<=b));rw [h1,Bool.false_and]) k
      | _=>exact absurd hc Bool.false_ne_true
    · exact BG (by cases x <;> first | rfl | exact absurd hc.symm Bool.false_ne_true) k
abbrev colS:Str:="abcdefghijklmnopqrstuvwxyz"
def GH (z:Str):Prop:=z.length=1/\(!(Builtin.Str.occurrences colS z 0 colS.length 1).isEmpty)=true
def Gh (m:Nat) (ns:List Nat):Prop:=∀ i,i<ns.length->(0::ns).getD i 0+1<=ns.getD i 0/\ns.getD i 0<=m
structure Dr where
  sh:Nat
  tr:Nat
  th:List Nat
  ti:List (List Nat)
  td:List (List Nat)
  wa:List Str
  we:List Str
structure DrOk (d:Dr):Prop where
  s1:1<=d.sh
  s2:d.sh<=16
  t1:1<=d.tr
  t2:d.tr<=16
  h1:1<=d.th.length
  h2:d.th.length<=60
  hs:∀ n∈d.th,n<=d.sh
  il:d.ti.length=d.tr
  ir:∀ l∈d.ti,Gh d.sh l
  p1:1<=d.td.length
  p2:d.td.length<=60
  pr:∀ l∈d.td,Gh d.tr l
  wl:d.wa.length=d.th.length
  wc:∀ z∈d.wa,GH z
  fl:d.we.length=d.td.length
  fc:∀ z∈d.we,GH z
structure Parts (H:Hp) (d:Dr) (vs:List V):Prop where
  ex:∃ a1 v2 v3 a4 a5,vs=[nV d.sh,nV d.tr, .ref a1,v2,v3, .ref a4, .ref a5]/\H a1=some (.lst (d.th.map nV))/\Rp H FT 2 v2 (dLL d.ti)/\Rp H FT 2 v3 (dLL d.td)/\H a4=some (.lst (d.wa.map V.str))/\H a5=some (.lst (d.we.map V.str))
theorem Parts.same {H H':Hp} {d:Dr} {vs:List V} (p:Parts H d vs) (s:Same H H'):Parts H' d vs:=by
  obtain ⟨a1,v2,v3,a4,a5,e,h1,h2,h3,h4,h5⟩:=p.ex;exact ⟨a1,v2,v3,a4,a5,e,s _ _ h1,h2.same s,h3.same s,s _ _ h4,s _ _ h5⟩
theorem am {n:Nat} {lo hi:Int} (h1:lo<=n) (h2:(n:Int)<=hi):Ax (nV n) lo hi=true:=by
  show (decide (lo<=(n:Nat))&&decide (((n:Nat):Int)<=hi))=true;simp [h1,h2]
def DrAt (C:Addr) (H:Hp) (x:Addr) (d:Dr):Prop:=∃ dx v1 v2 v3 v4 v5,H x=some (.ins C dx [("shafts",nV d.sh),("treadles",nV d.tr),("threading",v1),("ties",v2),("treading",v3),("warp",v4),("weft",v5)])/\
  Rp H FT 1 v1 (dT d.th)/\Rp H FT 2 v2 (dTT d.ti)/\Rp H FT 2 v3 (dTT d.td)/\Rp H FT 1 v4 (dST d.wa)/\Rp H FT 1 v5 (dST d.we)
theorem DrAt.same {C:Addr} {H H':Hp} {x:Addr} {d:Dr} (h:DrAt C H x d) (s:Same H H'):DrAt C H' x d:=by
  obtain ⟨dx,v1,v2,v3,v4,v5,h0,h1,h2,h3,h4,h5⟩:=h;exact ⟨dx,v1,v2,v3,v4,v5,s _ _ h0,h1.same s,h2.same s,h3.same s,h4.same s,h5.same s⟩
def dDr (d:Dr):Dt:= .tup [dN d.sh,dN d.tr,dL d.th,dLL d.ti,dLL d.td,dS d.wa,dS d.we]
def DV (c:Cs):Sp:=λ vs H Q _=>∃ x d,vs=[.ref x]/\DrAt c.Draft H x d/\∀ H' p,Same H H'->H p=none->Rp H' (FN H) 3 (.ref p) (dDr d)->Q (.ref p) H'
abbrev CD:Stmt:=AR (top 26) 1
theorem Ge:FnScope ["self"] ["self"] (Al CD):=⟨rfl,rfl,rfl,by decide +kernel,rfl,by decide +kernel,by decide +kernel⟩
theorem F7 {f:Addr} {fd:FuncData} (F:Fun K "told" "Draft.told" CD f fd) (T:Txt K mg c):FnOk P w K mg base CX0 1 f fd ["self"] (DV c):=by
  refine F.ok Ge (λ vs H Q E h=> ?_) (λ cdv A outer s H vs Q E hr h=> ?_)
  · obtain ⟨x,d,rfl,_⟩:=h;rfl
  · obtain ⟨x,d,rfl,⟨dx,v1,v2,v3,v4,v5,h0,h1,h2,h3,h4,h5⟩,k⟩:=h;obtain ⟨a1,rfl,e1,b1⟩:=Jm h1;obtain ⟨m2,a2,vs2,em2,rfl,e2,l2,b2,el2⟩:=IL h2;cases em2;obtain ⟨m3,a3,vs3,em3,rfl,e3,l3,b3,el3⟩:=IL h3;cases em3;obtain ⟨a4,rfl,e4,b4⟩:=La h4;obtain ⟨a5,rfl,e5,b5⟩:=La h5;rw [List.length_map] at l2 l3;refine ⟨_,(Ai (Au (Bk (Aa (Ex (K:=K) (pv 0) rfl) (Aa (Ex (K:=K) (pv 0) rfl) (Aa (AD (ES (K:=K)) rfl (T.own _ (by decide)) AC (Aa (Ex (K:=K) (pv 0) rfl) Ab)) (Aa (AX (JT (K:=K) (Ex (K:=K) (pv 0) rfl)) (λ _ _ _ _=>AG) (λ _ _ _ _=>(AD (ES (K:=K)) rfl (T.own _ (by decide)) AC (Aa (pv 0) Ab)))) (Aa (AX (JT (K:=K) (Ex (K:=K) (pv 0) rfl)) (λ _ _ _ _=>AG) (λ _ _ _ _=>(AD (ES (K:=K)) rfl (T.own _ (by decide)) AC (Aa (pv 0) Ab)))) (Aa (AD (ES (K:=K)) rfl (T.own _ (by decide)) AC (Aa (Ex (K:=K) (pv 0) rfl) Ab)) (Aa (AD (ES (K:=K)) rfl (T.own _ (by decide)) AC (Aa (Ex (K:=K) (pv 0) rfl) Ab)) Ab)))))))))),?_⟩;walk_at "w";refine ⟨_,_,_,_,_,rfl,h0,T.kd_Draft.cl,T.na_Draft_shafts,rfl,?_⟩;walk_at "w";refine ⟨_,_,_,_,_,rfl,h0,T.kd_Draft.cl,T.na_Draft_treadles,rfl,?_⟩;walk_at "w";refine ⟨_,_,_,_,_,rfl,h0,T.kd_Draft.cl,T.na_Draft_threading,rfl,?_⟩;walk_at "w";refine Bx (SqT.of e1) λ p1 hp1=> ?_;walk_at "w";have s1:=Ag (o:=HO.lst (d.th.map nV)) hp1;have r1:Rp (upd H p1 (HO.lst (d.th.map nV))) (FN H) 2 (.ref p1) (dL d.th):=Km Ac hp1 b1;generalize upd H p1 (HO.lst (d.th.map nV))=H1 at s1 r1 ⊢;refine ⟨_,_,_,_,_,rfl,s1 _ _ h0,T.kd_Draft.cl,T.na_Draft_ties,rfl,?_⟩;walk_at "w";refine ⟨a2,rfl,⟨_,SqT.of (s1 _ _ e2)⟩,λ D2 hD2=> ?_⟩;refine AI (m:=1) (G:=λ i=>dL (d.ti.getD i [])) (Fi (SqT.of (s1 _ _ e2)) rfl) hD2 b2 ?_ ?_
    · intro i H' R hi s kk;have hi':i<d.ti.length:=by omega
      have r:=el2 i (by simpa using hi');rw [BE dT d.ti i .non [] hi'] at r;obtain ⟨b,eb,hb3,hb4⟩:=Jm r;rw [eb];walk_at "w";exact Bx (SqT.of (s _ _ (s1 _ _ hb3))) λ q hq=>kk _ _ (Ag hq) (Km Ac hq hb4)
    intro H2 ys2 s2 hl2 r2;rw [l2,NZ] at r2;replace r2:Rp H2 (FN H) 2 (.ref D2) (dLL d.ti):=r2.imp λ a ha=>s1.free ha;have s02:=s1.trans s2;walk_at "w";refine ⟨_,_,_,_,_,rfl,s02 _ _ h0,T.kd_Draft.cl,T.na_Draft_treading,rfl,?_⟩;walk_at "w";refine ⟨a3,rfl,⟨_,SqT.of (s02 _ _ e3)⟩,λ D3 hD3=> ?_⟩;refine AI (m:=1) (G:=λ i=>dL (d.td.getD i [])) (Fi (SqT.of (s02 _ _ e3)) rfl) hD3 b3 ?_ ?_
    · intro i H' R hi s kk;have hi':i<d.td.length:=by omega
      have r:=el3 i (by simpa using hi');rw [BE dT d.td i .non [] hi'] at r;obtain ⟨b,eb,hb3,hb4⟩:=Jm r;rw [eb];walk_at "w";exact Bx (SqT.of (s _ _ (s02 _ _ hb3))) λ q hq=>kk _ _ (Ag hq) (Km Ac hq hb4)
    intro H3 ys3 s3 hl3 r3;rw [l3,NZ] at r3;replace r3:Rp H3 (FN H) 2 (.ref D3) (dLL d.td):=r3.imp λ a ha=>s02.free ha;have s03:=s02.trans s3;walk_at "w";refine ⟨_,_,_,_,_,rfl,s03 _ _ h0,T.kd_Draft.cl,T.na_Draft_warp,rfl,?_⟩;walk_at "w";refine Bx (SqT.of (s03 _ _ e4)) λ p4 hp4=> ?_;walk_at "w";have s4:=Ag (o:=HO.lst (d.wa.map V.str)) hp4;have r4:Rp (upd H3 p4 (HO.lst (d.wa.map V.str))) (FN H) 2 (.ref p4) (dS d.wa):=C1 Ac (s03.free hp4) b4;generalize upd H3 p4 (HO.lst (d.wa.map V.str))=H4 at s4 r4 ⊢;have s04:=s03.trans s4;refine ⟨_,_,_,_,_,rfl,s04 _ _ h0,T.kd_Draft.cl,T.na_Draft_weft,rfl,?_⟩;walk_at "w";refine Bx (SqT.of (s04 _ _ e5)) λ p5 hp5=> ?_;walk_at "w";have s5:=Ag (o:=HO.lst (d.we.map V.str)) hp5;have r5:Rp (upd H4 p5 (HO.lst (d.we.map V.str))) (FN H) 2 (.ref p5) (dS d.we):=C1 Ac (s04.free hp5) b5;generalize upd H4 p5 (HO.lst (d.we.map V.str))=H5 at s5 r5 ⊢;have s05:=s04.trans s5;intro p hp;have s6:=Ag (o:=HO.tup [nV d.sh,nV d.tr, .ref p1, .ref D2, .ref D3, .ref p4, .ref p5]) hp;refine k _ p (s05.trans s6) (s05.free hp) (JX Ac (.int _) (.int _) ?_ ?_ ?_ ?_ ?_)
    · exact (r1.same (s2.trans (s3.trans (s4.trans s5)))).same s6
    · exact (r2.same (s3.trans (s4.trans s5))).same s6
    · exact (r3.same (s4.trans s5)).same s6
    · exact (r4.same s5).same s6
    · exact r5.same s6
def Ec (c:Cs):Sp:=λ vs H Q _=>∃ x d,vs=[.ref x]/\DrAt c.Draft H x d/\Q (nV d.th.length) H
abbrev CG:Stmt:=AR (top 26) 2
theorem Gj:FnScope ["self"] ["self"] (Al CG):=⟨rfl,rfl,rfl,by decide +kernel,rfl,by decide +kernel,by decide +kernel⟩
theorem F6 {f:Addr} {fd:FuncData} (F:Fun K "ends" "Draft.ends" CG f fd) (T:Txt K mg c):FnOk P w K mg base CX0 1 f fd ["self"] (Ec c):=by
  refine F.ok Gj (λ vs H Q E h=> ?_) (λ cdv A outer s H vs Q E hr h=> ?_)
  · obtain ⟨x,d,rfl,_⟩:=h;rfl
  · obtain ⟨x,d,rfl,⟨dx,v1,v2,v3,v4,v5,h0,h1,h2,h3,h4,h5⟩,k⟩:=h;obtain ⟨a1,rfl,e1,b1⟩:=Jm h1;refine ⟨_,(Ai (Au (Ak (CQ (K:=K)) rfl (T.own _ (by decide)) boot_len (Aa (Ex (K:=K) (pv 0) rfl) Ab)))),?_⟩;walk_at "w";refine ⟨_,_,_,_,_,rfl,h0,T.kd_Draft.cl,T.na_Draft_threading,rfl,?_⟩;walk_at "w";refine He (SqT.of e1) ?_;rw [List.length_map];exact k
def BF (x k:Int):Int:=(x%1000000007+7919*k+13)*(x%1000000007+7919*k+13)%1000000007*48271%2147483647
theorem Ql (x k:Int):0<=BF x k:=Int.emod_nonneg _ (by decide)
def Cb:Sp:=λ vs H Q _=>∃ x k:Int,vs=[.int x, .int k]/\(0<=k/\k<=1000)/\Q (.int (BF x k)) H
abbrev CN:Stmt:=top 28
theorem sc__law_mixed:FnScope ["_law_cell","_law_k"] ["_law_cell","_law_k"] (Al CN):=⟨rfl,rfl,rfl,by decide +kernel,rfl,by decide +kernel,by decide +kernel⟩
theorem Gp {f:Addr} {fd:FuncData} (F:Fun K "_law_mixed" "_law_mixed" CN f fd) (T:Txt K mg c):FnOk P w K mg base CX0 1 f fd ["_law_cell","_law_k"] Cb:=by
  refine F.ok sc__law_mixed (λ vs H Q E h=> ?_) (λ cdv A outer s H vs Q E hr h=> ?_)
  · obtain ⟨x,k,rfl,_⟩:=h;rfl
  · obtain ⟨x,k,rfl,hk,q⟩:=h;refine ⟨_,(Ad (Aw (i:=0) sc__law_mixed.nd rfl (Or.inl rfl) (Ao AZ (Ao AZ (Ao AJ (pv 0) Ae) (Ao FI Ae (pv 1))) Ae))
      (Ai (Au (Ao AJ (Ao FI (Ao AJ (Ao FI (pv 0) (pv 0)) Ae) Ae) Ae)))),?_⟩
    have b1:=Int.emod_nonneg x (show (1000000007:Int)≠0 by decide);have b2:=Int.emod_lt_of_pos x (show (0:Int)<1000000007 by decide);walk_at "w";refine AH (by decide) ?_;walk_at "w";refine AH (.inl ⟨by decide,by decide⟩) ?_;walk_at "w";refine AH (.inl ⟨?_,?_⟩) ?_
    · show -(2 ^ 64)<x%1000000007+7919*k+13;omega
    · show x%1000000007+7919*k+13<2 ^ 64;omega
    walk_at "w";refine AH (by decide) ?_;walk_at "w";refine AH (.inr ⟨by decide,by decide⟩) ?_;walk_at "w";refine AH (by decide) ?_;exact q
def LM (n:Nat) (f:Int):Nat:=max 1 (min 60 (Builtin.Range.rangeSize f (n:Nat) 2).toNat)
def DU (K:PySem.W.Frag):Sp:=λ vs H Q _=>∃ (a:Addr) (ns:List Int) (f:Int),vs=[.ref a, .int f]/\SqL K H a (ns.map V.int)/\ns.length<=63/\0<=f/\f<=1/\∀ H' p (ms:List Int),Same H H'->H p=none->H' p=some (.lst (ms.map V.int))->1<=ms.length->ms.length<=60/\ms.length<=ns.length+1/\ms.length=LM ns.length f->Q (.ref p) H'
theorem O9 {f:Int} {n:Nat} {i:Nat} (f0:0<=f) (h:i<(Builtin.Range.rangeSize f (n:Nat) 2).toNat):f+i*2<n:=by
  unfold Builtin.Range.rangeSize at h;rw [if_pos (by decide)] at h;split at h
  · omega
  · simp at h
abbrev Cv:Stmt:=top 31
theorem sc__law_cells:FnScope ["_law_script","_law_first","_law_found"] ["_law_script","_law_first"] (Al Cv):=⟨rfl,rfl,rfl,by decide +kernel,rfl,by decide +kernel,by decide +kernel⟩
theorem Gb {f:Addr} {fd:FuncData} (F:Fun K "_law_cells" "_law_cells" Cv f fd) (T:Txt K mg c):FnOk P w K mg base CX0 1 f fd ["_law_script","_law_first"] (DU K):=by
  refine F.ok sc__law_cells (λ vs H Q E h=> ?_) (λ cdv A outer s H vs Q E hr h=> ?_)
  · obtain ⟨a,ns,f,rfl,_⟩:=h;rfl
  · obtain ⟨a,ns,f,rfl,sa,hn,f0,f1,k⟩:=h;have hu:=hr.units0;refine ⟨_,(Ad (Aw (i:=2) sc__law_cells.nd rfl (Or.inl rfl) (Ht (Oe (K:=K)) (AX (KC rfl (T.own _ (by decide)) (Aa (pv 1) (Aa (Ak (CQ (K:=K)) rfl (T.own _ (by decide)) boot_len (Aa (pv 0) Ab)) (Aa Ae Ab)))) (λ _ _ _ _=>AG) (λ _ _ _ _=>(A5 (Bh (K:=K)) (pv 1) (pv 0) (λ _ _=>rfl)))) JJ (Jl Ae)))
      (Ai (Au (Ao (EW (K:=K)) (pv 2) (Ao Ld (Av (Aa (pv 1) Ab)) (AD PM rfl (T.own _ (by decide)) boot_int (Aa (BL (Oj hu (K:=K)) (pv 2) (Av Ab) (AN _)) Ab))))))),?_⟩
    walk_at "w";refine B4 sa ?_;walk_at "w";refine ⟨_,_,_,rfl,⟨by omega,by omega⟩,⟨by omega,by rw [List.length_map];omega⟩,⟨by decide,by decide⟩,by decide,λ D hD=> ?_⟩;rw [List.length_map];have hb:∀ i:Nat,i<(Builtin.Range.rangeSize f (ns.length:Nat) 2).toNat->f+i*2<ns.length:=λ i hi=>O9 f0 hi;have hsz:(Builtin.Range.rangeSize f (ns.length:Nat) 2).toNat<=63:=by
      have:=Lk f (ns.length:Nat) 2 (by decide);omega
    have hce:LM ns.length f=max 1 (min 60 (Builtin.Range.rangeSize f (ns.length:Nat) 2).toNat):=rfl;generalize (Builtin.Range.rangeSize f (ns.length:Nat) 2).toNat=n at hb hsz hce ⊢;refine GT (G:=λ i=>ns.getD (f+i*2).toNat 0) (IM rfl) hD (by omega) ?_ ?_
    · intro i H' R hi s kk;have:=hb i hi;walk_at "w";refine Ah (SqS.same (tp:=false) sa s) (NV (by omega) (by omega)) ?_;exact kk H' (Same.refl _)
    intro H1 s1 hl1;have hn1:n<=ns.length:=by
      rcases Nat.eq_zero_or_pos n with z | z
      · omega
      · have:=hb (n - 1) (by omega);omega
    have lms:((List.range n).map λ i:Nat=>ns.getD (f+i*2).toNat 0).length<=ns.length/\((List.range n).map λ i:Nat=>ns.getD (f+i*2).toNat 0).length=n:=by simpa using hn1
    generalize (List.range n).map (λ i:Nat=>ns.getD (f+i*2).toNat 0)=ms at hl1 lms;walk_at "w";refine LV (SqL.of hl1) λ q hq=> ?_;rw [Lm (by decide), <-List.map_take];have s2:=Ag (o:=HO.lst ((ms.take (60:Int).toNat).map V.int)) hq;have h2:upd H1 q (HO.lst ((ms.take (60:Int).toNat).map V.int)) q=_:=Ac;have s12:=s1.trans s2;generalize upd H1 q (HO.lst ((ms.take (60:Int).toNat).map V.int))=H2 at s12 h2 ⊢;have hms:(ms.take (60:Int).toNat).length<=60/\(ms.take (60:Int).toNat).length<=ns.length/\(ms.take (60:Int).toNat).length=min 60 n:=by rw [List.length_take,lms.2];exact ⟨Nat.min_le_left _ _,Nat.le_trans (Nat.min_le_right _ _) hn1,rfl⟩
    generalize ms.take (60:Int).toNat=ts at h2 hms ⊢;walk_at "w";intro p hp;walk_at "w";have s3:=Ag (o:=HO.lst [V.int f]) hp;have h3:upd H2 p (HO.lst [V.int f]) p=some (.lst [V.int f]):=Ac;have s13:=s12.trans s3;replace h2:=s3 _ _ h2;generalize upd H2 p (HO.lst [V.int f])=H3 at s13 h2 h3 ⊢;intro p4 hp4;walk_at "w";have s4:=Ag (o:=HO.lst []) hp4;have s14:=s13.trans s4;replace h2:=s4 _ _ h2;replace h3:=s4 _ _ h3;have h4:upd H3 p4 (HO.lst []) p4=_:=Ac;generalize upd H3 p4 (HO.lst [])=H4 at s14 h2 h3 h4 ⊢;refine M3 (bs:=[]) (SqL.of h2) (SqL.of h4) ?_;walk_at "w";refine ⟨_,rfl,?_⟩;have hb2:(0:Int)<=(if decide (ts=[])=true then 1 else 0)/\(if decide (ts=[])=true then (1:Int) else 0)<=1:=by split <;> decide
    refine LN h3 hb2.1 (by omega) (by simp) λ p5 hp5=> ?_;walk_at "w";have e5:(List.replicate (if decide (ts=[])=true then (1:Int) else 0).toNat [V.int f]).flatten=(if ts=[] then [f] else []).map V.int:=by
      by_cases z:ts=[]
      · simp [z]
      · simp [z]
    rw [e5];have s5:=Ag (o:=HO.lst ((if ts=[] then [f] else []).map V.int)) hp5;have h5:upd H4 p5 (HO.lst ((if ts=[] then [f] else []).map V.int)) p5=_:=Ac;replace h2:=s5 _ _ h2;have s15:=s14.trans s5;generalize upd H4 p5 (HO.lst ((if ts=[] then [f] else []).map V.int))=H5 at s15 h2 h5 ⊢;have hlen:1<=(ts++(if ts=[] then [f] else [])).length/\(ts++(if ts=[] then [f] else [])).length<=60/\(ts++(if ts=[] then [f] else [])).length<=ns.length+1/\(ts++(if ts=[] then [f] else [])).length=LM ns.length f:=by
      by_cases z:ts=[]
      · rw [z] at hms;simp [z,hce];simp at hms;omega
      · have:1<=ts.length:=by
          cases ts with
          | nil=>exact absurd rfl z
          | cons _ _=>simp
        simp [z];omega
    refine Ds (SqL.of h2) (SqL.of h5) (by have:=hlen.2.1;rw [List.length_append] at this;simp only [List.length_map];omega) λ p6 hp6=> ?_;rw [<-List.map_append];exact k _ p6 _ (s15.trans (Ag hp6)) (s15.free hp6) Ac hlen.1 hlen.2
def FA (m w:Nat):List Nat:=((List.range w).filter m.testBit).map (· + 1)
theorem E5 (p:Nat->Bool):∀ w,Gh w (((List.range w).filter p).map (· + 1)):=by
  intro w;have key:∀ w,(∀ n∈((List.range w).filter p).map (· + 1),1<=n/\n<=w)/\(((List.range w).filter p).map (· + 1)).Pairwise (· < ·):=by
    intro w;refine ⟨λ n hn=> ?_,?_⟩
    · obtain ⟨k,hk,rfl⟩:=List.mem_map.mp hn;have:=List.mem_range.mp (List.mem_filter.mp hk).1;omega
    · rw [List.pairwise_map];exact ((List.pairwise_lt_range).filter p).imp (λ h=>Nat.succ_lt_succ h)
  obtain ⟨k1,k2⟩:=key w;generalize ((List.range w).filter p).map (· + 1)=ns at k1 k2;intro i hi;have e:ns.getD i 0=ns[i]:=by simp [List.getD_eq_getElem?_getD,hi]
  have m1:=k1 _ (List.getElem_mem hi);rw [e];refine ⟨?_,m1.2⟩;cases i with
  | zero=>simpa using m1.1
  | succ i=>
    have e2:(0::ns).getD (i+1) 0=ns[i]:=by
      show ns.getD i 0=ns[i];simp [List.getD_eq_getElem?_getD,(show i<ns.length by omega)]
    rw [e2];exact (List.pairwise_iff_getElem.mp k2) i (i+1) (by omega) hi (by omega)
def CW:Sp:=λ vs H Q _=>∃ m w:Nat,vs=[nV m,nV w]/\w<=100/\∀ H' p,Same H H'->H p=none->H' p=some (.lst ((FA m w).map nV))->Q (.ref p) H'
theorem Nj (m i:Nat):decide ((((m >>> i) &&& 1:Nat):Int)=1)=m.testBit i:=by
  have h:((m >>> i) &&& 1)=(m.testBit i).toNat:=by
    rw [Nat.and_one_is_mod,Nat.shiftRight_eq_div_pow,MM.bit_div]
  rw [h];cases m.testBit i <;> rfl
abbrev B2:Stmt:=top 32
theorem Fg:FnScope ["_law_mask","_law_most"] ["_law_mask","_law_most"] (Al B2):=⟨rfl,rfl,rfl,by decide +kernel,rfl,by decide +kernel,by decide +kernel⟩
theorem Fc {f:Addr} {fd:FuncData} (F:Fun K "_law_numbers" "_law_numbers" B2 f fd) (T:Txt K mg c):FnOk P w K mg base CX0 1 f fd ["_law_mask","_law_most"] CW:=by
  refine F.ok Fg (λ vs H Q E h=> ?_) (λ cdv A outer s H vs Q E hr h=> ?_)
  · obtain ⟨m,w,rfl,_⟩:=h;rfl
  · obtain ⟨m,w,rfl,hw,k⟩:=h;refine ⟨_,(Ai (Au (AX (DL rfl (T.own _ (by decide)) (Aa (pv 1) Ab)) (λ _ _ _ _=>(Jx (AT Gu (Ao OY (Ao Pk (pv 1) (pv 0)) Ae) Ae (AN _)))) (λ _ _ _ _=>(Ao AZ (pv 0) Ae))))),?_⟩;walk_at "w";refine ⟨_,rfl,by omega,by omega,λ D hD=> ?_⟩;rw [Int.toNat_natCast];refine Ja (p:=m.testBit) (G:=λ i=>(i:Int)+1) (Fw rfl) hD (by omega) ?_ ?_ ?_
    · intro i H' R hi s kk;walk_at "w";refine AH (by show (0:Int)<=_;omega) ?_;walk_at "w";have e:((m:Nat):Int) / 2 ^ (((i:Nat):Int)).toNat=((m >>> i:Nat):Int):=by
        rw [Int.toNat_natCast,Nat.shiftRight_eq_div_pow];push_cast;rfl
      rw [e,show (1:Int)=((1:Nat):Int) from rfl,bA];walk_at "w";rw [show (((1:Nat):Int))=(1:Int) from rfl,Nj];exact kk H' (Same.refl _)
    · intro i H' R hi hp s kk;walk_at "w";exact kk H' (Same.refl _)
    · intro H' s hl;refine k H' D s hD ?_;rw [hl];unfold FA;rw [List.map_map,List.map_map];rfl
def Bd:Nat->Sp
  | 0=>λ _ _ _ _=>False
  | n+1=>λ vs H Q _=>∃ v d,vs=[v]/\Rp H FT n v d/\∀ H' r,Same H H'->Rp H' (FN H) n r d->Q r H'
abbrev Bz:Stmt:=top 34
theorem FC:FnScope ["_law_thing"] ["_law_thing"] (Al Bz):=⟨rfl,rfl,rfl,by decide +kernel,rfl,by decide +kernel,by decide +kernel⟩
theorem Fe {n:Nat} {f:Addr} {fd:FuncData} (F:Fun K "_law_copied" "_law_copied" Bz f fd) (T:Txt K mg c) (c__law_copied:CallF P w K mg base "_law_copied" (n+1) ["_law_thing"] (Bd n)):FnOk P w K mg base CX0 (n+2) f fd ["_law_thing"] (Bd (n+1)):=by
  refine F.ok FC (λ vs H Q E h=> ?_) (λ cdv A outer s H vs Q E hr h=> ?_)
  · obtain ⟨v,d,rfl,_⟩:=h;rfl
  · obtain ⟨v,d,rfl,rv,k⟩:=h;refine ⟨_,(Ad (Bn (By (Ak (Bc (K:=K)) rfl (T.own _ (by decide)) boot_isinstance (Aa (pv 0) (Aa (Bo rfl (T.own _ (by decide)) AC) Ab)))) (Ai (Au (AX (BH (K:=K) (pv 0)) (λ _ _ _ _=>AG) (λ _ _ _ _=>(Aj c__law_copied hr (Aa (pv 0) Ab)))))) AL)
      (Ad (Bn (By (Ak (Bc (K:=K)) rfl (T.own _ (by decide)) boot_isinstance (Aa (pv 0) (Aa (Bo rfl (T.own _ (by decide)) Ay) Ab)))) (Ai (Au (AD (BN (K:=K)) rfl (T.own _ (by decide)) Ay (Aa (AX (JT (K:=K) (pv 0)) (λ _ _ _ _=>AG) (λ _ _ _ _=>(Aj c__law_copied hr (Aa (pv 0) Ab)))) Ab)))) AL)
      (Ai (Au (pv 0))))),?_⟩
    walk_at "w";refine AM rv.ty (Fl d) ?_;walk_at "w";refine PD (λ hc=> ?_) (λ hc=> ?_)
    · obtain ⟨m,a,xs,rfl,rfl,sa,la,ba,ea⟩:=rv.seq (K:=K) (by rw [hc];rfl);have ed:d= .lst (A2 d):=by cases d <;> first | rfl | cases hc
      have et:BI d=false:=by cases d <;> first | rfl | cases hc
      rw [et] at sa;walk_at "w";refine ⟨a,rfl,⟨_,sa⟩,λ D hD=> ?_⟩;refine AI (m:=m) (G:=λ i=>(A2 d).getD i .non) (AY sa rfl) hD ba ?_ ?_
      · intro i H' R hi s1 kk;walk_at "w";have hd:(A2 d)[i]?=some ((A2 d).getD i .non):=by
          rw [List.getD_eq_getElem?_getD,List.getElem?_eq_getElem (by omega)];rfl
        have hx:xs[i]?=some (xs.getD i .non):=by
          rw [List.getD_eq_getElem?_getD,List.getElem?_eq_getElem hi];rfl
        exact ⟨_,_,rfl,(ea i _ _ hx hd).same s1,kk⟩
      · intro H' ys s1 hl r;have e:(List.range xs.length).map (λ i=>(A2 d).getD i .non)=A2 d:=by
          rw [la];exact (AO id (A2 d) .non).trans (List.map_id _)
        rw [e, <-ed] at r;exact k H' _ s1 r
    · walk_at "w";refine AM rv.ty (Ey d) ?_;walk_at "w";refine PD (λ hc2=> ?_) (λ hc2=> ?_)
      · obtain ⟨m,a,xs,rfl,rfl,sa,la,ba,ea⟩:=rv.seq (K:=K) (by rw [hc2,Bool.or_true]);have ed:d= .tup (A2 d):=by cases d <;> first | rfl | cases hc2
        rw [hc2] at sa;walk_at "w";refine ⟨a,rfl,⟨_,sa⟩,λ D hD=> ?_⟩;refine AI (m:=m) (G:=λ i=>(A2 d).getD i .non) (Fi sa rfl) hD ba ?_ ?_
        · intro i H' R hi s1 kk;walk_at "w";have hd:(A2 d)[i]?=some ((A2 d).getD i .non):=by
            rw [List.getD_eq_getElem?_getD,List.getElem?_eq_getElem (by omega)];rfl
          have hx:xs[i]?=some (xs.getD i .non):=by
            rw [List.getD_eq_getElem?_getD,List.getElem?_eq_getElem hi];rfl
          exact ⟨_,_,rfl,(ea i _ _ hx hd).same s1,kk⟩
        · intro H' ys s1 hl r;have e:(List.range xs.length).map (λ i=>(A2 d).getD i .non)=A2 d:=by
            rw [la];exact (AO id (A2 d) .non).trans (List.map_id _)
          rw [e] at r;walk_at "w";refine Bp (SqL.of hl) λ l hl2=> ?_;have r2:=r.tupd hl hl2;rw [<-ed] at r2;exact k _ _ (s1.trans (Ag hl2)) r2
      · walk_at "w";refine k H v (Same.refl H) ?_;have hs:(CY d||BI d)=false:=by rw [hc,hc2];rfl
        cases rv with
        | non=>exact .non
        | bl b=>exact .bl b
        | int i=>exact .int i
        | str z=>exact .str z
        | lst _ _ _ _ _=>cases hs
        | tup _ _ _ _=>cases hs
theorem BV {f:Addr} {fd:FuncData} (D:DefAt K mg "_law_copied" Bz ["_law_thing"] f fd) (T:Txt K mg c):∀ n,FnOk P w K mg base CX0 (n+1) f fd ["_law_thing"] (Bd n)
  | 0=>⟨λ _ _ _ _ h=>h.elim,λ _ _ _ _ _ _ _ _ _ _ _ _ _ h=>h.elim⟩
  | n+1=>Fe D.fn T (D.call (BV D T n))
abbrev OE (i:Int):Str:=⟨#[97+i.toNat]⟩
theorem OD:∀ j:Nat,j<26->("abcdefghijklmnopqrstuvwxyz":Str).cps.toList[j]?=some (97+j):=by decide +kernel
theorem JS {i:Int} (h0:0<=i) (h1:i<26):atI ("abcdefghijklmnopqrstuvwxyz":Str).cps.toList i=some (97+i.toNat):=by
  obtain ⟨j,rfl⟩:∃ j:Nat,i=j:=⟨i.toNat,by omega⟩;rw [Int.toNat_natCast];exact Hj (OD j (by omega))
theorem Nh:∀ j:Nat,j<26->((⟨#[97+j]⟩:Str).length == 1&& !(Builtin.Str.occurrences colS ⟨#[97+j]⟩ 0 colS.length 1).isEmpty)=true:=by decide +kernel
theorem LL {i:Int} (h0:0<=i) (h1:i<26):GH (OE i):=by
  have h:=Nh i.toNat (by omega);simp only [Bool.and_eq_true,beq_iff_eq] at h;exact ⟨h.1,h.2⟩
theorem Io (s:Nat):(0:Int)<1*2 ^ ((s:Nat):Int).toNat:=by
  rw [Int.toNat_natCast,HR];have:=Nat.two_pow_pos s;omega
theorem JB (x:Int) (s:Nat):x%(1*2 ^ ((s:Nat):Int).toNat)=(((x%(2 ^ s:Nat)).toNat:Nat):Int):=by
  rw [Int.toNat_natCast,HR];have hp:=Nat.two_pow_pos s;have:=Int.emod_nonneg x (show ((2 ^ s:Nat):Int)≠0 by omega);omega
def DS (K:PySem.W.Frag):Sp:=λ vs H Q _=>∃ (a:Addr) (ns:List Int) (m:Nat),vs=[.ref a,nV m]/\SqL K H a (ns.map V.int)/\ns.length<=63/\1<=m/\m<=16/\∀ H' p d,Same H H'->H p=none->Rp H' (FN H) 3 (.ref p) (dDr d)->DrOk d->Q (.ref p) H'
abbrev CJ:Stmt:=top 33
theorem sc__law_draft:FnScope ["_law_script","_law_most","_law_whole","_law_shafts","_law_treadles","_law_letters","_law_ends","_law_picks","_law_ties","_law_treading","_law_warp","_law_weft"] ["_law_script","_law_most"] (Al CJ):=⟨rfl,rfl,rfl,by decide +kernel,rfl,by decide +kernel,by decide +kernel⟩
theorem Gf {f:Addr} {fd:FuncData} (F:Fun K "_law_draft" "_law_draft" CJ f fd) (T:Txt K mg c) (c__law_mixed:CallF P w K mg base "_law_mixed" 1 ["_law_cell","_law_k"] Cb) (c__law_cells:CallF P w K mg base "_law_cells" 1 ["_law_script","_law_first"] (DU K)) (c__law_numbers:CallF P w K mg base "_law_numbers" 1 ["_law_mask","_law_most"] CW):FnOk P w K mg base CX0 2 f fd ["_law_script","_law_most"] (DS K):=by
  refine F.ok sc__law_draft (λ vs H Q E h=> ?_) (λ cdv A outer s H vs Q E hr h=> ?_)
  · obtain ⟨a,ns,m,rfl,_⟩:=h;rfl
  · obtain ⟨a,ns,m,rfl,sa,hn,m1,m2,k⟩:=h;refine ⟨_,(Ad (Aw (i:=2) sc__law_draft.nd rfl (Or.inr rfl) (Ak (NX (K:=K)) rfl (T.own _ (by decide)) boot_sum (Aa (Ft (K:=K) (NB (K:=K) rfl (T.own _ (by decide)) (Aa (pv 0) Ab)) (λ _ _ _ _=>AG) (λ _ _ _ _=>(Ao FI (Ao AJ (pv 1) Ae) (Ao AZ (pv 0) Ae)))) Ab)))
      (Ad (Aw (i:=3) sc__law_draft.nd rfl (Or.inr rfl) (Ao AZ Ae (Ao AJ (Aj c__law_mixed hr (Aa (pv 2) (Aa Ae Ab))) (pv 1))))
      (Ad (Aw (i:=4) sc__law_draft.nd rfl (Or.inr rfl) (Ao AZ Ae (Ao AJ (Aj c__law_mixed hr (Aa (pv 2) (Aa Ae Ab))) (pv 1))))
      (Ad (Aw (i:=5) sc__law_draft.nd rfl (Or.inr rfl) An)
      (Ad (Aw (i:=6) sc__law_draft.nd rfl (Or.inl rfl) (Aj c__law_cells hr (Aa (pv 0) (Aa Ae Ab))))
      (Ad (Aw (i:=7) sc__law_draft.nd rfl (Or.inl rfl) (Aj c__law_cells hr (Aa (pv 0) (Aa Ae Ab))))
      (Ad (Cg (i:=8) sc__law_draft.nd rfl (Or.inl rfl) (DL rfl (T.own _ (by decide)) (Aa (pv 4) Ab)) (λ _ _ _ _=>AG) (λ _ _ _ _=>(Aj c__law_numbers hr (Aa (Ao AJ (Aj c__law_mixed hr (Aa (pv 2) (Aa (Ao AZ Ae (pv 0)) Ab))) (Ao K8 Ae (pv 1))) (Aa (pv 1) Ab)))))
      (Ad (Cg (i:=9) sc__law_draft.nd rfl (Or.inl rfl) (BH (K:=K) (pv 7)) (λ _ _ _ _=>AG) (λ _ _ _ _=>(Aj c__law_numbers hr (Aa (Ao AJ (pv 0) (Ao K8 Ae (pv 1))) (Aa (pv 1) Ab)))))
      (Ad (Bn (AT Gu (Ao AJ (Aj c__law_mixed hr (Aa (pv 2) (Aa Ae Ab))) Ae) Ae (AN _)) (Ai (Cg (i:=9) sc__law_draft.nd rfl (Or.inl rfl) (BH (K:=K) (pv 7)) (λ _ _ _ _=>AG) (λ _ _ _ _=>(Av (Aa (Ao AZ Ae (Ao AJ (pv 0) (pv 1))) Ab))))) AL)
      (Ad (Cg (i:=10) sc__law_draft.nd rfl (Or.inl rfl) (BH (K:=K) (pv 6)) (λ _ _ _ _=>AG) (λ _ _ _ _=>(A5 Lb (pv 1) (Ao AJ (Ao Cp (pv 0) Ae) (Ao AZ Ae (Ao AJ (Aj c__law_mixed hr (Aa (pv 2) (Aa Ae Ab))) Ae))) (λ _ _=>rfl))))
      (Ad (Cg (i:=11) sc__law_draft.nd rfl (Or.inl rfl) (BH (K:=K) (pv 7)) (λ _ _ _ _=>AG) (λ _ _ _ _=>(A5 Lb (pv 1) (Ao AJ (Ao Cp (pv 0) Ae) (Ao AZ Ae (Ao AJ (Aj c__law_mixed hr (Aa (pv 2) (Aa Ae Ab))) Ae))) (λ _ _=>rfl))))
      (Ai (Au (Bk (Aa (pv 3) (Aa (pv 4) (Aa (AX (BH (K:=K) (pv 6)) (λ _ _ _ _=>AG) (λ _ _ _ _=>(Ao AJ (pv 0) (Ao AZ (pv 1) Ae)))) (Aa (pv 8) (Aa (pv 9) (Aa (pv 10) (Aa (pv 11) Ab))))))))))))))))))))),?_⟩
    walk_at "w";refine ⟨a,rfl,⟨_,sa⟩,λ D0 hD0=> ?_⟩;refine GT (G:=λ i=>ns.getD i 0%1000000007*((i:Int)+1)) (Mf sa rfl rfl) hD0 (by rw [List.length_map];omega) ?_ ?_
    · intro i H' R hi s kk;have b1:=Int.emod_nonneg (ns.getD i 0) (show (1000000007:Int)≠0 by decide);have b2:=Int.emod_lt_of_pos (ns.getD i 0) (show (0:Int)<1000000007 by decide);rw [Cf hi];walk_at "w";refine AH (by decide) ?_;walk_at "w";refine AH (.inl ⟨by omega,by omega⟩) ?_;exact kk H' (Same.refl _)
    intro H1 s1 hl1;walk_at "w";refine Lj (SqL.of hl1) ?_;generalize ((List.range (ns.map V.int).length).map λ i:Nat=>ns.getD i 0%1000000007*((i:Int)+1)).sum=W;walk_at "w";refine ⟨W,1,rfl,⟨by decide,by decide⟩,?_⟩;walk_at "w";refine AH (by show (0:Int)<(m:Nat);omega) ?_;walk_at "w";obtain ⟨sN,es,sN1,sN2⟩:∃ s:Nat,1+BF W 1%(m:Nat)=(s:Nat)/\1<=s/\s<=16:=by
      have h0:=Int.emod_nonneg (BF W 1) (show ((m:Nat):Int)≠0 by omega);have h1:=Int.emod_lt_of_pos (BF W 1) (show (0:Int)<(m:Nat) by omega);exact ⟨(1+BF W 1%(m:Nat)).toNat,by omega,by omega,by omega⟩
    rw [es];refine ⟨W,2,rfl,⟨by decide,by decide⟩,?_⟩;walk_at "w";refine AH (by show (0:Int)<(m:Nat);omega) ?_;walk_at "w";obtain ⟨tN,et,tN1,tN2⟩:∃ s:Nat,1+BF W 2%(m:Nat)=(s:Nat)/\1<=s/\s<=16:=by
      have h0:=Int.emod_nonneg (BF W 2) (show ((m:Nat):Int)≠0 by omega);have h1:=Int.emod_lt_of_pos (BF W 2) (show (0:Int)<(m:Nat) by omega);exact ⟨(1+BF W 2%(m:Nat)).toNat,by omega,by omega,by omega⟩
    rw [et];refine ⟨a,ns,0,rfl,s1.seq sa,hn,by decide,by decide,λ H2 pE eE s2 hpE hE lE1 lE2=> ?_⟩;walk_at "w";have s02:=s1.trans s2;refine ⟨a,ns,1,rfl,s02.seq sa,hn,by decide,by decide,λ H3 pP eP s3 hpP hP lP1 lP2=> ?_⟩;walk_at "w";have s03:=s02.trans s3;replace hE:=s3 _ _ hE;refine ⟨_,rfl,by omega,by omega,λ D4 hD4=> ?_⟩;rw [Int.toNat_natCast];refine AI (m:=1) (G:=λ i=>dL (FA (BF W (3+(i:Int))%(2 ^ sN:Nat)).toNat sN)) (Fw rfl) hD4 (by omega) ?_ ?_
    · intro i H' R hi s kk;walk_at "w";refine ⟨W,_,rfl,⟨by omega,by omega⟩,?_⟩;walk_at "w";refine AH ⟨by omega,by omega,by decide⟩ ?_;walk_at "w";refine AH (Io sN) ?_;walk_at "w";rw [JB];exact ⟨_,sN,rfl,by omega,λ H4 p4 s4 hp4 h4=>kk H4 _ s4 (Km h4 hp4 (by unfold FA;rw [List.length_map];exact Nat.le_trans (List.length_filter_le _ _) (by simp;omega)))⟩
    intro H4 ys4 s4 hl4 r4;rw [Hc] at r4;have s04:=s03.trans s4;replace r4:Rp H4 (FN H) 2 (.ref D4) _:=r4.imp λ a ha=>s03.free ha;replace hE:=s4 _ _ hE;replace hP:=s4 _ _ hP;generalize eTI:((List.range tN).map λ i:Nat=>FA (BF W (3+(i:Int))%(2 ^ sN:Nat)).toNat sN)=TI at r4;have lTI:TI.length=tN:=by rw [<-eTI];simp
    have rTI:∀ l∈TI,Gh sN l:=λ l hl=>by
      rw [<-eTI] at hl;obtain ⟨i,_,rfl⟩:=List.mem_map.mp hl;exact E5 _ sN
    walk_at "w";refine ⟨pP,rfl,⟨_,SqL.of hP⟩,λ D5 hD5=> ?_⟩;refine AI (m:=1) (G:=λ i=>dL (FA (eP.getD i 0%(2 ^ tN:Nat)).toNat tN)) (AY (SqL.of hP) rfl) hD5 (by rw [List.length_map];omega) ?_ ?_
    · intro i H' R hi s kk;rw [Cf hi];walk_at "w";refine AH ⟨by omega,by omega,by decide⟩ ?_;walk_at "w";refine AH (Io tN) ?_;walk_at "w";rw [JB];exact ⟨_,tN,rfl,by omega,λ H4 p4 s4 hp4 h4=>kk H4 _ s4 (Km h4 hp4 (by unfold FA;rw [List.length_map];exact Nat.le_trans (List.length_filter_le _ _) (by simp;omega)))⟩
    intro H5 ys5 s5 hl5 r5;rw [List.length_map,Hc] at r5;have s05:=s04.trans s5;replace r5:Rp H5 (FN H) 2 (.ref D5) _:=r5.imp λ a ha=>s04.free ha;replace r4:=r4.same s5;replace hE:=s5 _ _ hE;replace hP:=s5 _ _ hP;walk_at "v";refine ifJ (λ σ' H6=>∃ v9 TD,σ'=[some (.ref a),some (nV m),some (.int W),some (nV sN),some (nV tN),some (.str "abcdefghijklmnopqrstuvwxyz"),some (.ref pE),some (.ref pP),some (.ref D4),some v9,none,none]/\Same H5 H6/\Rp H6 (FN H) 2 v9 (dLL TD)/\TD.length=eP.length/\∀ l∈TD,Gh tN l) ?_ (λ key=> ?_)
    · rintro σ' H6 ⟨v9,TD,rfl,s6,r9,lTD,rTD⟩;have s06:=s05.trans s6;replace r4:=r4.same s6;replace hE:=s6 _ _ hE;replace hP:=s6 _ _ hP;walk_at "w";refine ⟨pE,rfl,⟨_,SqL.of hE⟩,λ D7 hD7=> ?_⟩;have bm:∀ k:Int,(0:Int)<1+BF W k%26/\1+BF W k%26<=26:=λ k=>by
        have h0:=Int.emod_nonneg (BF W k) (show (26:Int)≠0 by decide);have h1:=Int.emod_lt_of_pos (BF W k) (show (0:Int)<26 by decide);omega
      have bq:∀ (x k:Int),0<=x%(1+BF W k%26)/\x%(1+BF W k%26)<26:=λ x k=>by
        have h:=bm k;have h0:=Int.emod_nonneg x (show (1+BF W k%26)≠0 by omega);have h1:=Int.emod_lt_of_pos x h.1;omega
      refine AI (m:=0) (G:=λ i=> .str (OE (eE.getD i 0 / 17%(1+BF W 41%26)))) (AY (SqL.of hE) rfl) hD7 (by rw [List.length_map];omega) ?_ ?_
      · intro i H' R hi s kk;rw [Cf hi];walk_at "w";refine AH ⟨by decide,by decide⟩ ?_;walk_at "w";refine ⟨W,41,rfl,⟨by decide,by decide⟩,?_⟩;walk_at "w";refine AH (by decide) ?_;walk_at "w";refine AH (bm 41).1 ?_;have:=bq (eE.getD i 0 / 17) 41;refine LG (by decide) (JS this.1 this.2) ?_;exact kk H' _ (Same.refl _) (.str _)
      intro H7 ys7 s7 hl7 r7;rw [List.length_map,Le] at r7;have s07:=s06.trans s7;replace r7:Rp H7 (FN H) 2 (.ref D7) _:=(r7.imp λ a ha=>s06.free ha).up (by decide);replace r4:=r4.same s7;replace r9:=r9.same s7;replace hE:=s7 _ _ hE;replace hP:=s7 _ _ hP;walk_at "w";refine ⟨pP,rfl,⟨_,SqL.of hP⟩,λ D8 hD8=> ?_⟩;refine AI (m:=0) (G:=λ i=> .str (OE (eP.getD i 0 / 70000%(1+BF W 42%26)))) (AY (SqL.of hP) rfl) hD8 (by rw [List.length_map];omega) ?_ ?_
      · intro i H' R hi s kk;rw [Cf hi];walk_at "w";refine AH ⟨by decide,by decide⟩ ?_;walk_at "w";refine ⟨W,42,rfl,⟨by decide,by decide⟩,?_⟩;walk_at "w";refine AH (by decide) ?_;walk_at "w";refine AH (bm 42).1 ?_;have:=bq (eP.getD i 0 / 70000) 42;refine LG (by decide) (JS this.1 this.2) ?_;exact kk H' _ (Same.refl _) (.str _)
      intro H8 ys8 s8 hl8 r8;rw [List.length_map,Le] at r8;have s08:=s07.trans s8;replace r8:Rp H8 (FN H) 2 (.ref D8) _:=(r8.imp λ a ha=>s07.free ha).up (by decide);replace r4:=r4.same s8;replace r9:=r9.same s8;replace r7:=r7.same s8;replace hE:=s8 _ _ hE;walk_at "w";refine ⟨pE,rfl,⟨_,SqL.of hE⟩,λ DA hDA=> ?_⟩;refine AI (m:=0) (G:=λ i=>dN (eE.getD i 0%((sN+1:Nat):Int)).toNat) (AY (SqL.of hE) rfl) hDA (by rw [List.length_map];omega) ?_ ?_
      · intro i H' R hi s kk;rw [Cf hi];walk_at "w";refine AH (by show (0:Int)<_;omega) ?_;have h0:=Int.emod_nonneg (eE.getD i 0) (show ((sN:Nat):Int)+1≠0 by omega);have e:eE.getD i 0%(((sN:Nat):Int)+1)=(((eE.getD i 0%((sN+1:Nat):Int)).toNat:Nat):Int):=by
          rw [show ((sN+1:Nat):Int)=((sN:Nat):Int)+1 by omega];omega
        rw [e];exact kk H' _ (Same.refl _) (.int _)
      intro HA ysA sA hlA rA;rw [List.length_map,Pc] at rA;have s0A:=s08.trans sA;replace rA:Rp HA (FN H) 2 (.ref DA) _:=(rA.imp λ a ha=>s08.free ha).up (by decide);replace r4:=r4.same sA;replace r9:=r9.same sA;replace r7:=r7.same sA;replace r8:=r8.same sA;walk_at "w";intro p hp;have sB:=Ag (o:=HO.tup [nV sN,nV tN, .ref DA, .ref D4,v9, .ref D7, .ref D8]) hp;refine k _ p ⟨sN,tN,_,TI,TD,_,_⟩ (s0A.trans sB) (s0A.free hp) (JX Ac (.int _) (.int _) (rA.same sB) (r4.same sB) (r9.same sB) (r7.same sB) (r8.same sB)) ?_;exact {
        s1:=sN1,s2:=sN2,t1:=tN1,t2:=tN2
        h1:=by simpa using lE1
        h2:=by simpa using lE2.1
        hs:=λ n hn=>by
          obtain ⟨i,_,rfl⟩:=List.mem_map.mp hn;have h0:=Int.emod_nonneg (eE.getD i 0) (show ((sN+1:Nat):Int)≠0 by omega);have h1:=Int.emod_lt_of_pos (eE.getD i 0) (show (0:Int)<((sN+1:Nat):Int) by omega);show _<=sN;omega
        il:=lTI,ir:=rTI
        p1:=by show 1<=TD.length;omega
        p2:=by show TD.length<=60;omega
        pr:=rTD
        wl:=by simp
        wc:=λ z hz=>by
          obtain ⟨i,_,rfl⟩:=List.mem_map.mp hz;exact LL (bq _ 41).1 (bq _ 41).2
        fl:=by simp [lTD]
        fc:=λ z hz=>by
          obtain ⟨i,_,rfl⟩:=List.mem_map.mp hz;exact LL (bq _ 42).1 (bq _ 42).2 }
    · walk_at "w";refine ⟨W,40,rfl,⟨by decide,by decide⟩,?_⟩;walk_at "w";refine AH (by decide) ?_;walk_at "w";refine FD (λ h0=> ?_) (λ h0=> ?_)
      · walk_at "w";refine ⟨pP,rfl,⟨_,SqL.of hP⟩,λ D6 hD6=> ?_⟩;refine AI (m:=1) (G:=λ i=>dL [(1+eP.getD i 0%(tN:Nat)).toNat]) (AY (SqL.of hP) rfl) hD6 (by rw [List.length_map];omega) ?_ ?_
        · intro i H' R hi s kk;rw [Cf hi];walk_at "w";refine AH (by show (0:Int)<(tN:Nat);omega) ?_;walk_at "w";intro q hq;have h0:=Int.emod_nonneg (eP.getD i 0) (show ((tN:Nat):Int)≠0 by omega);refine kk _ _ (Ag hq) (Km ?_ hq (by simp));rw [Ac];show some (HO.lst [V.int (1+eP.getD i 0%(tN:Nat))])=some (HO.lst [V.int (((1+eP.getD i 0%(tN:Nat)).toNat:Nat):Int)]);congr 4;omega
        · intro H6 ys6 s6 hl6 r6;rw [List.length_map,Hc (λ i=>[(1+eP.getD i 0%(tN:Nat)).toNat])] at r6;refine Jj ?_;refine key _ _ ⟨_,_,rfl,s6,r6.imp λ a ha=>s05.free ha,by simp,λ l hl=> ?_⟩;obtain ⟨i,_,rfl⟩:=List.mem_map.mp hl;have h0:=Int.emod_nonneg (eP.getD i 0) (show ((tN:Nat):Int)≠0 by omega);have h1:=Int.emod_lt_of_pos (eP.getD i 0) (show (0:Int)<(tN:Nat) by omega);intro j hj;have hj:j=0:=by simpa using hj
          subst hj;show 0+1<=(1+eP.getD i 0%(tN:Nat)).toNat/\(1+eP.getD i 0%(tN:Nat)).toNat<=tN;omega
      · refine JR ?_;refine key _ _ ⟨_,_,rfl,Same.refl _,r5,by simp,λ l hl=> ?_⟩;obtain ⟨i,_,rfl⟩:=List.mem_map.mp hl;exact E5 _ tN
inductive Th (H:Hp):V->Prop where
  | non:Th H .non
  | bl (b:Bool):Th H (.bl b)
  | int (i:Int):Th H (.int i)
  | str (z:Str) (l:z.length<=100):Th H (.str z)
  | lst {a:Addr} {xs:List V} (e:H a=some (.lst xs)):Th H (.ref a)
  | tup {a:Addr} {xs:List V} (e:H a=some (.tup xs)):Th H (.ref a)
  | dK {a:Addr} {xs:List (Key × V)} (e:H a=some (.dK xs)):Th H (.ref a)
theorem Th.same {H H':Hp} {v:V} (h:Th H v) (s:Same H H'):Th H' v:=by
  cases h with
  | non=>exact .non
  | bl b=>exact .bl b
  | int i=>exact .int i
  | str z l=>exact .str z l
  | lst e=>exact .lst (s _ _ e)
  | tup e=>exact .tup (s _ _ e)
  | dK e=>exact .dK (s _ _ e)
def As (H:Hp) (v:V):Option (List V):=match v with
  | .ref a=>(match H a with
    | some (.lst xs)=>some xs
    | _=>none)
  | _=>none
theorem Ar {H:Hp} {a:Addr} {xs:List V} (e:H a=some (.lst xs)):As H (.ref a)=some xs:=by
  unfold As;simp only [e]
theorem Ci {H:Hp} {v:V} {xs:List V} (e:As H v=some xs):∃ a,v= .ref a/\H a=some (.lst xs):=by
  unfold As at e;split at e
  · rename_i a
    split at e
    · rename_i q
      cases e;exact ⟨a,rfl,q⟩
    · cases e
  · cases e
theorem A0 {H H':Hp} {v:V} (h:Th H v) (s:Same H H'):As H' v=As H v:=by
  cases h with
  | non=>rfl
  | bl b=>rfl
  | int i=>rfl
  | str z l=>rfl
  | lst e=>rw [Ar e,Ar (s _ _ e)]
  | tup e=>unfold As;simp only [e,s _ _ e]
  | dK e=>unfold As;simp only [e,s _ _ e]
theorem Th.ty {K:PySem.W.Frag} {H:Hp} {v:V} (h:Th H v):Ty K H v:=by
  cases h with
  | non=>exact ⟨_, .non⟩
  | bl b=>exact ⟨_, .bl b⟩
  | int i=>exact ⟨_, .int i⟩
  | str z l=>exact ⟨_, .str z⟩
  | lst e=>exact ⟨_, .lst e⟩
  | tup e=>exact ⟨_, .tup e⟩
  | dK e=>exact ⟨_, .dK e⟩
theorem Th.list {K:PySem.W.Frag} {H:Hp} {v:V} (h:Th H v):∃ n,TyOf K H v (.type n)/\PySem.W.kitOne K (.type n) (.type "list")=some (As H v).isSome:=by
  cases h with
  | non=>exact ⟨_, .non,kb (b:=false) (by decide +kernel)⟩
  | bl b=>exact ⟨_, .bl b,kb (b:=false) (by decide +kernel)⟩
  | int i=>exact ⟨_, .int i,kb (b:=false) (by decide +kernel)⟩
  | str z l=>exact ⟨_, .str z,kb (b:=false) (by decide +kernel)⟩
  | lst e=>exact ⟨_, .lst e,by rw [Ar e];exact kb (b:=true) (by decide +kernel)⟩
  | tup e=>exact ⟨_, .tup e,by unfold As;simp only [e];exact kb (b:=false) (by decide +kernel)⟩
  | dK e=>exact ⟨_, .dK e,by unfold As;simp only [e];exact kb (b:=false) (by decide +kernel)⟩
def ThL (H:Hp):Nat->V->Prop
  | 0,v=>Th H v
  | n+1,v=>Th H v/\∀ xs,As H v=some xs->xs.length<=100000/\∀ x∈xs,ThL H n x
theorem ThL.th {H:Hp}:∀ {n:Nat} {v:V},ThL H n v->Th H v
  | 0,_,h=>h
  | _+1,_,h=>h.1
theorem ThL.same {H H':Hp} (s:Same H H'):∀ {n:Nat} {v:V},ThL H n v->ThL H' n v
  | 0,_,h=>Th.same h s
  | _+1,_,h=>⟨h.1.same s,λ xs e=>by
    rw [A0 h.1 s] at e;exact ⟨(h.2 xs e).1,λ x hx=>ThL.same s ((h.2 xs e).2 x hx)⟩⟩
def Fo (v:V):Bool:=match v with
  | .str z=>decide (z.length=1)&& !(Builtin.Str.occurrences colS z 0 colS.length 1).isEmpty
  | _=>false
def Ea:Sp:=λ vs H Q _=>∃ v,vs=[v]/\Th H v/\Q (.bl (Fo v)) H
abbrev Dy:Stmt:=top 18
theorem GX:FnScope ["thing"] ["thing"] (Al Dy):=⟨rfl,rfl,rfl,by decide +kernel,rfl,by decide +kernel,by decide +kernel⟩
theorem Hl {f:Addr} {fd:FuncData} (F:Fun K "is_colour" "is_colour" Dy f fd) (T:Txt K mg c):FnOk P w K mg base CX0 1 f fd ["thing"] Ea:=by
  refine F.ok GX (λ vs H Q E h=> ?_) (λ cdv A outer s H vs Q E hr h=> ?_)
  · obtain ⟨z,rfl,_⟩:=h;rfl
  · obtain ⟨v,rfl,hv,k⟩:=h;obtain ⟨n,ty⟩:=hv.ty (K:=K);refine ⟨_,(Ai (Au (B1 (Ak (Bc (K:=K)) rfl (T.own _ (by decide)) boot_isinstance (Aa (pv 0) (Aa (Bo rfl (T.own _ (by decide)) boot_str) Ab))) (B1 (BL Gu (Ak (CQ (K:=K)) rfl (T.own _ (by decide)) boot_len (Aa (pv 0) Ab)) Ae (AN _)) (CK (BL Ks (pv 0) (Qj T.k_COLOURS) (by with_unfolding_all rfl))))))),?_⟩;walk_at "w";refine AM ty (MQ ty) ?_;walk_at "w";cases hv with
    | str z l=>
      refine Dj ?_;walk_at "w";refine MF (Nat.le_trans l (by decide)) ?_;walk_at "w";refine FD (λ q=> ?_) (λ q=> ?_)
      · walk_at "w";refine ⟨_,_,rfl,rfl,?_⟩;refine BG ?_ k;show _=(decide (z.length=1)&&_);rw [decide_eq_true (by omega),Bool.true_and]
      · refine BG ?_ k;show _=(decide (z.length=1)&&_);rw [decide_eq_false (by omega),Bool.false_and]
    | _=>exact DO k
def HI (c:Cs):Sp:=λ vs H Q E=>∃ b z,vs=[.bl b, .str z]/\(b=true->Q .non H)/\(b=false->E (.ref c.BadDraft) none H)
abbrev Ji:Stmt:=top 20
theorem MV:FnScope ["holds","words"] ["holds","words"] (Al Ji):=⟨rfl,rfl,rfl,by decide +kernel,rfl,by decide +kernel,by decide +kernel⟩
theorem ML {f:Addr} {fd:FuncData} (F:Fun K "need" "need" Ji f fd) (T:Txt K mg c):FnOk P w K mg base (CXE P w) 1 f fd ["holds","words"] (HI c):=by
  refine Fun.okE F MV (λ vs H Q E h=> ?_) (λ cdv A outer s H vs Q E hr h=> ?_)
  · obtain ⟨b,z,rfl,_⟩:=h;rfl
  · obtain ⟨b,z,rfl,k1,k2⟩:=h;refine ⟨_,(Ai (Bn (Fn (By (pv 0))) (Ai (Ka T.g_BadDraft T.xi_BadDraft (Aa (pv 1) Ab))) AL)),?_⟩;walk_at "w";cases b with
    | true=>
      refine DO ?_;walk_at "w";exact k1 rfl
    | false=>
      refine Dj ?_;exact ⟨_,rfl,(by decide:1<=1000),k2 rfl⟩
def A4 (H:Hp) (v:V) (lo hi:Int):Bool:=match As H v with
  | some xs=>decide (lo<=xs.length)&&decide ((xs.length:Int)<=hi)
  | none=>false
def Df:Sp:=λ vs H Q _=>∃ v,∃ lo hi:Int,vs=[v, .int lo, .int hi]/\Th H v/\Q (.bl (A4 H v lo hi)) H
abbrev EQ:Stmt:=top 21
theorem Jg:FnScope ["thing","least","most"] ["thing","least","most"] (Al EQ):=⟨rfl,rfl,rfl,by decide +kernel,rfl,by decide +kernel,by decide +kernel⟩
theorem IV {f:Addr} {fd:FuncData} (F:Fun K "is_list" "is_list" EQ f fd) (T:Txt K mg c) (c_is_among:CallF P w K mg base "is_among" 2 ["thing","least","most"] (B5 K)):FnOk P w K mg base CX0 3 f fd ["thing","least","most"] Df:=by
  refine F.ok Jg (λ vs H Q E h=> ?_) (λ cdv A outer s H vs Q E hr h=> ?_)
  · obtain ⟨v,lo,hi,rfl,_⟩:=h;rfl
  · obtain ⟨v,lo,hi,rfl,hv,k⟩:=h;obtain ⟨n,ty,ki⟩:=hv.list (K:=K);refine ⟨_,(Ai (Au (B1 (Ak (Bc (K:=K)) rfl (T.own _ (by decide)) boot_isinstance (Aa (pv 0) (Aa (Bo rfl (T.own _ (by decide)) AC) Ab))) (CK (Aj c_is_among hr (Aa (Ak (CQ (K:=K)) rfl (T.own _ (by decide)) boot_len (Aa (pv 0) Ab)) (Aa (pv 1) (Aa (pv 2) Ab)))))))),?_⟩;walk_at "w";refine AM ty ki ?_;walk_at "w";cases e:As H v with
    | none=>
      refine DO ?_;exact BG (by unfold A4;rw [e]) k
    | some xs=>
      obtain ⟨a,rfl,ha⟩:=Ci e;refine Dj ?_;walk_at "w";refine B4 (SqL.of ha) ?_;walk_at "w";refine ⟨_,_,_,rfl,⟨_, .int _⟩,?_⟩;exact BG (by unfold A4;rw [e];rfl) k
def inV:V->Int
  | .int i=>i
  | _=>0
def Fx (xs:List V) (m:Int):Bool:=(List.range xs.length).all λ j=>Ax (xs.getD j .non) (inV ((.int 0::xs).getD j .non)+1) m
def A6 (H:Hp) (v:V) (m:Int):Bool:=match As H v with
  | some xs=>Fx xs m
  | none=>false
theorem DF {H H':Hp} {v:V} {m:Int} (h:Th H v) (s:Same H H'):A6 H' v m=A6 H v m:=by
  unfold A6;rw [A0 h s]
def DW:Sp:=λ vs H Q _=>∃ v,∃ m:Int,vs=[v, .int m]/\ThL H 1 v/\∀ H',Same H H'->Q (.bl (A6 H v m)) H'
abbrev C8:Stmt:=top 22
theorem sc_is_rising:FnScope ["thing","most","last","number"] ["thing","most"] (Al C8):=⟨rfl,rfl,rfl,by decide +kernel,rfl,by decide +kernel,by decide +kernel⟩
theorem Hf {f:Addr} {fd:FuncData} (F:Fun K "is_rising" "is_rising" C8 f fd) (T:Txt K mg c) (c_is_among:CallF P w K mg base "is_among" 2 ["thing","least","most"] (B5 K)):FnOk P w K mg base CX0 3 f fd ["thing","most"] DW:=by
  refine F.ok sc_is_rising (λ vs H Q E h=> ?_) (λ cdv A outer s H vs Q E hr h=> ?_)
  · obtain ⟨v,m,rfl,_⟩:=h;rfl
  · obtain ⟨v,m,rfl,hv,k⟩:=h;obtain ⟨n,ty,ki⟩:=hv.th.list (K:=K);refine ⟨_,(Ad (Bn (Fn (By (Ak (Bc (K:=K)) rfl (T.own _ (by decide)) boot_isinstance (Aa (pv 0) (Aa (Bo rfl (T.own _ (by decide)) AC) Ab))))) (Ai (Au B7)) AL)
      (Ad (Aw (i:=2) sc_is_rising.nd rfl (Or.inl rfl) Ae)
      (Ad (Hg PassesOwn.never rfl (BH (K:=K) (pv 0)) (Bj (i:=3) sc_is_rising.nd rfl (Or.inl rfl)) (Ad (Bn (Fn (By (Aj c_is_among hr (Aa (pv 3) (Aa (Ao AZ (pv 2) Ae) (Aa (pv 1) Ab)))))) (Ai (Au B7)) AL)
      (Ai (Aw (i:=2) sc_is_rising.nd rfl (Or.inl rfl) (pv 3)))))
      (Ai (Au B7))))),?_⟩
    walk_at "w";refine AM ty ki ?_;walk_at "w";cases e:As H v with
    | none=>
      refine Dj ?_;walk_at "w";exact BG (by unfold A6;rw [e]) (k H (Same.refl _))
    | some xs=>
      obtain ⟨a,rfl,ha⟩:=Ci e;obtain ⟨lx,tx⟩:=hv.2 xs e;have e0:A6 H (.ref a) m=Fx xs m:=by unfold A6;rw [e]
      rw [e0] at k;refine DO ?_;walk_at "w";refine ⟨a,rfl,⟨_,SqL.of ha⟩,G5 (Jr (SqL.of ha)) (λ i σ H3=>∃ x,σ=[some (.ref a),some (.int m),some (.int (inV ((V.int 0::xs).getD i .non))),x]/\Same H H3/\∀ j,j<i->Ax (xs.getD j .non) (inV ((V.int 0::xs).getD j .non)+1) m=true) ⟨_,rfl,Same.refl _,λ j hj=>absurd hj (Nat.not_lt_zero _)⟩ (λ i σ H3 ⟨_,_,s,_⟩=>s) ?_ ?_⟩
      · rintro i σ H' H3 hi ⟨x,rfl,s',q⟩ s3;have hm:xs.getD i .non∈xs:=L2.getD_mem hi;walk_at "w";refine ⟨_,_,_,rfl,((tx _ hm).same (s'.trans s3)).ty,?_⟩;walk_at "w";cases ea:Ax (xs.getD i .non) (inV ((V.int 0::xs).getD i .non)+1) m with
        | false=>
          refine Dj ?_;walk_at "w";refine BG ?_ (k H3 (s'.trans s3));unfold Fx;exact (List.all_eq_false.mpr ⟨i,List.mem_range.mpr hi,by rw [ea];decide⟩).symm
        | true=>
          refine DO ?_;walk_at "w";refine ⟨some (xs.getD i .non),?_,s'.trans s3,λ j hj=> ?_⟩
          · have ei:∃ z,xs.getD i .non= .int z:=by
              generalize xs.getD i .non=y at ea;cases y with
              | int z=>exact ⟨z,rfl⟩
              | _=>cases ea
            obtain ⟨z,ez⟩:=ei;have e2:(V.int 0::xs).getD (i+1) .non= .int z:=ez;rw [e2,ez];rfl
          · rcases Nat.lt_or_ge j i with z | z
            · exact q j z
            · rw [show j=i by omega];exact ea
      · rintro σ H3 ⟨x,rfl,s3,q⟩;walk_at "w";refine BG ?_ (k H3 s3);unfold Fx;exact (List.all_eq_true.mpr λ j hj=>q j (List.mem_range.mp hj)).symm
def C7:Sp:=λ vs H Q _=>∃ a xs,∃ m:Int,vs=[.ref a, .int m]/\H a=some (.lst xs)/\xs.length<=100000/\(∀ x∈xs,ThL H 1 x)/\∀ H',Same H H'->Q (.bl (xs.all λ x=>A6 H x m)) H'
abbrev CC:Stmt:=top 23
theorem F9:FnScope ["thing","most"] ["thing","most"] (Al CC):=⟨rfl,rfl,rfl,by decide +kernel,rfl,by decide +kernel,by decide +kernel⟩
theorem Gn {f:Addr} {fd:FuncData} (F:Fun K "are_rising" "are_rising" CC f fd) (T:Txt K mg c) (c_is_rising:CallF P w K mg base "is_rising" 3 ["thing","most"] DW):FnOk P w K mg base CX0 4 f fd ["thing","most"] C7:=by
  refine F.ok F9 (λ vs H Q E h=> ?_) (λ cdv A outer s H vs Q E hr h=> ?_)
  · obtain ⟨a,xs,m,rfl,_⟩:=h;rfl
  · obtain ⟨a,xs,m,rfl,ha,lx,tx,k⟩:=h;refine ⟨_,(Ai (Au (Ak (JI (K:=K)) rfl (T.own _ (by decide)) DJ (Aa (AX (BH (K:=K) (pv 0)) (λ _ _ _ _=>AG) (λ _ _ _ _=>(Aj c_is_rising hr (Aa (pv 0) (Aa (pv 1) Ab))))) Ab)))),?_⟩;walk_at "w";refine ⟨a,rfl,⟨_,SqL.of ha⟩,λ D hD=> ?_⟩;refine Fp (G:=λ i=>A6 H (xs.getD i .non) m) (AY (SqL.of ha) rfl) hD (by omega) ?_ ?_
    · intro i H' R hi s kk;have hm:xs.getD i .non∈xs:=L2.getD_mem hi;walk_at "w";exact ⟨_,m,rfl,(tx _ hm).same s,λ H2 s2=>by rw [DF (tx _ hm).th s];exact kk H2 s2⟩
    · intro H' s hl2;walk_at "w";refine Ho (SqL.of hl2) ?_;refine BG ?_ (k H' s);rw [AO (λ x:V=>A6 H x m) xs .non,List.all_map];rfl
def Bb (H:Hp) (v:V) (n:Int):Bool:=A4 H v n n&&((As H v).getD []).all Fo
def CU:Sp:=λ vs H Q _=>∃ v,∃ n:Int,vs=[v, .int n]/\ThL H 1 v/\∀ H',Same H H'->Q (.bl (Bb H v n)) H'
abbrev Ca:Stmt:=top 24
theorem FM:FnScope ["thing","many"] ["thing","many"] (Al Ca):=⟨rfl,rfl,rfl,by decide +kernel,rfl,by decide +kernel,by decide +kernel⟩
theorem F2 {f:Addr} {fd:FuncData} (F:Fun K "are_colours" "are_colours" Ca f fd) (T:Txt K mg c) (c_is_list:CallF P w K mg base "is_list" 3 ["thing","least","most"] Df) (c_is_colour:CallF P w K mg base "is_colour" 1 ["thing"] Ea):FnOk P w K mg base CX0 4 f fd ["thing","many"] CU:=by
  refine F.ok FM (λ vs H Q E h=> ?_) (λ cdv A outer s H vs Q E hr h=> ?_)
  · obtain ⟨v,n,rfl,_⟩:=h;rfl
  · obtain ⟨v,n,rfl,hv,k⟩:=h;refine ⟨_,(Ai (Au (B1 (Aj c_is_list hr (Aa (pv 0) (Aa (pv 1) (Aa (pv 1) Ab)))) (CK (Ak (JI (K:=K)) rfl (T.own _ (by decide)) DJ (Aa (AX (BH (K:=K) (pv 0)) (λ _ _ _ _=>AG) (λ _ _ _ _=>(Aj c_is_colour (hr.mono (by decide)) (Aa (pv 0) Ab)))) Ab)))))),?_⟩;walk_at "w";refine ⟨v,n,n,rfl,hv.th,?_⟩;walk_at "w";cases e:A4 H v n n with
    | false=>
      refine DO ?_;exact BG (by unfold Bb;rw [e,Bool.false_and]) (k H (Same.refl _))
    | true=>
      refine Dj ?_;have e1:∃ xs,As H v=some xs:=by
        unfold A4 at e;cases q:As H v with
        | none=>rw [q] at e;cases e
        | some xs=>exact ⟨xs,rfl⟩
      obtain ⟨xs,e1⟩:=e1;obtain ⟨a,rfl,ha⟩:=Ci e1;obtain ⟨lx,tx⟩:=hv.2 xs e1;walk_at "w";refine ⟨a,rfl,⟨_,SqL.of ha⟩,λ D hD=> ?_⟩;refine Fp (G:=λ i=>Fo (xs.getD i .non)) (AY (SqL.of ha) rfl) hD (by omega) ?_ ?_
      · intro i H' R hi s kk;have hm:xs.getD i .non∈xs:=L2.getD_mem hi;walk_at "w";exact ⟨_,rfl,(tx _ hm).th.same s,kk H' (Same.refl _)⟩
      · intro H' s hl2;walk_at "w";refine Ho (SqL.of hl2) ?_;refine BG ?_ (k H' s);rw [AO Fo xs .non,List.all_map];unfold Bb;rw [e,e1,Bool.true_and];rfl
theorem BR {H H':Hp} {v:V} {lo hi:Int} (h:Th H v) (s:Same H H'):A4 H' v lo hi=A4 H v lo hi:=by
  unfold A4;rw [A0 h s]
theorem CM {H H':Hp} {v:V} {n:Int} (h:Th H v) (s:Same H H'):Bb H' v n=Bb H v n:=by
  unfold Bb;rw [BR h s,A0 h s]
def lsD (H:Hp) (v:V):List V:=(As H v).getD []
def drB (H:Hp) (v0 v1 v2 v3 v4 v5 v6:V):Bool:=Ax v0 1 16&&(Ax v1 1 16&&(A4 H v2 1 60&&((lsD H v2).all (λ x=>Ax x 0 (inV v0))&&(A4 H v3 (inV v1) (inV v1)&&((lsD H v3).all (λ x=>A6 H x (inV v0))&&(A4 H v4 1 60&&((lsD H v4).all (λ x=>A6 H x (inV v1))&&(Bb H v5 ((lsD H v2).length:Nat)&&Bb H v6 ((lsD H v4).length:Nat)))))))))
structure PTh (H:Hp) (v0 v1 v2 v3 v4 v5 v6:V):Prop where
  t0:Th H v0
  t1:Th H v1
  t2:ThL H 1 v2
  t3:ThL H 2 v3
  t4:ThL H 2 v4
  t5:ThL H 1 v5
  t6:ThL H 1 v6
theorem PTh.same {H H':Hp} {v0 v1 v2 v3 v4 v5 v6:V} (h:PTh H v0 v1 v2 v3 v4 v5 v6) (s:Same H H'):PTh H' v0 v1 v2 v3 v4 v5 v6:=⟨h.t0.same s,h.t1.same s,h.t2.same s,h.t3.same s,h.t4.same s,h.t5.same s,h.t6.same s⟩
theorem GM {v:V} {a b:Int} (h:Ax v a b=true):∃ i,v= .int i:=by
  cases v with
  | int i=>exact ⟨i,rfl⟩
  | _=>cases h
theorem Fz {H:Hp} {v:V} {lo hi:Int} (h:A4 H v lo hi=true):∃ a xs,v= .ref a/\H a=some (.lst xs)/\As H v=some xs:=by
  unfold A4 at h;cases q:As H v with
  | none=>rw [q] at h;cases h
  | some xs=>
    obtain ⟨a,rfl,ha⟩:=Ci q;exact ⟨a,xs,rfl,ha,rfl⟩
def Du (c:Cs):Sp:=λ vs H Q E=>∃ v0 v1 v2 v3 v4 v5 v6,vs=[v0,v1,v2,v3,v4,v5,v6]/\PTh H v0 v1 v2 v3 v4 v5 v6/\∀ H',Same H H'->(drB H v0 v1 v2 v3 v4 v5 v6=true->Q .non H')/\(drB H v0 v1 v2 v3 v4 v5 v6=false->E (.ref c.BadDraft) none H')
abbrev Ct:Stmt:=top 25
theorem Ga:FnScope ["shafts","treadles","threading","ties","treading","warp","weft"] ["shafts","treadles","threading","ties","treading","warp","weft"] (Al Ct):=⟨rfl,rfl,rfl,by decide +kernel,rfl,by decide +kernel,by decide +kernel⟩
theorem Gq {f:Addr} {fd:FuncData} (F:Fun K "need_draft" "need_draft" Ct f fd) (T:Txt K mg c) (c_need:CallE P w K mg base "need" 1 ["holds","words"] (HI c)) (c_is_among:CallF P w K mg base "is_among" 2 ["thing","least","most"] (B5 K)) (c_is_list:CallF P w K mg base "is_list" 3 ["thing","least","most"] Df) (c_are_rising:CallF P w K mg base "are_rising" 4 ["thing","most"] C7) (c_are_colours:CallF P w K mg base "are_colours" 4 ["thing","many"] CU):FnOk P w K mg base (CXE P w) 5 f fd ["shafts","treadles","threading","ties","treading","warp","weft"] (Du c):=by
  refine Fun.okE F Ga (λ vs H Q E h=> ?_) (λ cdv A outer s H vs Q E hr h=> ?_)
  · obtain ⟨v0,v1,v2,v3,v4,v5,v6,rfl,_⟩:=h;rfl
  · obtain ⟨v0,v1,v2,v3,v4,v5,v6,rfl,⟨t0,t1,t2,t3,t4,t5,t6⟩,k⟩:=h;refine ⟨_,(Ad (AF (A1 c_need (hr.mono (by decide)) CS (Aa (Aj c_is_among (hr.mono (by decide)) (Aa (pv 0) (Aa Ae (Aa (JE T.k_MOST_SHAFTS) Ab)))) (Aa An Ab))))
      (Ad (AF (A1 c_need (hr.mono (by decide)) CS (Aa (Aj c_is_among (hr.mono (by decide)) (Aa (pv 1) (Aa Ae (Aa (JE T.k_MOST_TREADLES) Ab)))) (Aa An Ab))))
      (Ad (AF (A1 c_need (hr.mono (by decide)) CS (Aa (Aj c_is_list (hr.mono (by decide)) (Aa (pv 2) (Aa Ae (Aa (JE T.k_MOST_ENDS) Ab)))) (Aa An Ab))))
      (Ad (AF (A1 c_need (hr.mono (by decide)) CS (Aa (Ak (JI (K:=K)) rfl (T.own _ (by decide)) DJ (Aa (AX (BH (K:=K) (pv 2)) (λ _ _ _ _=>AG) (λ _ _ _ _=>(Aj c_is_among (hr.mono (by decide)) (Aa (pv 0) (Aa Ae (Aa (pv 1) Ab)))))) Ab)) (Aa An Ab))))
      (Ad (AF (A1 c_need (hr.mono (by decide)) CS (Aa (Aj c_is_list (hr.mono (by decide)) (Aa (pv 3) (Aa (pv 1) (Aa (pv 1) Ab)))) (Aa An Ab))))
      (Ad (AF (A1 c_need (hr.mono (by decide)) CS (Aa (Aj c_are_rising hr (Aa (pv 3) (Aa (pv 0) Ab))) (Aa An Ab))))
      (Ad (AF (A1 c_need (hr.mono (by decide)) CS (Aa (Aj c_is_list (hr.mono (by decide)) (Aa (pv 4) (Aa Ae (Aa (JE T.k_MOST_PICKS) Ab)))) (Aa An Ab))))
      (Ad (AF (A1 c_need (hr.mono (by decide)) CS (Aa (Aj c_are_rising hr (Aa (pv 4) (Aa (pv 1) Ab))) (Aa An Ab))))
      (Ad (AF (A1 c_need (hr.mono (by decide)) CS (Aa (Aj c_are_colours hr (Aa (pv 5) (Aa (Ak (CQ (K:=K)) rfl (T.own _ (by decide)) boot_len (Aa (pv 2) Ab)) Ab))) (Aa An Ab))))
      (Ai (AF (A1 c_need (hr.mono (by decide)) CS (Aa (Aj c_are_colours hr (Aa (pv 6) (Aa (Ak (CQ (K:=K)) rfl (T.own _ (by decide)) boot_len (Aa (pv 4) Ab)) Ab))) (Aa An Ab)))))))))))))),?_⟩
    walk_at "w";refine ⟨_,_,_,rfl,t0.ty,?_⟩;walk_at "w";refine ⟨_,_,rfl,λ b0=> ?_,λ b0=>(k H (Same.refl _)).2 (by unfold drB;rw [b0,Bool.false_and])⟩;obtain ⟨sh,rfl⟩:=GM b0;walk_at "w";refine ⟨_,_,_,rfl,t1.ty,?_⟩;walk_at "w";refine ⟨_,_,rfl,λ b1=> ?_,λ b1=>(k H (Same.refl _)).2 (by unfold drB;rw [b0,b1,Bool.true_and,Bool.false_and])⟩;obtain ⟨tr,rfl⟩:=GM b1;walk_at "w";refine ⟨_,_,_,rfl,t2.th,?_⟩;walk_at "w";refine ⟨_,_,rfl,λ b2=> ?_,λ b2=>(k H (Same.refl _)).2 (by unfold drB;rw [b0,b1,b2,Bool.true_and,Bool.true_and,Bool.false_and])⟩;obtain ⟨a2,x2,rfl,h2,e2⟩:=Fz b2;obtain ⟨l2,i2⟩:=t2.2 x2 e2;have d2:lsD H (.ref a2)=x2:=by unfold lsD;rw [e2];rfl
    have z3:drB H (.int sh) (.int tr) (.ref a2) v3 v4 v5 v6=(x2.all (λ x=>Ax x 0 sh)&&(A4 H v3 tr tr&&((lsD H v3).all (λ x=>A6 H x sh)&&(A4 H v4 1 60&&((lsD H v4).all (λ x=>A6 H x tr)&&(Bb H v5 (x2.length:Nat)&&Bb H v6 ((lsD H v4).length:Nat))))))):=by
      unfold drB;rw [b0,b1,b2,d2,Bool.true_and,Bool.true_and,Bool.true_and];rfl
    rw [z3] at k;walk_at "w";refine ⟨a2,rfl,⟨_,SqL.of h2⟩,λ D hD=> ?_⟩;refine Fp (G:=λ i=>Ax (x2.getD i .non) 0 sh) (AY (SqL.of h2) rfl) hD (by omega) ?_ ?_
    · intro i H' R hi s kk;have hm:x2.getD i .non∈x2:=L2.getD_mem hi;walk_at "w";exact ⟨_,_,_,rfl,((i2 _ hm).same s).ty,kk H' (Same.refl _)⟩
    intro H1 s1 hl1;walk_at "w";refine Ho (SqL.of hl1) ?_;rw [AO (λ x:V=>Ax x 0 sh) x2 .non,List.all_map];walk_at "w";refine ⟨_,_,rfl,λ b3=> ?_,λ b3=>(k H1 s1).2 (by rw [show (x2.all λ x=>Ax x 0 sh)=false from b3,Bool.false_and])⟩;rw [show (x2.all λ x=>Ax x 0 sh)=true from b3,Bool.true_and] at k;walk_at "w";refine ⟨_,_,_,rfl,t3.th.same s1,?_⟩;rw [BR t3.th s1];walk_at "w";refine ⟨_,_,rfl,λ b4=> ?_,λ b4=>(k H1 s1).2 (by rw [b4,Bool.false_and])⟩;obtain ⟨a3,x3,rfl,h3,e3⟩:=Fz b4;obtain ⟨l3,i3⟩:=t3.2 x3 e3;have d3:lsD H (.ref a3)=x3:=by unfold lsD;rw [e3];rfl
    rw [b4,Bool.true_and,d3] at k;walk_at "w";refine ⟨a3,x3,sh,rfl,s1 _ _ h3,l3,λ x hx=>(i3 x hx).same s1,λ H2 s2=> ?_⟩;have s02:=s1.trans s2;have e5:(x3.all λ x=>A6 H1 x sh)=x3.all λ x=>A6 H x sh:=by
      rw [Bool.eq_iff_iff,List.all_eq_true,List.all_eq_true];exact forall_congr' λ x=>forall_congr' λ hx=>by rw [DF (i3 x hx).th s1]
    rw [e5];walk_at "w";refine ⟨_,_,rfl,λ b5=> ?_,λ b5=>(k H2 s02).2 (by rw [b5,Bool.false_and])⟩;rw [b5,Bool.true_and] at k;walk_at "w";refine ⟨_,_,_,rfl,t4.th.same s02,?_⟩;rw [BR t4.th s02];walk_at "w";refine ⟨_,_,rfl,λ b6=> ?_,λ b6=>(k H2 s02).2 (by rw [b6,Bool.false_and])⟩;obtain ⟨a4,x4,rfl,h4,e4⟩:=Fz b6;obtain ⟨l4,i4⟩:=t4.2 x4 e4;have d4:lsD H (.ref a4)=x4:=by unfold lsD;rw [e4];rfl
    rw [b6,Bool.true_and,d4] at k;walk_at "w";refine ⟨a4,x4,tr,rfl,s02 _ _ h4,l4,λ x hx=>(i4 x hx).same s02,λ H3 s3=> ?_⟩;have s03:=s02.trans s3;have e7:(x4.all λ x=>A6 H2 x tr)=x4.all λ x=>A6 H x tr:=by
      rw [Bool.eq_iff_iff,List.all_eq_true,List.all_eq_true];exact forall_congr' λ x=>forall_congr' λ hx=>by rw [DF (i4 x hx).th s02]
    rw [e7];walk_at "w";refine ⟨_,_,rfl,λ b7=> ?_,λ b7=>(k H3 s03).2 (by rw [b7,Bool.false_and])⟩;rw [b7,Bool.true_and] at k;walk_at "w";refine B4 (SqL.of (s03 _ _ h2)) ?_;walk_at "w";refine ⟨_,_,rfl,t5.same s03,λ H4 s4=> ?_⟩;have s04:=s03.trans s4;rw [CM t5.th s03];walk_at "w";refine ⟨_,_,rfl,λ b8=> ?_,λ b8=>(k H4 s04).2 (by rw [b8,Bool.false_and])⟩;rw [b8,Bool.true_and] at k;walk_at "w";refine B4 (SqL.of (s04 _ _ h4)) ?_;walk_at "w";refine ⟨_,_,rfl,t6.same s04,λ H5 s5=> ?_⟩;have s05:=s04.trans s5;rw [CM t6.th s04];walk_at "w";refine ⟨_,_,rfl,λ b9=> ?_,λ b9=>(k H5 s05).2 b9⟩;walk_at "w";exact (k H5 s05).1 b9
def A9 (c:Cs):Sp:=λ vs H Q E=>∃ (x dx:Addr) (v0 v1 v2 v3 v4 v5 v6:V),vs=[.ref x,v0,v1,v2,v3,v4,v5,v6]/\H x=some (.ins c.Draft dx [])/\
  ((PTh H v0 v1 v2 v3 v4 v5 v6/\drB H v0 v1 v2 v3 v4 v5 v6=false/\∀ H',Same H H'->E (.ref c.BadDraft) none H')\/
  (∃ d,Parts H d [v0,v1,v2,v3,v4,v5,v6]/\DrOk d/\∀ H',But x H H'->DrAt c.Draft H' x d->Q .non H'))
theorem Nk {m:Nat} {ns:List Nat} (h:Gh m ns):Fx (ns.map nV) m=true:=by
  unfold Fx;rw [List.all_eq_true];intro j hj;have hj:j<ns.length:=by simpa using hj
  have hh:=h j hj;have e1:(ns.map nV).getD j .non=nV (ns.getD j 0):=BE nV ns j .non 0 hj;have e2:inV ((V.int 0::ns.map nV).getD j .non)=((0::ns).getD j 0:Nat):=by
    cases j with
    | zero=>rfl
    | succ j=>
      show inV ((ns.map nV).getD j .non)=_;rw [BE nV ns j .non 0 (by omega)];rfl
  rw [e1,e2];exact am (by omega) (by omega)
theorem MR {H:Hp} {F:Addr->Prop} {n m:Nat} {v:V} {ns:List Nat} (r:Rp H F n v (dL ns)) (h:Gh m ns):A6 H v m=true/\ThL H 1 v:=by
  obtain ⟨b,rfl,hb,_,l⟩:=Gx r;refine ⟨?_, .lst hb,λ xs e=> ?_⟩
  · unfold A6;rw [Ar hb];exact Nk h
  · rw [Ar hb] at e;cases e;refine ⟨?_,λ x hx=> ?_⟩
    · rw [List.length_map];exact l
    · obtain ⟨i,_,rfl⟩:=List.mem_map.mp hx;exact .int _
theorem Hv {H:Hp} {a:Addr} {ns:List Nat} (h:H a=some (.lst (ns.map nV))) (l:ns.length<=100000):ThL H 1 (.ref a):=by
  refine ⟨.lst h,λ xs e=> ?_⟩;rw [Ar h] at e;cases e;refine ⟨by rw [List.length_map];exact l,λ x hx=> ?_⟩;obtain ⟨i,_,rfl⟩:=List.mem_map.mp hx;exact .int _
theorem M5 {z:Str} (h:GH z):Fo (.str z)=true:=by
  show (decide (z.length=1)&&_)=true;rw [decide_eq_true h.1,h.2];rfl
theorem Fh {H:Hp} {a:Addr} {zs:List Str} (h:H a=some (.lst (zs.map V.str))) (l:zs.length<=100000) (ok:∀ z∈zs,GH z):ThL H 1 (.ref a)/\Bb H (.ref a) (zs.length:Nat)=true:=by
  refine ⟨⟨.lst h,λ xs e=> ?_⟩,?_⟩
  · rw [Ar h] at e;cases e;refine ⟨by rw [List.length_map];exact l,λ x hx=> ?_⟩;obtain ⟨z,hz,rfl⟩:=List.mem_map.mp hx;exact .str z (by rw [(ok z hz).1];decide)
  · unfold Bb A4;rw [Ar h];simp only [Option.getD_some,List.length_map,Bool.and_eq_true,decide_eq_true_eq,List.all_eq_true];refine ⟨⟨Int.le_refl _,Int.le_refl _⟩,λ x hx=> ?_⟩;obtain ⟨z,hz,rfl⟩:=List.mem_map.mp hx;exact M5 (ok z hz)
theorem JN {H:Hp} {F:Addr->Prop} {n m:Nat} {v:V} {ls:List (List Nat)} (r:Rp H F n v (dLL ls)) (h:∀ l∈ls,Gh m l):ThL H 2 v/\∃ xs,As H v=some xs/\xs.length=ls.length/\xs.all (λ x=>A6 H x m)=true:=by
  obtain ⟨m',a,vs,em,rfl,ha,_,hl,hb,el⟩:=Fy r;rw [List.length_map] at hl el;have it:∀ i,i<ls.length->A6 H (vs.getD i .non) m=true/\ThL H 1 (vs.getD i .non):=λ i hi=>by
    have r:=el i hi;rw [BE dL ls i .non [] hi] at r;exact MR r (h _ (L2.getD_mem hi))
  have mem:∀ x∈vs,∃ i,i<ls.length/\vs.getD i .non=x:=λ x hx=>by
    obtain ⟨i,hi,rfl⟩:=List.mem_iff_getElem.mp hx;exact ⟨i,by omega,by rw [List.getD_eq_getElem?_getD,List.getElem?_eq_getElem hi];rfl⟩
  refine ⟨⟨.lst ha,λ xs e=> ?_⟩,vs,Ar ha,hl,?_⟩
  · rw [Ar ha] at e;cases e;refine ⟨hb,λ x hx=> ?_⟩;obtain ⟨i,hi,rfl⟩:=mem x hx;exact (it i hi).2
  · rw [List.all_eq_true];intro x hx;obtain ⟨i,hi,rfl⟩:=mem x hx;exact (it i hi).1
theorem LC {H:Hp} {d:Dr} {v0 v1 v2 v3 v4 v5 v6:V} (p:Parts H d [v0,v1,v2,v3,v4,v5,v6]) (ok:DrOk d):PTh H v0 v1 v2 v3 v4 v5 v6/\drB H v0 v1 v2 v3 v4 v5 v6=true:=by
  obtain ⟨a1,w2,w3,a4,a5,e,h1,h2,h3,h4,h5⟩:=p.ex;cases e;obtain ⟨c2,x2,e2,l2,q2⟩:=JN h2 ok.ir;obtain ⟨c3,x3,e3,l3,q3⟩:=JN h3 ok.pr;have b2:=ok.h2;have bl:=ok.p2;obtain ⟨c5,q5⟩:=Fh h4 (by rw [ok.wl];omega) ok.wc;obtain ⟨c6,q6⟩:=Fh h5 (by rw [ok.fl];omega) ok.fc;refine ⟨⟨.int _, .int _,Hv h1 (by omega),c2,c3,c5,c6⟩,?_⟩;have i2:A4 H v3 (d.tr:Nat) (d.tr:Nat)=true:=by
    unfold A4;rw [e2];simp [l2,ok.il]
  have i3:A4 H v4 1 60=true:=by
    unfold A4;rw [e3];simp only [l3,Bool.and_eq_true,decide_eq_true_eq];have:=ok.p1;omega
  have i1:A4 H (.ref a1) 1 60=true:=by
    unfold A4;rw [Ar h1];simp only [List.length_map,Bool.and_eq_true,decide_eq_true_eq];have:=ok.h1;omega
  have al:(d.th.map nV).all (λ x=>Ax x 0 (d.sh:Nat))=true:=by
    rw [List.all_eq_true];intro x hx;obtain ⟨i,hi,rfl⟩:=List.mem_map.mp hx;have:=ok.hs i hi;exact am (by omega) (by omega)
  unfold drB lsD;rw [Ar h1,e2,e3,am (by have:=ok.s1;omega) (by have:=ok.s2;omega),am (by have:=ok.t1;omega) (by have:=ok.t2;omega),i1];show (true&&(true&&(true&&((d.th.map nV).all (λ x=>Ax x 0 (d.sh:Nat))&&(A4 H v3 (d.tr:Nat) (d.tr:Nat)&&(x2.all (λ x=>A6 H x (d.sh:Nat))&&(A4 H v4 1 60&&(x3.all (λ x=>A6 H x (d.tr:Nat))&&(Bb H (.ref a4) ((d.th.map nV).length:Nat)&&Bb H (.ref a5) (x3.length:Nat))))))))))=true;rw [al,i2,q2,i3,q3,List.length_map, <-ok.wl,q5,l3, <-ok.fl,q6];rfl
abbrev Bv:Stmt:=AR (top 26) 0
theorem EI:FnScope ["self","shafts","treadles","threading","ties","treading","warp","weft"] ["self","shafts","treadles","threading","ties","treading","warp","weft"] (Al Bv):=⟨rfl,rfl,rfl,by decide +kernel,rfl,by decide +kernel,by decide +kernel⟩
theorem Ew {f:Addr} {fd:FuncData} (F:Fun K "__init__" "Draft.__init__" Bv f fd) (T:Txt K mg c) (c_need_draft:CallE P w K mg base "need_draft" 5 ["shafts","treadles","threading","ties","treading","warp","weft"] (Du c)):FnOk P w K mg base (CXE P w) 6 f fd ["self","shafts","treadles","threading","ties","treading","warp","weft"] (A9 c):=by
  refine Fun.okE F EI (λ vs H Q E h=> ?_) (λ cdv A outer s H vs Q E hr h=> ?_)
  · obtain ⟨x,dx,v0,v1,v2,v3,v4,v5,v6,rfl,_⟩:=h;rfl
  · obtain ⟨x,dx,v0,v1,v2,v3,v4,v5,v6,rfl,hx,h⟩:=h;refine ⟨_,(Ad (AF (A1 c_need_draft hr CS (Aa (pv 1) (Aa (pv 2) (Aa (pv 3) (Aa (pv 4) (Aa (pv 5) (Aa (pv 6) (Aa (pv 7) Ab)))))))))
      (Ad (Ed (pv 0) (pv 1) rfl)
      (Ad (Ed (pv 0) (pv 2) rfl)
      (Ad (Ed (pv 0) (AD (BN (K:=K)) rfl (T.own _ (by decide)) Ay (Aa (pv 3) Ab)) rfl)
      (Ad (Ed (pv 0) (AD (BN (K:=K)) rfl (T.own _ (by decide)) Ay (Aa (AX (BH (K:=K) (pv 4)) (λ _ _ _ _=>AG) (λ _ _ _ _=>(AD (BN (K:=K)) rfl (T.own _ (by decide)) Ay (Aa (pv 0) Ab)))) Ab)) rfl)
      (Ad (Ed (pv 0) (AD (BN (K:=K)) rfl (T.own _ (by decide)) Ay (Aa (AX (BH (K:=K) (pv 5)) (λ _ _ _ _=>AG) (λ _ _ _ _=>(AD (BN (K:=K)) rfl (T.own _ (by decide)) Ay (Aa (pv 0) Ab)))) Ab)) rfl)
      (Ad (Ed (pv 0) (AD (BN (K:=K)) rfl (T.own _ (by decide)) Ay (Aa (pv 6) Ab)) rfl)
      (Ai (Ed (pv 0) (AD (BN (K:=K)) rfl (T.own _ (by decide)) Ay (Aa (pv 7) Ab)) rfl))))))))),?_⟩
    walk_at "w";rcases h with ⟨pt,db,k⟩ | ⟨d,ps,ok,k⟩
    · exact ⟨_,_,_,_,_,_,_,rfl,pt,λ H1 s1=>⟨λ z=>absurd z (by rw [db];decide),λ _=>k H1 s1⟩⟩
    obtain ⟨pt,db⟩:=LC ps ok;refine ⟨_,_,_,_,_,_,_,rfl,pt,λ H1 s1=>⟨λ _=> ?_,λ z=>absurd z (by rw [db];decide)⟩⟩;obtain ⟨a1,v2,v3,a4,a5,e,h1,h2,h3,h4,h5⟩:=ps.ex;cases e;walk_at "w";have B:But x H H1:=But.of s1;have hx1:=s1 _ _ hx;refine Ef hx1 T.kd_Draft.cl T.na_Draft_shafts (by decide) ?_;replace B:=B.put (o:=HO.ins c.Draft dx (AQ "shafts" (nV d.sh) []));have hx2:upd H1 x (HO.ins c.Draft dx (AQ "shafts" (nV d.sh) [])) x=_:=Ac;generalize upd H1 x (HO.ins c.Draft dx (AQ "shafts" (nV d.sh) []))=H2 at B hx2 ⊢;walk_at "w";refine Ef hx2 T.kd_Draft.cl T.na_Draft_treadles (by show 1<1000;decide) ?_;replace B:=B.put (o:=HO.ins c.Draft dx (AQ "treadles" (nV d.tr) (AQ "shafts" (nV d.sh) [])));have hx3:upd H2 x (HO.ins c.Draft dx (AQ "treadles" (nV d.tr) (AQ "shafts" (nV d.sh) []))) x=_:=Ac;generalize upd H2 x (HO.ins c.Draft dx (AQ "treadles" (nV d.tr) (AQ "shafts" (nV d.sh) [])))=H3 at B hx3 ⊢;walk_at "w";refine Bp (SqL.of (B _ _ h1 (EJ h1 hx (by intro z;cases z)))) λ t1 ht1=> ?_;walk_at "w";have hx3':=Ag (o:=HO.tup (d.th.map nV)) ht1 _ _ hx3;have r1:Rp (upd H3 t1 (HO.tup (d.th.map nV))) FT 1 (.ref t1) (dT d.th):=PQ Ac (by have:=ok.h2;omega);replace B:=B.same (Ag (o:=HO.tup (d.th.map nV)) ht1);generalize upd H3 t1 (HO.tup (d.th.map nV))=H4 at B hx3' r1 ⊢;refine Ef hx3' T.kd_Draft.cl T.na_Draft_threading (by show 2<1000;decide) ?_;replace r1:=r1.ins (o:=HO.ins c.Draft dx (AQ "threading" (.ref t1) (AQ "treadles" (nV d.tr) (AQ "shafts" (nV d.sh) [])))) hx3';replace B:=B.put (o:=HO.ins c.Draft dx (AQ "threading" (.ref t1) (AQ "treadles" (nV d.tr) (AQ "shafts" (nV d.sh) []))));have hx5:upd H4 x (HO.ins c.Draft dx (AQ "threading" (.ref t1) (AQ "treadles" (nV d.tr) (AQ "shafts" (nV d.sh) [])))) x=_:=Ac;generalize upd H4 x (HO.ins c.Draft dx (AQ "threading" (.ref t1) (AQ "treadles" (nV d.tr) (AQ "shafts" (nV d.sh) []))))=H5 at B hx5 r1 ⊢;walk_at "w";obtain ⟨m2,a2,vs2,em2,rfl,ha2,_,hl2,hb2,el2⟩:=Fy (B.rp hx h2);cases em2;rw [List.length_map] at hl2;refine ⟨a2,rfl,⟨_,SqL.of ha2⟩,λ D hD=> ?_⟩;refine AI (m:=1) (G:=λ i=>dT (d.ti.getD i [])) (AY (SqL.of ha2) rfl) hD hb2 ?_ ?_
    · intro i H' R hi s kk;have hi':i<d.ti.length:=by omega
      have r:=el2 i (by simpa using hi');rw [BE dL d.ti i .non [] hi'] at r;obtain ⟨b,eb,hb3,_,hb4⟩:=Gx r;rw [eb];walk_at "w";exact Bp (SqL.of (s _ _ hb3)) λ q hq=>kk _ _ (Ag hq) (PQ Ac hb4)
    intro H6 ys s6 hl6 r2;rw [hl2,Ot] at r2;walk_at "w";refine Bp (SqL.of hl6) λ t2 ht2=> ?_;walk_at "w";replace r2:Rp (upd H6 t2 (HO.tup ys)) FT 2 (.ref t2) (dTT d.ti):=(r2.tupd hl6 ht2).any;have s62:=s6.trans (Ag (o:=HO.tup ys) ht2);replace B:=B.same s62;replace r1:=r1.same s62;have hx6:=s62 _ _ hx5;generalize upd H6 t2 (HO.tup ys)=H7 at B hx6 r1 r2 ⊢;refine Ef hx6 T.kd_Draft.cl T.na_Draft_ties (by show 3<1000;decide) ?_;generalize ef:AQ "ties" (V.ref t2) _=f7;replace r1:=r1.ins (o:=HO.ins c.Draft dx f7) hx6;replace r2:=r2.ins (o:=HO.ins c.Draft dx f7) hx6;replace B:=B.put (o:=HO.ins c.Draft dx f7);have hx8:upd H7 x (HO.ins c.Draft dx f7) x=_:=Ac;generalize upd H7 x (HO.ins c.Draft dx f7)=H8 at B hx8 r1 r2 ⊢;subst ef;walk_at "w";obtain ⟨m3,a3,vs3,em3,rfl,ha3,_,hl3,hb3,el3⟩:=Fy (B.rp hx h3);cases em3;rw [List.length_map] at hl3;refine ⟨a3,rfl,⟨_,SqL.of ha3⟩,λ D hD=> ?_⟩;refine AI (m:=1) (G:=λ i=>dT (d.td.getD i [])) (AY (SqL.of ha3) rfl) hD hb3 ?_ ?_
    · intro i H' R hi s kk;have hi':i<d.td.length:=by omega
      have r:=el3 i (by simpa using hi');rw [BE dL d.td i .non [] hi'] at r;obtain ⟨b,eb,hb3,_,hb4⟩:=Gx r;rw [eb];walk_at "w";exact Bp (SqL.of (s _ _ hb3)) λ q hq=>kk _ _ (Ag hq) (PQ Ac hb4)
    intro H9 ys9 s9 hl9 r3;rw [hl3,Ot] at r3;walk_at "w";refine Bp (SqL.of hl9) λ t3 ht3=> ?_;walk_at "w";replace r3:Rp (upd H9 t3 (HO.tup ys9)) FT 2 (.ref t3) (dTT d.td):=(r3.tupd hl9 ht3).any;have s93:=s9.trans (Ag (o:=HO.tup ys9) ht3);replace B:=B.same s93;replace r1:=r1.same s93;replace r2:=r2.same s93;have hx9:=s93 _ _ hx8;generalize upd H9 t3 (HO.tup ys9)=HA at B hx9 r1 r2 r3 ⊢;refine Ef hx9 T.kd_Draft.cl T.na_Draft_treading (by show 4<1000;decide) ?_;generalize ef:AQ "treading" (V.ref t3) _=f9;replace r1:=r1.ins (o:=HO.ins c.Draft dx f9) hx9;replace r2:=r2.ins (o:=HO.ins c.Draft dx f9) hx9;replace r3:=r3.ins (o:=HO.ins c.Draft dx f9) hx9;replace B:=B.put (o:=HO.ins c.Draft dx f9);have hxB:upd HA x (HO.ins c.Draft dx f9) x=_:=Ac;generalize upd HA x (HO.ins c.Draft dx f9)=HB at B hxB r1 r2 r3 ⊢;subst ef;walk_at "w";refine Bp (SqL.of (B _ _ h4 (EJ h4 hx (by intro z;cases z)))) λ t4 ht4=> ?_;walk_at "w";have r4:Rp (upd HB t4 (HO.tup (d.wa.map V.str))) FT 1 (.ref t4) (dST d.wa):=Oa Ac (by have:=ok.h2;have:=ok.wl;omega);have sB:=Ag (o:=HO.tup (d.wa.map V.str)) ht4;replace B:=B.same sB;replace r1:=r1.same sB;replace r2:=r2.same sB;replace r3:=r3.same sB;replace hxB:=sB _ _ hxB;generalize upd HB t4 (HO.tup (d.wa.map V.str))=HC at B hxB r1 r2 r3 r4 ⊢;refine Ef hxB T.kd_Draft.cl T.na_Draft_warp (by show 5<1000;decide) ?_;generalize ef:AQ "warp" (V.ref t4) _=fC;replace r1:=r1.ins (o:=HO.ins c.Draft dx fC) hxB;replace r2:=r2.ins (o:=HO.ins c.Draft dx fC) hxB;replace r3:=r3.ins (o:=HO.ins c.Draft dx fC) hxB;replace r4:=r4.ins (o:=HO.ins c.Draft dx fC) hxB;replace B:=B.put (o:=HO.ins c.Draft dx fC);have hxD:upd HC x (HO.ins c.Draft dx fC) x=_:=Ac;generalize upd HC x (HO.ins c.Draft dx fC)=HD at B hxD r1 r2 r3 r4 ⊢;subst ef;walk_at "w";refine Bp (SqL.of (B _ _ h5 (EJ h5 hx (by intro z;cases z)))) λ t5 ht5=> ?_;walk_at "w";have r5:Rp (upd HD t5 (HO.tup (d.we.map V.str))) FT 1 (.ref t5) (dST d.we):=Oa Ac (by have:=ok.p2;have:=ok.fl;omega);have sD:=Ag (o:=HO.tup (d.we.map V.str)) ht5;replace B:=B.same sD;replace r1:=r1.same sD;replace r2:=r2.same sD;replace r3:=r3.same sD;replace r4:=r4.same sD;replace hxD:=sD _ _ hxD;generalize upd HD t5 (HO.tup (d.we.map V.str))=HE at B hxD r1 r2 r3 r4 r5 ⊢;refine Ef hxD T.kd_Draft.cl T.na_Draft_weft (by show 6<1000;decide) ?_;generalize ef:AQ "weft" (V.ref t5) _=fE;replace r1:=r1.ins (o:=HO.ins c.Draft dx fE) hxD;replace r2:=r2.ins (o:=HO.ins c.Draft dx fE) hxD;replace r3:=r3.ins (o:=HO.ins c.Draft dx fE) hxD;replace r4:=r4.ins (o:=HO.ins c.Draft dx fE) hxD;replace r5:=r5.ins (o:=HO.ins c.Draft dx fE) hxD;replace B:=B.put (o:=HO.ins c.Draft dx fE);have hxF:upd HD x (HO.ins c.Draft dx fE) x=_:=Ac;walk_at "w";subst ef;exact k _ B ⟨dx,_,_,_,_,_,Ac,r1,r2,r3,r4,r5⟩
theorem L9 {c:Cs} {H:Hp} {Q:VK} {E:XK} {d:Dr} {v0 v1 v2 v3 v4 v5 v6:V} (ps:Parts H d [v0,v1,v2,v3,v4,v5,v6]) (ok:DrOk d) (h:∀ H' x,Same H H'->H x=none->DrAt c.Draft H' x d->Q (.ref x) H'):
    ∀ x dx,H x=none->H dx=none->dx≠x->A9 c [.ref x,v0,v1,v2,v3,v4,v5,v6] (upd (upd H dx (.own x)) x (.ins c.Draft dx [])) (λ v H2=>v= .non/\Q (.ref x) H2) E:=by
  intro x dx hx hdx ne;have s0:=Ii (o:=HO.ins c.Draft dx []) (u:= .own x) hx hdx;exact ⟨x,dx,_,_,_,_,_,_,_,rfl,Ac, .inr ⟨d,ps.same s0,ok,λ H' B at'=>⟨rfl,h H' x (λ b o e=>B b o (s0 b o e) (AB e hx)) hx at'⟩⟩⟩
theorem LH {H H':Hp} {v0 v1 v2 v3 v4 v5 v6:V} (h:PTh H v0 v1 v2 v3 v4 v5 v6) (s:Same H H'):drB H' v0 v1 v2 v3 v4 v5 v6=drB H v0 v1 v2 v3 v4 v5 v6:=by
  have al:∀ {v:V} {m:Int},ThL H 2 v->(lsD H' v).all (λ x=>A6 H' x m)=(lsD H v).all (λ x=>A6 H x m):=λ {v m} t=>by
    unfold lsD;rw [A0 t.1 s];cases e:As H v with
    | none=>rfl
    | some xs=>
      rw [Bool.eq_iff_iff,List.all_eq_true,List.all_eq_true];exact forall_congr' λ x=>forall_congr' λ hx=>by rw [DF ((t.2 xs e).2 x hx).th s]
  unfold drB;rw [BR h.t2.th s,BR h.t3.th s,BR h.t4.th s,al h.t3,al h.t4,CM h.t5.th s,CM h.t6.th s];unfold lsD;rw [A0 h.t2.th s,A0 h.t4.th s]
theorem NQ {c:Cs} {H:Hp} {Q:VK} {E:XK} {v0 v1 v2 v3 v4 v5 v6:V} (pt:PTh H v0 v1 v2 v3 v4 v5 v6) (db:drB H v0 v1 v2 v3 v4 v5 v6=false) (h:∀ H',Same H H'->E (.ref c.BadDraft) none H'):
    ∀ x dx,H x=none->H dx=none->dx≠x->A9 c [.ref x,v0,v1,v2,v3,v4,v5,v6] (upd (upd H dx (.own x)) x (.ins c.Draft dx [])) (λ v H2=>v= .non/\Q (.ref x) H2) E:=by
  intro x dx hx hdx ne;have s0:=Ii (o:=HO.ins c.Draft dx []) (u:= .own x) hx hdx;exact ⟨x,dx,_,_,_,_,_,_,_,rfl,Ac, .inl ⟨pt.same s0,by rw [LH pt s0];exact db,λ H' s=>h H' (s0.trans s)⟩⟩
inductive Nst (H:Hp) (F:Addr->Prop) (T:Nat):Nat->V->Prop where
  | non {n:Nat}:Nst H F T n .non
  | bl {n:Nat} (b:Bool):Nst H F T n (.bl b)
  | int {n:Nat} (i:Int):Nst H F T n (.int i)
  | str {n:Nat} (z:Str):Nst H F T n (.str z)
  | lst {n:Nat} {a:Addr} {us:List V} {k:Nat} (h:H a=some (.lst (us++List.replicate k (.int 7)))) (f:F a) (l:us.length<=100) (t:k<=T) (e:∀ v∈us,Nst H F T n v):Nst H F T (n+1) (.ref a)
  | tup {n:Nat} {a:Addr} {us:List V} (h:H a=some (.tup us)) (l:us.length<=100) (e:∀ v∈us,Nst H F T n v):Nst H F T (n+1) (.ref a)
def cN:Nat->Nat
  | 0=>0
  | n+1=>100*cN n+1
def cV (n:Nat):V->Nat
  | .ref _=>cN n
  | _=>0
theorem NW (n:Nat) (v:V):cV n v<=cN n:=by
  cases v <;> first | exact Nat.le_refl _ | exact Nat.zero_le _
def Ap (F:Addr->Prop) (k:Nat) (H H':Hp):Prop:=∀ b o,H b=some o->H' b=some o\/(F b/\∃ xs j,o= .lst xs/\j<=k/\H' b=some (.lst (xs++List.replicate j (.int 7))))
theorem Ap.of {F:Addr->Prop} {k:Nat} {H H':Hp} (s:Same H H'):Ap F k H H':=λ b o e=> .inl (s b o e)
theorem Ap.trans {F:Addr->Prop} {k j:Nat} {H H1 H2:Hp} (h:Ap F k H H1) (g:Ap F j H1 H2):Ap F (k+j) H H2:=by
  intro b o e;rcases h b o e with e1 | ⟨f,xs,i,rfl,hi,e1⟩
  · rcases g b o e1 with e2 | ⟨f,xs,i,rfl,hi,e2⟩
    · exact .inl e2
    · exact .inr ⟨f,xs,i,rfl,by omega,e2⟩
  · rcases g b _ e1 with e2 | ⟨_,ys,i2,ey,hi2,e2⟩
    · exact .inr ⟨f,xs,i,rfl,by omega,e2⟩
    · cases ey;refine .inr ⟨f,xs,i+i2,rfl,by omega,?_⟩;rw [e2,List.append_assoc,List.replicate_append_replicate]
theorem Ap.le {F:Addr->Prop} {k j:Nat} {H H1:Hp} (h:Ap F k H H1) (l:k<=j):Ap F j H H1:=by
  intro b o e;rcases h b o e with e1 | ⟨f,xs,i,rfl,hi,e1⟩
  · exact .inl e1
  · exact .inr ⟨f,xs,i,rfl,by omega,e1⟩
theorem Ap.there {F:Addr->Prop} {k:Nat} {H H1:Hp} (h:Ap F k H H1) {b:Addr} (q:H b≠none):H1 b≠none:=by
  cases e:H b with
  | none=>exact absurd e q
  | some o=>
    rcases h b o e with e1 | ⟨_,xs,i,_,_,e1⟩
    · rw [e1];simp
    · rw [e1];simp
theorem Ap.out {F:Addr->Prop} {k:Nat} {H H1:Hp} (h:Ap F k H H1) {b:Addr} {o:HO} (e:H b=some o) (n:¬ F b):H1 b=some o:=(h b o e).elim id λ q=>absurd q.1 n
theorem Nst.on {H H':Hp} {F:Addr->Prop} {T k n:Nat} {v:V} (h:Nst H F T n v) (a:Ap F k H H'):Nst H' F (T+k) n v:=by
  induction h with
  | non=>exact .non
  | bl b=>exact .bl b
  | int i=>exact .int i
  | str z=>exact .str z
  | @lst n b us j h f l t e ih=>
    rcases a b _ h with e1 | ⟨_,xs,i,ex,hi,e1⟩
    · exact .lst e1 f l (by omega) ih
    · cases ex;refine .lst (k:=j+i) ?_ f l (by omega) ih;rw [e1,List.append_assoc,List.replicate_append_replicate]
  | @tup n b us h l e ih=>
    rcases a b _ h with e1 | ⟨_,xs,i,ex,hi,e1⟩
    · exact .tup e1 l ih
    · cases ex
inductive SmD:Dt->Prop where
  | non:SmD .non
  | bl (b:Bool):SmD (.bl b)
  | int (i:Int):SmD (.int i)
  | str (z:Str):SmD (.str z)
  | lst {ds:List Dt} (l:ds.length<=100) (h:∀ d∈ds,SmD d):SmD (.lst ds)
  | tup {ds:List Dt} (l:ds.length<=100) (h:∀ d∈ds,SmD d):SmD (.tup ds)
theorem Nst.of {H:Hp} {F:Addr->Prop} {n:Nat} {v:V} {d:Dt} (r:Rp H F n v d) (h:SmD d):Nst H F 0 n v:=by
  have mem:∀ {vs:List V} {ds:List Dt} (l:vs.length=ds.length) {v:V},v∈vs->∃ (i:Nat) (d:Dt),vs[i]?=some v/\ds[i]?=some d/\d∈ds:=λ l v hv=>by
    obtain ⟨i,hi,rfl⟩:=List.mem_iff_getElem.mp hv;exact ⟨i,_,List.getElem?_eq_getElem hi,List.getElem?_eq_getElem (by omega),List.getElem_mem _⟩
  induction r with
  | non=>exact .non
  | bl b=>exact .bl b
  | int i=>exact .int i
  | str z=>exact .str z
  | @lst n a vs ds q f b l e ih=>
    cases h with
    | lst l' hd=>
      refine .lst (us:=vs) (k:=0) (by rw [q];simp) f (by omega) (Nat.le_refl _) λ v hv=> ?_;obtain ⟨i,d,h1,h2,h3⟩:=mem l hv;exact ih i v d h1 h2 (hd d h3)
  | @tup n a vs ds q b l e ih=>
    cases h with
    | tup l' hd=>
      refine .tup q (by omega) λ v hv=> ?_;obtain ⟨i,d,h1,h2,h3⟩:=mem l hv;exact ih i v d h1 h2 (hd d h3)
theorem Nst.kind {K:PySem.W.Frag} {H:Hp} {F:Addr->Prop} {T n:Nat} {v:V} (h:Nst H F T n v):∃ t b1 b2,TyOf K H v (.type t)/\PySem.W.kitOne K (.type t) (.type "list")=some b1/\PySem.W.kitOne K (.type t) (.type "tuple")=some b2/\
    ((b1=false/\b2=false/\∀ m,cV m v=0)\/(b1=true/\b2=false/\∃ m a us k,n=m+1/\v= .ref a/\H a=some (.lst (us++List.replicate k (.int 7)))/\F a/\us.length<=100/\k<=T/\∀ x∈us,Nst H F T m x)\/
      (b1=false/\b2=true/\∃ m a us,n=m+1/\v= .ref a/\H a=some (.tup us)/\us.length<=100/\∀ x∈us,Nst H F T m x)):=by
  cases h with
  | non=>exact ⟨_,false,false, .non,kb (by decide +kernel),kb (by decide +kernel), .inl ⟨rfl,rfl,λ _=>rfl⟩⟩
  | bl b=>exact ⟨_,false,false, .bl b,kb (by decide +kernel),kb (by decide +kernel), .inl ⟨rfl,rfl,λ _=>rfl⟩⟩
  | int i=>exact ⟨_,false,false, .int i,kb (by decide +kernel),kb (by decide +kernel), .inl ⟨rfl,rfl,λ _=>rfl⟩⟩
  | str z=>exact ⟨_,false,false, .str z,kb (by decide +kernel),kb (by decide +kernel), .inl ⟨rfl,rfl,λ _=>rfl⟩⟩
  | lst h f l t e=>exact ⟨_,true,false, .lst h,kb (by decide +kernel),kb (by decide +kernel), .inr (.inl ⟨rfl,rfl,_,_,_,_,rfl,rfl,h,f,l,t,e⟩)⟩
  | tup h l e=>exact ⟨_,false,true, .tup h,kb (by decide +kernel),kb (by decide +kernel), .inr (.inr ⟨rfl,rfl,_,_,_,rfl,rfl,h,l,e⟩)⟩
def Be:Nat->Sp
  | 0=>λ _ _ _ _=>False
  | n+1=>λ vs H Q _=>∃ v F T,vs=[v]/\Nst H F T n v/\T+cV n v<=10000000/\(∀ b,F b->H b≠none)/\∀ H',Ap F (cV n v) H H'->Q .non H'
abbrev BA:Stmt:=top 35
theorem sc__law_spoilt:FnScope ["_law_told","_law_one"] ["_law_told"] (Al BA):=⟨rfl,rfl,rfl,by decide +kernel,rfl,by decide +kernel,by decide +kernel⟩
theorem E8 {n:Nat} {f:Addr} {fd:FuncData} (F:Fun K "_law_spoilt" "_law_spoilt" BA f fd) (T:Txt K mg c) (c__law_spoilt:CallF P w K mg base "_law_spoilt" (n+1) ["_law_told"] (Be n)):FnOk P w K mg base CX0 (n+2) f fd ["_law_told"] (Be (n+1)):=by
  refine F.ok sc__law_spoilt (λ vs H Q E h=> ?_) (λ cdv A outer s H vs Q E hr h=> ?_)
  · obtain ⟨v,F,T,rfl,_⟩:=h;rfl
  · obtain ⟨v,F,T',rfl,nv,tc,hF,k⟩:=h;refine ⟨_,(Ad (Bn (PW.pt (GD (By (Ak (Bc (K:=K)) rfl (T.own _ (by decide)) boot_isinstance (Aa (pv 0) (Aa (Bo rfl (T.own _ (by decide)) AC) Ab)))) (Fq (By (Ak (Bc (K:=K)) rfl (T.own _ (by decide)) boot_isinstance (Aa (pv 0) (Aa (Bo rfl (T.own _ (by decide)) Ay) Ab))))))) (Ai (Hg PassesOwn.never rfl (BH (K:=K) (AD (ES (K:=K)) rfl (T.own _ (by decide)) AC (Aa (pv 0) Ab))) (Bj (i:=1) sc__law_spoilt.nd rfl (Or.inl rfl)) (Ai (AF (Aj c__law_spoilt hr (Aa (pv 1) Ab)))))) AL)
      (Ai (Bn (By (Ak (Bc (K:=K)) rfl (T.own _ (by decide)) boot_isinstance (Aa (pv 0) (Aa (Bo rfl (T.own _ (by decide)) AC) Ab)))) (Ai (AF (Tc (K:=K) PySem.F.plainAttrs_list PySem.F.slot_list_append PySem.F.type_list_append GJ (pv 0) (Aa Ae Ab)))) AL))),?_⟩
    obtain ⟨t,b1,b2,ty,k1,k2,kd⟩:=nv.kind (K:=K);have body:∀ D:Ends,(∃ m us j a,n=m+1/\v= .ref a/\(SqL K H a (us++List.replicate j (.int 7))\/SqT K H a (us++List.replicate j (.int 7)))/\us.length<=100/\j<=T'/\(∀ x∈us,Nst H F T' m x)/\∀ H3 y,Ap F (us.length*cN m) H H3->D.nx [some v,y] H3)->
        OJ (JD K (tCB (Fk K) (JM (Mr 0) KQ))) (AU 1) (L5 (GG (Be n) [] E0 (JM (Mr 1) KQ))) D (L2.start ["_law_told","_law_one"] [v]) H:=by
      rintro D ⟨m,us,j,a,rfl,rfl,ha,lu,lj,iu,kk⟩;have cm:cN (m+1)=100*cN m+1:=rfl;have mu:us.length*cN m<=100*cN m:=Nat.mul_le_mul_right _ lu;have tc:T'+cN (m+1)<=10000000:=tc;walk_at "w";refine (λ key=>ha.elim (λ ha=>Ki ha key) (λ ha=>Bx ha key)) λ p hp=> ?_;have s1:=Ag (o:=HO.lst (us++List.replicate j (.int 7))) hp;have g1:upd H p (HO.lst (us++List.replicate j (.int 7))) p=_:=Ac;generalize upd H p (HO.lst (us++List.replicate j (.int 7)))=H1 at s1 g1 ⊢;have nF:¬ F p:=λ z=>hF p z hp;refine ⟨p,rfl,⟨_,SqL.of g1⟩,Mb (H0:=λ b=>if b=p then some (.lst (us++List.replicate j (.int 7))) else none) (Jr (SqL.of (if_pos rfl))) (λ i σ H3=>∃ y,σ=[some (.ref a),y]/\Ap F (min i us.length*cN m) H1 H3) ⟨_,rfl,Ap.of (Same.refl _)⟩ (λ i σ H3 ⟨_,_,a3⟩ b o e=> ?_) ?_ ?_⟩
      · have e:(if b=p then some (HO.lst (us++List.replicate j (.int 7))) else none)=some o:=e;by_cases c:b=p
        · rw [if_pos c] at e;cases e;rw [c];exact a3.out g1 nF
        · rw [if_neg c] at e;cases e
      · rintro i σ G H3 hi ⟨y,rfl,a3⟩ s3;have a03:Ap F (min i us.length*cN m) H H3:=λ b o e=>by
          rcases a3 b o (s1 _ _ e) with e1 | ⟨f1,xs,q,ex,hq,e1⟩
          · exact .inl (s3 _ _ e1)
          · exact .inr ⟨f1,xs,q,ex,hq,s3 _ _ e1⟩
        have a13:Ap F (min i us.length*cN m) H1 H3:=λ b o e=>by
          rcases a3 b o e with e1 | ⟨f1,xs,q,ex,hq,e1⟩
          · exact .inl (s3 _ _ e1)
          · exact .inr ⟨f1,xs,q,ex,hq,s3 _ _ e1⟩
        have mi:min i us.length*cN m<=us.length*cN m:=Nat.mul_le_mul_right _ (Nat.min_le_right _ _);walk_at "w";rcases Nat.lt_or_ge i us.length with hu' | hu'
        · have ev:(us++List.replicate j (V.int 7)).getD i .non=us.getD i .non:=by
            rw [List.getD_eq_getElem?_getD,List.getD_eq_getElem?_getD,List.getElem?_append_left hu']
          rw [ev];have hm:us.getD i .non∈us:=L2.getD_mem hu';have mi2:(min i us.length+1)*cN m<=us.length*cN m:=Nat.mul_le_mul_right _ (by omega);rw [Nat.succ_mul] at mi2;refine ⟨_,F,T'+min i us.length*cN m,rfl,(iu _ hm).on a03,by have:=NW m (us.getD i .non);omega,λ b hb=>a03.there (hF b hb),λ H4 a4=> ?_⟩;walk_at "w";refine ⟨_,rfl,?_⟩;rw [show min (i+1) us.length=i+1 by omega,Nat.succ_mul];have e2:min i us.length=i:=by omega
          rw [e2] at a13;exact (a13.trans a4).le (by have:=NW m (us.getD i .non);omega)
        · have ev:(us++List.replicate j (V.int 7)).getD i .non= .int 7:=by
            rw [List.length_append,List.length_replicate] at hi;rw [List.getD_eq_getElem?_getD,List.getElem?_append_right hu',List.getElem?_replicate,if_pos (by omega)];rfl
          rw [ev];refine ⟨_,F,T'+min i us.length*cN m,rfl, .int 7,by show _+0<=_;omega,λ b hb=>a03.there (hF b hb),λ H4 a4=> ?_⟩;walk_at "w";refine ⟨_,rfl,?_⟩;rw [show min (i+1) us.length=min i us.length by omega];exact (a13.trans a4).le (Nat.le_refl _)
      · rintro σ H3 ⟨y,rfl,a3⟩;refine kk H3 y λ b o e=> ?_;have e0:min (us++List.replicate j (V.int 7)).length us.length=us.length:=by rw [List.length_append];omega
        rw [e0] at a3;exact a3 b o (s1 _ _ e)
    walk_at "w";refine AM ty k1 ?_;refine ⟨_,rfl,?_⟩;rcases kd with ⟨rfl,rfl,cv⟩ | ⟨rfl,rfl,m,a,us,j,rfl,rfl,ha,fa,lu,lj,iu⟩ | ⟨rfl,rfl,m,a,us,rfl,rfl,ha,lu,iu⟩
    · refine DO ?_;walk_at "w";refine AM ty k2 ?_;walk_at "w";refine AM ty k1 ?_;walk_at "w";exact k H (by rw [cv];exact Ap.of (Same.refl _))
    · have cm:cN (m+1)=100*cN m+1:=rfl;have mu:us.length*cN m<=100*cN m:=Nat.mul_le_mul_right _ lu;refine Dj (Dj (body _ ⟨m,us,j,a,rfl,rfl, .inl (SqL.of ha),lu,lj,iu,λ H3 y a3=> ?_⟩));have g3:∃ q,q<=us.length*cN m/\H3 a=some (.lst ((us++List.replicate j (.int 7))++List.replicate q (.int 7))):=by
        rcases a3 a _ ha with e1 | ⟨_,xs,q,ex,hq,e1⟩
        · exact ⟨0,Nat.zero_le _,by rw [e1];simp⟩
        · cases ex;exact ⟨q,hq,e1⟩
      obtain ⟨q,hq,g3⟩:=g3;walk_at "w";refine AM (.lst g3) (kb (b:=true) (by decide +kernel)) ?_;walk_at "w";refine tyL (SqL.of g3) ?_;walk_at "w";have tc:T'+cN (m+1)<=10000000:=tc;refine Ps g3 (by simp only [List.length_append,List.length_replicate];omega) ?_;walk_at "w";refine k _ λ b o e=> ?_;by_cases c':b=a
      · subst c';rw [ha] at e;cases e;refine .inr ⟨fa,_,q+1,rfl,by show q+1<=cN (m+1);omega,?_⟩;rw [Ac,List.append_assoc, <-List.replicate_succ']
      · rw [Af c'];exact (a3.le (show us.length*cN m<=cN (m+1) by omega)) b o e
    · have cm:cN (m+1)=100*cN m+1:=rfl;have mu:us.length*cN m<=100*cN m:=Nat.mul_le_mul_right _ lu;refine DO ?_;walk_at "w";refine AM ty k2 ?_;refine ⟨_,rfl,?_⟩;refine Dj ?_;refine body _ ⟨m,us,0,a,rfl,rfl, .inr (SqT.of (by rw [ha];simp)),lu,Nat.zero_le _,iu,λ H3 y a3=> ?_⟩;have g3:H3 a=some (.tup us):=by
        rcases a3 a _ ha with e1 | ⟨_,xs,q,ex,hq,e1⟩
        · exact e1
        · cases ex
      walk_at "w";refine AM (.tup g3) (kb (b:=false) (by decide +kernel)) ?_;walk_at "w";exact k H3 (a3.le (show us.length*cN m<=cN (m+1) by omega))
theorem Di {f:Addr} {fd:FuncData} (D:DefAt K mg "_law_spoilt" BA ["_law_told"] f fd) (T:Txt K mg c):∀ n,FnOk P w K mg base CX0 (n+1) f fd ["_law_told"] (Be n)
  | 0=>⟨λ _ _ _ _ h=>h.elim,λ _ _ _ _ _ _ _ _ _ _ _ _ _ h=>h.elim⟩
  | n+1=>E8 D.fn T (D.call (Di D T n))
theorem Bw {n:Nat} (h:n<1000):((n:Nat):Int).natAbs.log2<1920:=by
  have:Nat.log2 n<=n:=Nat.log2_le_self n;show Nat.log2 n<1920;omega
def ER (c:Cs):Sp:=λ vs H Q _=>∃ (a:Addr) (n0:Nat) (n1:Nat),vs=[.ref a,nV n0,nV n1]/\H a=some (xnO a c.BadRow none)/\n0<1000/\n1<1000/\
  ∀ dx H',H dx=none->(∀ b o,H b=some o->b≠a->H' b=some o)->H' a=some (xnO a c.BadRow (some dx))->H' dx=some (xdO dx [("row",nV n0),("word",nV n1)])->Q .non H'
abbrev Bq:Stmt:=AR (top 6) 0
theorem Eo:FnScope ["self","row","word"] ["self","row","word"] (Al Bq):=⟨rfl,rfl,rfl,by decide +kernel,rfl,by decide +kernel,by decide +kernel⟩
theorem Ee {f:Addr} {fd:FuncData} (F:Fun K "__init__" "BadRow.__init__" Bq f fd) (T:Txt K mg c):FnOk P w K mg base CX0 1 f fd ["self","row","word"] (ER c):=by
  refine F.ok Eo (λ vs H Q E h=> ?_) (λ cdv A outer s H vs Q E hr h=> ?_)
  · obtain ⟨a,n0,n1,rfl,_⟩:=h;rfl
  · obtain ⟨a,n0,n1,rfl,ha,b0,b1,k⟩:=h;refine ⟨_,(Ad (AF (Dp (K:=K) T.g_LoomError T.xb_LoomError (Aa (pv 0) (Aa (Cm (AA An (AA (CF (pv 1)) (AA An (AA (CF (pv 2)) (AA An EC)))))) Ab))))
      (Ad (BM (K:=K) (pv 0) (pv 1) rfl)
      (Ai (BM (K:=K) (pv 0) (pv 2) rfl)))),?_⟩
    have l0:=MN.num_len (i:=((n0:Nat):Int)) (by omega) (by omega);have l1:=MN.num_len (i:=((n1:Nat):Int)) (by omega) (by omega);have h0:(Str.empty).length=0:=by decide +kernel
    have g0:(Str.ofString "row ").length=4:=by decide +kernel
    have g2:(Str.ofString ", word ").length=7:=by decide +kernel
    have g4:(Str.ofString " can't stand").length=12:=by decide +kernel
    walk_at "w";refine Dn ?_;walk_at "w";refine AK ?_;walk_at "w";refine ⟨_,rfl,?_,?_⟩
    · rw [strLen_append];omega
    refine AK ?_;refine CI ?_;walk_at "w";refine .inl ⟨_,rfl,Bw b0,_,rfl,?_,?_⟩
    · rw [strLen_append,strLen_append];omega
    refine AK ?_;walk_at "w";refine ⟨_,rfl,?_,?_⟩
    · rw [strLen_append,strLen_append,strLen_append];omega
    refine AK ?_;refine CI ?_;walk_at "w";refine .inl ⟨_,rfl,Bw b1,_,rfl,?_,?_⟩
    · rw [strLen_append,strLen_append,strLen_append,strLen_append];omega
    refine AK ?_;walk_at "w";refine ⟨_,rfl,?_,?_⟩
    · rw [strLen_append,strLen_append,strLen_append,strLen_append,strLen_append];omega
    refine Co ?_;walk_at "w";obtain ⟨fi,hfi⟩:=T.xj_BadRow;refine ⟨a,_,_,fi,_,rfl,ha,hfi,?_⟩;dsimp only;refine FE ?_;refine BK ?_;walk_at "w";refine ⟨a,_,_,rfl,ha,T.xs_BadRow,A8 T.xf_BadRow_row, .inl ⟨rfl,λ dx hdx=> ?_⟩⟩;have nd:dx≠a:=λ z=>by rw [z,ha] at hdx;cases hdx
    dsimp only;refine BK ?_;walk_at "w";refine ⟨a,_,_,rfl,Ac,T.xs_BadRow,A8 T.xf_BadRow_word, .inr ⟨dx,_,rfl,by rw [Af nd,Ac],by show 1<1000;decide,?_⟩⟩;refine k dx _ hdx (λ b o e nb=> ?_) ?_ Ac
    · have n2:b≠dx:=λ z=>by rw [z,hdx] at e;cases e
      rw [Af n2,Af nb,Af n2];exact e
    · rw [Af (Ne.symm nd),Ac]
theorem Kf {c:Cs} {H:Hp} {R:Addr->Option Addr->Hp->Prop} {n0:Nat} {n1:Nat} (b0:n0<1000) (b1:n1<1000) (h:∀ a dx H',H a=none->Same H (upd H' a (A7 a c.BadRow (some dx)))->upd H' a (A7 a c.BadRow (some dx)) dx=some (xdO dx [("row",nV n0),("word",nV n1)])->R a (some dx) H'):
    ([nV n0,nV n1]:List V).length<=900/\∀ a,H a=none->ER c (.ref a::[nV n0,nV n1]) (upd H a (xnO a c.BadRow none)) (λ v H2=>v= .non/\∃ od,H2 a=some (xnO a c.BadRow od)/\R a od H2) E0:=by
  refine ⟨by simp,λ a ha=>⟨a,n0,n1,rfl,Ac,b0,b1,λ dx H' hdx kp ea ed=>⟨rfl,some dx,ea,?_⟩⟩⟩;have nd:dx≠a:=λ z=>by rw [z,Ac] at hdx;cases hdx
  refine h a dx _ ha (λ b o e=> ?_) (by rw [Af nd];exact ed);have nb:b≠a:=λ z=>by rw [z,ha] at e;cases e
  rw [Af nb];exact kp b o (by rw [Af nb];exact e) nb
def El (c:Cs):Sp:=λ vs H Q _=>∃ (a:Addr) (z0:Str) (n1:Nat),vs=[.ref a, .str z0,nV n1]/\H a=some (xnO a c.TooMany none)/\z0.length<1000/\n1<1000/\
  ∀ dx H',H dx=none->(∀ b o,H b=some o->b≠a->H' b=some o)->H' a=some (xnO a c.TooMany (some dx))->H' dx=some (xdO dx [("what", .str z0),("many",nV n1)])->Q .non H'
abbrev Bm:Stmt:=AR (top 8) 0
theorem DP:FnScope ["self","what","many"] ["self","what","many"] (Al Bm):=⟨rfl,rfl,rfl,by decide +kernel,rfl,by decide +kernel,by decide +kernel⟩
theorem DM {f:Addr} {fd:FuncData} (F:Fun K "__init__" "TooMany.__init__" Bm f fd) (T:Txt K mg c):FnOk P w K mg base CX0 1 f fd ["self","what","many"] (El c):=by
  refine F.ok DP (λ vs H Q E h=> ?_) (λ cdv A outer s H vs Q E hr h=> ?_)
  · obtain ⟨a,z0,n1,rfl,_⟩:=h;rfl
  · obtain ⟨a,z0,n1,rfl,ha,b0,b1,k⟩:=h;refine ⟨_,(Ad (AF (Dp (K:=K) T.g_LoomError T.xb_LoomError (Aa (pv 0) (Aa (Cm (AA (CF (pv 2)) (AA An (AA (CF (pv 1)) (AA An EC))))) Ab))))
      (Ad (BM (K:=K) (pv 0) (pv 1) rfl)
      (Ai (BM (K:=K) (pv 0) (pv 2) rfl)))),?_⟩
    have l1:=MN.num_len (i:=((n1:Nat):Int)) (by omega) (by omega);have h0:(Str.empty).length=0:=by decide +kernel
    have g1:(Str.ofString " ").length=1:=by decide +kernel
    have g3:(Str.ofString " are too many").length=13:=by decide +kernel
    walk_at "w";refine Dn ?_;walk_at "w";refine AK ?_;refine CI ?_;walk_at "w";refine .inl ⟨_,rfl,Bw b1,_,rfl,?_,?_⟩
    · rw [strLen_append];omega
    refine AK ?_;walk_at "w";refine ⟨_,rfl,?_,?_⟩
    · rw [strLen_append,strLen_append];omega
    refine AK ?_;refine CI ?_;walk_at "w";refine .inr ⟨_,rfl,by omega,_,rfl,?_,?_⟩
    · rw [strLen_append,strLen_append,strLen_append];omega
    refine AK ?_;walk_at "w";refine ⟨_,rfl,?_,?_⟩
    · rw [strLen_append,strLen_append,strLen_append,strLen_append];omega
    refine Co ?_;walk_at "w";obtain ⟨fi,hfi⟩:=T.xj_TooMany;refine ⟨a,_,_,fi,_,rfl,ha,hfi,?_⟩;dsimp only;refine FE ?_;refine BK ?_;walk_at "w";refine ⟨a,_,_,rfl,ha,T.xs_TooMany,A8 T.xf_TooMany_what, .inl ⟨rfl,λ dx hdx=> ?_⟩⟩;have nd:dx≠a:=λ z=>by rw [z,ha] at hdx;cases hdx
    dsimp only;refine BK ?_;walk_at "w";refine ⟨a,_,_,rfl,Ac,T.xs_TooMany,A8 T.xf_TooMany_many, .inr ⟨dx,_,rfl,by rw [Af nd,Ac],by show 1<1000;decide,?_⟩⟩;refine k dx _ hdx (λ b o e nb=> ?_) ?_ Ac
    · have n2:b≠dx:=λ z=>by rw [z,hdx] at e;cases e
      rw [Af n2,Af nb,Af n2];exact e
    · rw [Af (Ne.symm nd),Ac]
theorem II {c:Cs} {H:Hp} {R:Addr->Option Addr->Hp->Prop} {z0:Str} {n1:Nat} (b0:z0.length<1000) (b1:n1<1000) (h:∀ a dx H',H a=none->Same H (upd H' a (A7 a c.TooMany (some dx)))->upd H' a (A7 a c.TooMany (some dx)) dx=some (xdO dx [("what", .str z0),("many",nV n1)])->R a (some dx) H'):
    ([.str z0,nV n1]:List V).length<=900/\∀ a,H a=none->El c (.ref a::[.str z0,nV n1]) (upd H a (xnO a c.TooMany none)) (λ v H2=>v= .non/\∃ od,H2 a=some (xnO a c.TooMany od)/\R a od H2) E0:=by
  refine ⟨by simp,λ a ha=>⟨a,z0,n1,rfl,Ac,b0,b1,λ dx H' hdx kp ea ed=>⟨rfl,some dx,ea,?_⟩⟩⟩;have nd:dx≠a:=λ z=>by rw [z,Ac] at hdx;cases hdx
  refine h a dx _ ha (λ b o e=> ?_) (by rw [Af nd];exact ed);have nb:b≠a:=λ z=>by rw [z,ha] at e;cases e
  rw [Af nb];exact kp b o (by rw [Af nb];exact e) nb
def Dx (c:Cs):Sp:=λ vs H Q _=>∃ (a:Addr) (z0:Str) (n1:Nat),vs=[.ref a, .str z0,nV n1]/\H a=some (xnO a c.NotPlain none)/\z0.length<1000/\n1<1000/\
  ∀ dx H',H dx=none->(∀ b o,H b=some o->b≠a->H' b=some o)->H' a=some (xnO a c.NotPlain (some dx))->H' dx=some (xdO dx [("what", .str z0),("number",nV n1)])->Q .non H'
abbrev Bf:Stmt:=AR (top 9) 0
theorem Dc:FnScope ["self","what","number"] ["self","what","number"] (Al Bf):=⟨rfl,rfl,rfl,by decide +kernel,rfl,by decide +kernel,by decide +kernel⟩
theorem Dz {f:Addr} {fd:FuncData} (F:Fun K "__init__" "NotPlain.__init__" Bf f fd) (T:Txt K mg c):FnOk P w K mg base CX0 1 f fd ["self","what","number"] (Dx c):=by
  refine F.ok Dc (λ vs H Q E h=> ?_) (λ cdv A outer s H vs Q E hr h=> ?_)
  · obtain ⟨a,z0,n1,rfl,_⟩:=h;rfl
  · obtain ⟨a,z0,n1,rfl,ha,b0,b1,k⟩:=h;refine ⟨_,(Ad (AF (Dp (K:=K) T.g_LoomError T.xb_LoomError (Aa (pv 0) (Aa (Cm (AA (CF (pv 1)) (AA An (AA (CF (pv 2)) (AA An EC))))) Ab))))
      (Ad (BM (K:=K) (pv 0) (pv 1) rfl)
      (Ai (BM (K:=K) (pv 0) (pv 2) rfl)))),?_⟩
    have l1:=MN.num_len (i:=((n1:Nat):Int)) (by omega) (by omega);have h0:(Str.empty).length=0:=by decide +kernel
    have g1:(Str.ofString " ").length=1:=by decide +kernel
    have g3:(Str.ofString " isn't plain").length=12:=by decide +kernel
    walk_at "w";refine Dn ?_;walk_at "w";refine AK ?_;refine CI ?_;walk_at "w";refine .inr ⟨_,rfl,by omega,_,rfl,?_,?_⟩
    · rw [strLen_append];omega
    refine AK ?_;walk_at "w";refine ⟨_,rfl,?_,?_⟩
    · rw [strLen_append,strLen_append];omega
    refine AK ?_;refine CI ?_;walk_at "w";refine .inl ⟨_,rfl,Bw b1,_,rfl,?_,?_⟩
    · rw [strLen_append,strLen_append,strLen_append];omega
    refine AK ?_;walk_at "w";refine ⟨_,rfl,?_,?_⟩
    · rw [strLen_append,strLen_append,strLen_append,strLen_append];omega
    refine Co ?_;walk_at "w";obtain ⟨fi,hfi⟩:=T.xj_NotPlain;refine ⟨a,_,_,fi,_,rfl,ha,hfi,?_⟩;dsimp only;refine FE ?_;refine BK ?_;walk_at "w";refine ⟨a,_,_,rfl,ha,T.xs_NotPlain,A8 T.xf_NotPlain_what, .inl ⟨rfl,λ dx hdx=> ?_⟩⟩;have nd:dx≠a:=λ z=>by rw [z,ha] at hdx;cases hdx
    dsimp only;refine BK ?_;walk_at "w";refine ⟨a,_,_,rfl,Ac,T.xs_NotPlain,A8 T.xf_NotPlain_number, .inr ⟨dx,_,rfl,by rw [Af nd,Ac],by show 1<1000;decide,?_⟩⟩;refine k dx _ hdx (λ b o e nb=> ?_) ?_ Ac
    · have n2:b≠dx:=λ z=>by rw [z,hdx] at e;cases e
      rw [Af n2,Af nb,Af n2];exact e
    · rw [Af (Ne.symm nd),Ac]
theorem HF {c:Cs} {H:Hp} {R:Addr->Option Addr->Hp->Prop} {z0:Str} {n1:Nat} (b0:z0.length<1000) (b1:n1<1000) (h:∀ a dx H',H a=none->Same H (upd H' a (A7 a c.NotPlain (some dx)))->upd H' a (A7 a c.NotPlain (some dx)) dx=some (xdO dx [("what", .str z0),("number",nV n1)])->R a (some dx) H'):
    ([.str z0,nV n1]:List V).length<=900/\∀ a,H a=none->Dx c (.ref a::[.str z0,nV n1]) (upd H a (xnO a c.NotPlain none)) (λ v H2=>v= .non/\∃ od,H2 a=some (xnO a c.NotPlain od)/\R a od H2) E0:=by
  refine ⟨by simp,λ a ha=>⟨a,z0,n1,rfl,Ac,b0,b1,λ dx H' hdx kp ea ed=>⟨rfl,some dx,ea,?_⟩⟩⟩;have nd:dx≠a:=λ z=>by rw [z,Ac] at hdx;cases hdx
  refine h a dx _ ha (λ b o e=> ?_) (by rw [Af nd];exact ed);have nb:b≠a:=λ z=>by rw [z,ha] at e;cases e
  rw [Af nb];exact kp b o (by rw [Af nb];exact e) nb
def Dd (c:Cs):Sp:=λ vs H Q _=>∃ (a:Addr) (n0:Nat) (n1:Nat),vs=[.ref a,nV n0,nV n1]/\H a=some (xnO a c.NotGrown none)/\n0<1000/\n1<1000/\
  ∀ dx H',H dx=none->(∀ b o,H b=some o->b≠a->H' b=some o)->H' a=some (xnO a c.NotGrown (some dx))->H' dx=some (xdO dx [("row",nV n0),("column",nV n1)])->Q .non H'
abbrev Bg:Stmt:=AR (top 10) 0
theorem C6:FnScope ["self","row","column"] ["self","row","column"] (Al Bg):=⟨rfl,rfl,rfl,by decide +kernel,rfl,by decide +kernel,by decide +kernel⟩
theorem DC {f:Addr} {fd:FuncData} (F:Fun K "__init__" "NotGrown.__init__" Bg f fd) (T:Txt K mg c):FnOk P w K mg base CX0 1 f fd ["self","row","column"] (Dd c):=by
  refine F.ok C6 (λ vs H Q E h=> ?_) (λ cdv A outer s H vs Q E hr h=> ?_)
  · obtain ⟨a,n0,n1,rfl,_⟩:=h;rfl
  · obtain ⟨a,n0,n1,rfl,ha,b0,b1,k⟩:=h;refine ⟨_,(Ad (AF (Dp (K:=K) T.g_LoomError T.xb_LoomError (Aa (pv 0) (Aa (Cm (AA An (AA (CF (pv 1)) (AA An (AA (CF (pv 2)) EC))))) Ab))))
      (Ad (BM (K:=K) (pv 0) (pv 1) rfl)
      (Ai (BM (K:=K) (pv 0) (pv 2) rfl)))),?_⟩
    have l0:=MN.num_len (i:=((n0:Nat):Int)) (by omega) (by omega);have l1:=MN.num_len (i:=((n1:Nat):Int)) (by omega) (by omega);have h0:(Str.empty).length=0:=by decide +kernel
    have g0:(Str.ofString "neither block stands at row ").length=28:=by decide +kernel
    have g2:(Str.ofString ", column ").length=9:=by decide +kernel
    walk_at "w";refine Dn ?_;walk_at "w";refine AK ?_;walk_at "w";refine ⟨_,rfl,?_,?_⟩
    · rw [strLen_append];omega
    refine AK ?_;refine CI ?_;walk_at "w";refine .inl ⟨_,rfl,Bw b0,_,rfl,?_,?_⟩
    · rw [strLen_append,strLen_append];omega
    refine AK ?_;walk_at "w";refine ⟨_,rfl,?_,?_⟩
    · rw [strLen_append,strLen_append,strLen_append];omega
    refine AK ?_;refine CI ?_;walk_at "w";refine .inl ⟨_,rfl,Bw b1,_,rfl,?_,?_⟩
    · rw [strLen_append,strLen_append,strLen_append,strLen_append];omega
    refine Co ?_;walk_at "w";obtain ⟨fi,hfi⟩:=T.xj_NotGrown;refine ⟨a,_,_,fi,_,rfl,ha,hfi,?_⟩;dsimp only;refine FE ?_;refine BK ?_;walk_at "w";refine ⟨a,_,_,rfl,ha,T.xs_NotGrown,A8 T.xf_NotGrown_row, .inl ⟨rfl,λ dx hdx=> ?_⟩⟩;have nd:dx≠a:=λ z=>by rw [z,ha] at hdx;cases hdx
    dsimp only;refine BK ?_;walk_at "w";refine ⟨a,_,_,rfl,Ac,T.xs_NotGrown,A8 T.xf_NotGrown_column, .inr ⟨dx,_,rfl,by rw [Af nd,Ac],by show 1<1000;decide,?_⟩⟩;refine k dx _ hdx (λ b o e nb=> ?_) ?_ Ac
    · have n2:b≠dx:=λ z=>by rw [z,hdx] at e;cases e
      rw [Af n2,Af nb,Af n2];exact e
    · rw [Af (Ne.symm nd),Ac]
theorem HU {c:Cs} {H:Hp} {R:Addr->Option Addr->Hp->Prop} {n0:Nat} {n1:Nat} (b0:n0<1000) (b1:n1<1000) (h:∀ a dx H',H a=none->Same H (upd H' a (A7 a c.NotGrown (some dx)))->upd H' a (A7 a c.NotGrown (some dx)) dx=some (xdO dx [("row",nV n0),("column",nV n1)])->R a (some dx) H'):
    ([nV n0,nV n1]:List V).length<=900/\∀ a,H a=none->Dd c (.ref a::[nV n0,nV n1]) (upd H a (xnO a c.NotGrown none)) (λ v H2=>v= .non/\∃ od,H2 a=some (xnO a c.NotGrown od)/\R a od H2) E0:=by
  refine ⟨by simp,λ a ha=>⟨a,n0,n1,rfl,Ac,b0,b1,λ dx H' hdx kp ea ed=>⟨rfl,some dx,ea,?_⟩⟩⟩;have nd:dx≠a:=λ z=>by rw [z,Ac] at hdx;cases hdx
  refine h a dx _ ha (λ b o e=> ?_) (by rw [Af nd];exact ed);have nb:b≠a:=λ z=>by rw [z,ha] at e;cases e
  rw [Af nb];exact kp b o (by rw [Af nb];exact e) nb
def Eh (c:Cs):Sp:=λ vs H Q _=>∃ (a:Addr) (n0:Nat),vs=[.ref a,nV n0]/\H a=some (xnO a c.BadWord none)/\n0<1000/\
  ∀ dx H',H dx=none->(∀ b o,H b=some o->b≠a->H' b=some o)->H' a=some (xnO a c.BadWord (some dx))->H' dx=some (xdO dx [("place",nV n0)])->Q .non H'
abbrev Bl:Stmt:=AR (top 7) 0
theorem DR:FnScope ["self","place"] ["self","place"] (Al Bl):=⟨rfl,rfl,rfl,by decide +kernel,rfl,by decide +kernel,by decide +kernel⟩
theorem DN {f:Addr} {fd:FuncData} (F:Fun K "__init__" "BadWord.__init__" Bl f fd) (T:Txt K mg c):FnOk P w K mg base CX0 1 f fd ["self","place"] (Eh c):=by
  refine F.ok DR (λ vs H Q E h=> ?_) (λ cdv A outer s H vs Q E hr h=> ?_)
  · obtain ⟨a,n0,rfl,_⟩:=h;rfl
  · obtain ⟨a,n0,rfl,ha,b0,k⟩:=h;refine ⟨_,(Ad (AF (Dp (K:=K) T.g_LoomError T.xb_LoomError (Aa (pv 0) (Aa (Cm (AA An (AA (CF (pv 1)) (AA An EC)))) Ab))))
      (Ai (BM (K:=K) (pv 0) (pv 1) rfl))),?_⟩
    have l0:=MN.num_len (i:=((n0:Nat):Int)) (by omega) (by omega);have h0:(Str.empty).length=0:=by decide +kernel
    have g0:(Str.ofString "word ").length=5:=by decide +kernel
    have g2:(Str.ofString " can't stand").length=12:=by decide +kernel
    walk_at "w";refine Dn ?_;walk_at "w";refine AK ?_;walk_at "w";refine ⟨_,rfl,?_,?_⟩
    · rw [strLen_append];omega
    refine AK ?_;refine CI ?_;walk_at "w";refine .inl ⟨_,rfl,Bw b0,_,rfl,?_,?_⟩
    · rw [strLen_append,strLen_append];omega
    refine AK ?_;walk_at "w";refine ⟨_,rfl,?_,?_⟩
    · rw [strLen_append,strLen_append,strLen_append];omega
    refine Co ?_;walk_at "w";obtain ⟨fi,hfi⟩:=T.xj_BadWord;refine ⟨a,_,_,fi,_,rfl,ha,hfi,?_⟩;dsimp only;refine BK ?_;walk_at "w";refine ⟨a,_,_,rfl,ha,T.xs_BadWord,A8 T.xf_BadWord_place, .inl ⟨rfl,λ dx hdx=> ?_⟩⟩;have nd:dx≠a:=λ z=>by rw [z,ha] at hdx;cases hdx
    refine k dx _ hdx (λ b o e nb=> ?_) Ac ?_
    · have n2:b≠dx:=λ z=>by rw [z,hdx] at e;cases e
      rw [Af nb,Af n2];exact e
    · rw [Af nd,Ac]
theorem FS {c:Cs} {H:Hp} {R:Addr->Option Addr->Hp->Prop} {n0:Nat} (b0:n0<1000) (h:∀ a dx H',H a=none->Same H (upd H' a (A7 a c.BadWord (some dx)))->upd H' a (A7 a c.BadWord (some dx)) dx=some (xdO dx [("place",nV n0)])->R a (some dx) H'):
    ([nV n0]:List V).length<=900/\∀ a,H a=none->Eh c (.ref a::[nV n0]) (upd H a (xnO a c.BadWord none)) (λ v H2=>v= .non/\∃ od,H2 a=some (xnO a c.BadWord od)/\R a od H2) E0:=by
  refine ⟨by simp,λ a ha=>⟨a,n0,rfl,Ac,b0,λ dx H' hdx kp ea ed=>⟨rfl,some dx,ea,?_⟩⟩⟩;have nd:dx≠a:=λ z=>by rw [z,Ac] at hdx;cases hdx
  refine h a dx _ ha (λ b o e=> ?_) (by rw [Af nd];exact ed);have nb:b≠a:=λ z=>by rw [z,ha] at e;cases e
  rw [Af nb];exact kp b o (by rw [Af nb];exact e) nb
structure KindF (K:PySem.W.Frag) (c:Cs) (C:Addr) (j:Nat):Prop where
  lt:j<8
  xk:HT.ExcKind K C
  k0:PySem.W.kitOne K (.ref C) (.ref c.BadRow)=some (decide (j=0))
  k1:PySem.W.kitOne K (.ref C) (.ref c.BadWord)=some (decide (j=1))
  k2:PySem.W.kitOne K (.ref C) (.ref c.TooMany)=some (decide (j=2))
  k3:PySem.W.kitOne K (.ref C) (.ref c.NotPlain)=some (decide (j=3))
  k4:PySem.W.kitOne K (.ref C) (.ref c.NotGrown)=some (decide (j=4))
  k5:PySem.W.kitOne K (.ref C) (.ref c.BadDraft)=some (decide (j=5))
  k6:PySem.W.kitOne K (.ref C) (.ref c.BadCloth)=some (decide (j=6))
  k7:PySem.W.kitOne K (.ref C) (.ref c.OutOfPlace)=some (decide (j=7))
  kv:PySem.W.kitOne K (.ref C) (.type "ValueError")=some true
def nmK (j:Nat):Str:=[("row":Str),("word":Str),("many":Str),("plain":Str),("grown":Str),("draft":Str),("cloth":Str),("place":Str),("other":Str)].getD j ""
def B8 (K:PySem.W.Frag) (c:Cs):Sp:=λ vs H Q _=>∃ a C od j,vs=[.ref a]/\H a=some (A7 a C od)/\KindF K c C j/\∀ H' l,Same H H'->H l=none->H' l=some (.lst [.str (nmK j)])->Q (.ref l) H'
theorem Pp (j:Nat) (h:j<8):((List.range 9).filter λ i=>decide (i=j)).map (λ i=>Dt.str (nmK i))=[nmK j].map Dt.str:=by
  match j,h with
  | 0,_=>rfl
  | 1,_=>rfl
  | 2,_=>rfl
  | 3,_=>rfl
  | 4,_=>rfl
  | 5,_=>rfl
  | 6,_=>rfl
  | 7,_=>rfl
abbrev Cu:Stmt:=top 29
theorem sc__law_kinds:FnScope ["_law_error","_law_kinds_here"] ["_law_error"] (Al Cu):=⟨rfl,rfl,rfl,by decide +kernel,rfl,by decide +kernel,by decide +kernel⟩
theorem Gk {f:Addr} {fd:FuncData} (F:Fun K "_law_kinds" "_law_kinds" Cu f fd) (T:Txt K mg c):FnOk P w K mg base CX0 1 f fd ["_law_error"] (B8 K c):=by
  refine F.ok sc__law_kinds (λ vs H Q E h=> ?_) (λ cdv A outer s H vs Q E hr h=> ?_)
  · obtain ⟨a,C,od,j,rfl,_⟩:=h;rfl
  · obtain ⟨a,C,od,j,rfl,ha,F1,k⟩:=h;refine ⟨_,(Ad (Aw (i:=1) sc__law_kinds.nd rfl (Or.inl rfl) (Av (Aa (Bk (Aa An (Aa (Ak (BJ (K:=K)) rfl (T.own _ (by decide)) boot_isinstance (Aa (pv 0) (Aa (E4 T.g_BadRow) Ab))) Ab))) (Aa (Bk (Aa An (Aa (Ak (BJ (K:=K)) rfl (T.own _ (by decide)) boot_isinstance (Aa (pv 0) (Aa (E4 T.g_BadWord) Ab))) Ab))) Ab))))
      (Ad (Aw (i:=1) sc__law_kinds.nd rfl (Or.inl rfl) (Ao (EW (K:=K)) (pv 1) (Av (Aa (Bk (Aa An (Aa (Ak (BJ (K:=K)) rfl (T.own _ (by decide)) boot_isinstance (Aa (pv 0) (Aa (E4 T.g_TooMany) Ab))) Ab))) (Aa (Bk (Aa An (Aa (Ak (BJ (K:=K)) rfl (T.own _ (by decide)) boot_isinstance (Aa (pv 0) (Aa (E4 T.g_NotPlain) Ab))) Ab))) Ab)))))
      (Ad (Aw (i:=1) sc__law_kinds.nd rfl (Or.inl rfl) (Ao (EW (K:=K)) (pv 1) (Av (Aa (Bk (Aa An (Aa (Ak (BJ (K:=K)) rfl (T.own _ (by decide)) boot_isinstance (Aa (pv 0) (Aa (E4 T.g_NotGrown) Ab))) Ab))) (Aa (Bk (Aa An (Aa (Ak (BJ (K:=K)) rfl (T.own _ (by decide)) boot_isinstance (Aa (pv 0) (Aa (E4 T.g_BadDraft) Ab))) Ab))) Ab)))))
      (Ad (Aw (i:=1) sc__law_kinds.nd rfl (Or.inl rfl) (Ao (EW (K:=K)) (pv 1) (Av (Aa (Bk (Aa An (Aa (Ak (BJ (K:=K)) rfl (T.own _ (by decide)) boot_isinstance (Aa (pv 0) (Aa (E4 T.g_BadCloth) Ab))) Ab))) (Aa (Bk (Aa An (Aa (Ak (BJ (K:=K)) rfl (T.own _ (by decide)) boot_isinstance (Aa (pv 0) (Aa (E4 T.g_OutOfPlace) Ab))) Ab))) Ab)))))
      (Ad (Aw (i:=1) sc__law_kinds.nd rfl (Or.inl rfl) (Ao (EW (K:=K)) (pv 1) (Av (Aa (Bk (Aa An (Aa (Ml (Ak (BJ (K:=K)) rfl (T.own _ (by decide)) boot_isinstance (Aa (pv 0) (Aa (Bo rfl (T.own _ (by decide)) Fa) Ab)))) Ab))) Ab))))
      (Ai (Au (Ft (K:=K) (BH (K:=K) (pv 1)) (λ _ _ _ _=>(Jx (By (pv 1)))) (λ _ _ _ _=>(pv 0)))))))))),?_⟩
    walk_at "w";refine BB ((Same.refl H) _ _ ha) F1.xk F1.k0 ?_;walk_at "w";intro t_row ht_row;have z1:=Ag (o:=HO.tup [V.str "row",V.bl (decide (j=0))]) ht_row;have g_t_row:upd H t_row (HO.tup [V.str "row",V.bl (decide (j=0))]) t_row=_:=Ac;generalize upd H t_row (HO.tup [V.str "row",V.bl (decide (j=0))])=H1 at z1 g_t_row ⊢;have y1:Same H H1:=(Same.refl H).trans z1;walk_at "w";refine BB (y1 _ _ ha) F1.xk F1.k1 ?_;walk_at "w";intro t_word ht_word;have z2:=Ag (o:=HO.tup [V.str "word",V.bl (decide (j=1))]) ht_word;have g_t_word:upd H1 t_word (HO.tup [V.str "word",V.bl (decide (j=1))]) t_word=_:=Ac;generalize upd H1 t_word (HO.tup [V.str "word",V.bl (decide (j=1))])=H2 at z2 g_t_word ⊢;have y2:Same H H2:=y1.trans z2;walk_at "w";intro l0 hl0;have z3:=Ag (o:=HO.lst [V.ref t_row,V.ref t_word]) hl0;have g_l0:upd H2 l0 (HO.lst [V.ref t_row,V.ref t_word]) l0=_:=Ac;generalize upd H2 l0 (HO.lst [V.ref t_row,V.ref t_word])=H3 at z3 g_l0 ⊢;have y3:Same H H3:=y2.trans z3;walk_at "w";refine BB (y3 _ _ ha) F1.xk F1.k2 ?_;walk_at "w";intro t_many ht_many;have z4:=Ag (o:=HO.tup [V.str "many",V.bl (decide (j=2))]) ht_many;have g_t_many:upd H3 t_many (HO.tup [V.str "many",V.bl (decide (j=2))]) t_many=_:=Ac;generalize upd H3 t_many (HO.tup [V.str "many",V.bl (decide (j=2))])=H4 at z4 g_t_many ⊢;have y4:Same H H4:=y3.trans z4;walk_at "w";refine BB (y4 _ _ ha) F1.xk F1.k3 ?_;walk_at "w";intro t_plain ht_plain;have z5:=Ag (o:=HO.tup [V.str "plain",V.bl (decide (j=3))]) ht_plain;have g_t_plain:upd H4 t_plain (HO.tup [V.str "plain",V.bl (decide (j=3))]) t_plain=_:=Ac;generalize upd H4 t_plain (HO.tup [V.str "plain",V.bl (decide (j=3))])=H5 at z5 g_t_plain ⊢;have y5:Same H H5:=y4.trans z5;walk_at "w";intro l1 hl1;have z6:=Ag (o:=HO.lst [V.ref t_many,V.ref t_plain]) hl1;have g_l1:upd H5 l1 (HO.lst [V.ref t_many,V.ref t_plain]) l1=_:=Ac;generalize upd H5 l1 (HO.lst [V.ref t_many,V.ref t_plain])=H6 at z6 g_l1 ⊢;have y6:Same H H6:=y5.trans z6;walk_at "w";refine Ds (SqL.of (z6 _ _ (z5 _ _ (z4 _ _ g_l0)))) (SqL.of g_l1) (by simp) λ m1 hm1=> ?_;have z7:=Ag (o:=HO.lst ([V.ref t_row,V.ref t_word]++[V.ref t_many,V.ref t_plain])) hm1;have g_m1:upd H6 m1 (HO.lst ([V.ref t_row,V.ref t_word]++[V.ref t_many,V.ref t_plain])) m1=some (.lst [V.ref t_row,V.ref t_word,V.ref t_many,V.ref t_plain]):=Ac;generalize upd H6 m1 (HO.lst ([V.ref t_row,V.ref t_word]++[V.ref t_many,V.ref t_plain]))=H7 at z7 g_m1 ⊢;have y7:Same H H7:=y6.trans z7;walk_at "w";refine BB (y7 _ _ ha) F1.xk F1.k4 ?_;walk_at "w";intro t_grown ht_grown;have z8:=Ag (o:=HO.tup [V.str "grown",V.bl (decide (j=4))]) ht_grown;have g_t_grown:upd H7 t_grown (HO.tup [V.str "grown",V.bl (decide (j=4))]) t_grown=_:=Ac;generalize upd H7 t_grown (HO.tup [V.str "grown",V.bl (decide (j=4))])=H8 at z8 g_t_grown ⊢;have y8:Same H H8:=y7.trans z8;walk_at "w";refine BB (y8 _ _ ha) F1.xk F1.k5 ?_;walk_at "w";intro t_draft ht_draft;have z9:=Ag (o:=HO.tup [V.str "draft",V.bl (decide (j=5))]) ht_draft;have g_t_draft:upd H8 t_draft (HO.tup [V.str "draft",V.bl (decide (j=5))]) t_draft=_:=Ac;generalize upd H8 t_draft (HO.tup [V.str "draft",V.bl (decide (j=5))])=H9 at z9 g_t_draft ⊢;have y9:Same H H9:=y8.trans z9;walk_at "w";intro l2 hl2;have z10:=Ag (o:=HO.lst [V.ref t_grown,V.ref t_draft]) hl2;have g_l2:upd H9 l2 (HO.lst [V.ref t_grown,V.ref t_draft]) l2=_:=Ac;generalize upd H9 l2 (HO.lst [V.ref t_grown,V.ref t_draft])=H10 at z10 g_l2 ⊢;have y10:Same H H10:=y9.trans z10;walk_at "w";refine Ds (SqL.of (z10 _ _ (z9 _ _ (z8 _ _ g_m1)))) (SqL.of g_l2) (by simp) λ m2 hm2=> ?_;have z11:=Ag (o:=HO.lst ([V.ref t_row,V.ref t_word,V.ref t_many,V.ref t_plain]++[V.ref t_grown,V.ref t_draft])) hm2;have g_m2:upd H10 m2 (HO.lst ([V.ref t_row,V.ref t_word,V.ref t_many,V.ref t_plain]++[V.ref t_grown,V.ref t_draft])) m2=some (.lst [V.ref t_row,V.ref t_word,V.ref t_many,V.ref t_plain,V.ref t_grown,V.ref t_draft]):=Ac;generalize upd H10 m2 (HO.lst ([V.ref t_row,V.ref t_word,V.ref t_many,V.ref t_plain]++[V.ref t_grown,V.ref t_draft]))=H11 at z11 g_m2 ⊢;have y11:Same H H11:=y10.trans z11;walk_at "w";refine BB (y11 _ _ ha) F1.xk F1.k6 ?_;walk_at "w";intro t_cloth ht_cloth;have z12:=Ag (o:=HO.tup [V.str "cloth",V.bl (decide (j=6))]) ht_cloth;have g_t_cloth:upd H11 t_cloth (HO.tup [V.str "cloth",V.bl (decide (j=6))]) t_cloth=_:=Ac;generalize upd H11 t_cloth (HO.tup [V.str "cloth",V.bl (decide (j=6))])=H12 at z12 g_t_cloth ⊢;have y12:Same H H12:=y11.trans z12;walk_at "w";refine BB (y12 _ _ ha) F1.xk F1.k7 ?_;walk_at "w";intro t_place ht_place;have z13:=Ag (o:=HO.tup [V.str "place",V.bl (decide (j=7))]) ht_place;have g_t_place:upd H12 t_place (HO.tup [V.str "place",V.bl (decide (j=7))]) t_place=_:=Ac;generalize upd H12 t_place (HO.tup [V.str "place",V.bl (decide (j=7))])=H13 at z13 g_t_place ⊢;have y13:Same H H13:=y12.trans z13;walk_at "w";intro l3 hl3;have z14:=Ag (o:=HO.lst [V.ref t_cloth,V.ref t_place]) hl3;have g_l3:upd H13 l3 (HO.lst [V.ref t_cloth,V.ref t_place]) l3=_:=Ac;generalize upd H13 l3 (HO.lst [V.ref t_cloth,V.ref t_place])=H14 at z14 g_l3 ⊢;have y14:Same H H14:=y13.trans z14;walk_at "w";refine Ds (SqL.of (z14 _ _ (z13 _ _ (z12 _ _ g_m2)))) (SqL.of g_l3) (by simp) λ m3 hm3=> ?_;have z15:=Ag (o:=HO.lst ([V.ref t_row,V.ref t_word,V.ref t_many,V.ref t_plain,V.ref t_grown,V.ref t_draft]++[V.ref t_cloth,V.ref t_place])) hm3;have g_m3:upd H14 m3 (HO.lst ([V.ref t_row,V.ref t_word,V.ref t_many,V.ref t_plain,V.ref t_grown,V.ref t_draft]++[V.ref t_cloth,V.ref t_place])) m3=some (.lst [V.ref t_row,V.ref t_word,V.ref t_many,V.ref t_plain,V.ref t_grown,V.ref t_draft,V.ref t_cloth,V.ref t_place]):=Ac;generalize upd H14 m3 (HO.lst ([V.ref t_row,V.ref t_word,V.ref t_many,V.ref t_plain,V.ref t_grown,V.ref t_draft]++[V.ref t_cloth,V.ref t_place]))=H15 at z15 g_m3 ⊢;have y15:Same H H15:=y14.trans z15;walk_at "w";refine Kc (y15 _ _ ha) F1.xk F1.kv ?_;walk_at "w";intro t_other ht_other;have z16:=Ag (o:=HO.tup [V.str "other",V.bl (!true)]) ht_other;have g_t_other:upd H15 t_other (HO.tup [V.str "other",V.bl (!true)]) t_other=some (.tup [V.str "other",V.bl false]):=Ac;generalize upd H15 t_other (HO.tup [V.str "other",V.bl (!true)])=H16 at z16 g_t_other ⊢;have y16:Same H H16:=y15.trans z16;walk_at "w";intro l4 hl4;have z17:=Ag (o:=HO.lst [V.ref t_other]) hl4;have g_l4:upd H16 l4 (HO.lst [V.ref t_other]) l4=_:=Ac;generalize upd H16 l4 (HO.lst [V.ref t_other])=H17 at z17 g_l4 ⊢;have y17:Same H H17:=y16.trans z17;walk_at "w";refine Ds (SqL.of (z17 _ _ (z16 _ _ g_m3))) (SqL.of g_l4) (by simp) λ m4 hm4=> ?_;have z18:=Ag (o:=HO.lst ([V.ref t_row,V.ref t_word,V.ref t_many,V.ref t_plain,V.ref t_grown,V.ref t_draft,V.ref t_cloth,V.ref t_place]++[V.ref t_other])) hm4;have g_m4:upd H17 m4 (HO.lst ([V.ref t_row,V.ref t_word,V.ref t_many,V.ref t_plain,V.ref t_grown,V.ref t_draft,V.ref t_cloth,V.ref t_place]++[V.ref t_other])) m4=some (.lst [V.ref t_row,V.ref t_word,V.ref t_many,V.ref t_plain,V.ref t_grown,V.ref t_draft,V.ref t_cloth,V.ref t_place,V.ref t_other]):=Ac;generalize upd H17 m4 (HO.lst ([V.ref t_row,V.ref t_word,V.ref t_many,V.ref t_plain,V.ref t_grown,V.ref t_draft,V.ref t_cloth,V.ref t_place]++[V.ref t_other]))=H18 at z18 g_m4 ⊢;have y18:Same H H18:=y17.trans z18;walk_at "w";refine ⟨m4,rfl,⟨_,SqL.of g_m4⟩,λ D hD=> ?_⟩;have pr:∀ i,i<9->∃ b,[V.ref t_row,V.ref t_word,V.ref t_many,V.ref t_plain,V.ref t_grown,V.ref t_draft,V.ref t_cloth,V.ref t_place,V.ref t_other].getD i V.non= .ref b/\H18 b=some (.tup [([(V.str "row",V.bl (decide (j=0))),(V.str "word",V.bl (decide (j=1))),(V.str "many",V.bl (decide (j=2))),(V.str "plain",V.bl (decide (j=3))),(V.str "grown",V.bl (decide (j=4))),(V.str "draft",V.bl (decide (j=5))),(V.str "cloth",V.bl (decide (j=6))),(V.str "place",V.bl (decide (j=7))),(V.str "other",V.bl false)].getD i (V.non,V.non)).1,([(V.str "row",V.bl (decide (j=0))),(V.str "word",V.bl (decide (j=1))),(V.str "many",V.bl (decide (j=2))),(V.str "plain",V.bl (decide (j=3))),(V.str "grown",V.bl (decide (j=4))),(V.str "draft",V.bl (decide (j=5))),(V.str "cloth",V.bl (decide (j=6))),(V.str "place",V.bl (decide (j=7))),(V.str "other",V.bl false)].getD i (V.non,V.non)).2]):=by
      intro i hi
      match i,hi with
      | 0,_=>exact ⟨t_row,rfl,(z18 _ _ (z17 _ _ (z16 _ _ (z15 _ _ (z14 _ _ (z13 _ _ (z12 _ _ (z11 _ _ (z10 _ _ (z9 _ _ (z8 _ _ (z7 _ _ (z6 _ _ (z5 _ _ (z4 _ _ (z3 _ _ (z2 _ _ g_t_row)))))))))))))))))⟩
      | 1,_=>exact ⟨t_word,rfl,(z18 _ _ (z17 _ _ (z16 _ _ (z15 _ _ (z14 _ _ (z13 _ _ (z12 _ _ (z11 _ _ (z10 _ _ (z9 _ _ (z8 _ _ (z7 _ _ (z6 _ _ (z5 _ _ (z4 _ _ (z3 _ _ g_t_word))))))))))))))))⟩
      | 2,_=>exact ⟨t_many,rfl,(z18 _ _ (z17 _ _ (z16 _ _ (z15 _ _ (z14 _ _ (z13 _ _ (z12 _ _ (z11 _ _ (z10 _ _ (z9 _ _ (z8 _ _ (z7 _ _ (z6 _ _ (z5 _ _ g_t_many))))))))))))))⟩
      | 3,_=>exact ⟨t_plain,rfl,(z18 _ _ (z17 _ _ (z16 _ _ (z15 _ _ (z14 _ _ (z13 _ _ (z12 _ _ (z11 _ _ (z10 _ _ (z9 _ _ (z8 _ _ (z7 _ _ (z6 _ _ g_t_plain)))))))))))))⟩
      | 4,_=>exact ⟨t_grown,rfl,(z18 _ _ (z17 _ _ (z16 _ _ (z15 _ _ (z14 _ _ (z13 _ _ (z12 _ _ (z11 _ _ (z10 _ _ (z9 _ _ g_t_grown))))))))))⟩
      | 5,_=>exact ⟨t_draft,rfl,(z18 _ _ (z17 _ _ (z16 _ _ (z15 _ _ (z14 _ _ (z13 _ _ (z12 _ _ (z11 _ _ (z10 _ _ g_t_draft)))))))))⟩
      | 6,_=>exact ⟨t_cloth,rfl,(z18 _ _ (z17 _ _ (z16 _ _ (z15 _ _ (z14 _ _ (z13 _ _ g_t_cloth))))))⟩
      | 7,_=>exact ⟨t_place,rfl,(z18 _ _ (z17 _ _ (z16 _ _ (z15 _ _ (z14 _ _ g_t_place)))))⟩
      | 8,_=>exact ⟨t_other,rfl,(z18 _ _ (z17 _ _ g_t_other))⟩
    have lt:=F1.lt;refine EO (m:=0) (p:=λ i=>decide (i=j)) (G:=λ i=> .str (nmK i)) (KG (ps:=[(V.str "row",V.bl (decide (j=0))),(V.str "word",V.bl (decide (j=1))),(V.str "many",V.bl (decide (j=2))),(V.str "plain",V.bl (decide (j=3))),(V.str "grown",V.bl (decide (j=4))),(V.str "draft",V.bl (decide (j=5))),(V.str "cloth",V.bl (decide (j=6))),(V.str "place",V.bl (decide (j=7))),(V.str "other",V.bl false)]) (SqL.of g_m4) pr rfl rfl) hD (by simp) ?_ ?_ ?_
    · intro i H' R hi s kk;have hi9:i<9:=hi
      match i,hi9 with
      | 0,_=>walk_at "w";exact ⟨_,rfl,by have e:decide (j=0)=decide (0=j):=decide_eq_decide.mpr eq_comm;rw [e];exact kk H' (Same.refl _)⟩
      | 1,_=>walk_at "w";exact ⟨_,rfl,by have e:decide (j=1)=decide (1=j):=decide_eq_decide.mpr eq_comm;rw [e];exact kk H' (Same.refl _)⟩
      | 2,_=>walk_at "w";exact ⟨_,rfl,by have e:decide (j=2)=decide (2=j):=decide_eq_decide.mpr eq_comm;rw [e];exact kk H' (Same.refl _)⟩
      | 3,_=>walk_at "w";exact ⟨_,rfl,by have e:decide (j=3)=decide (3=j):=decide_eq_decide.mpr eq_comm;rw [e];exact kk H' (Same.refl _)⟩
      | 4,_=>walk_at "w";exact ⟨_,rfl,by have e:decide (j=4)=decide (4=j):=decide_eq_decide.mpr eq_comm;rw [e];exact kk H' (Same.refl _)⟩
      | 5,_=>walk_at "w";exact ⟨_,rfl,by have e:decide (j=5)=decide (5=j):=decide_eq_decide.mpr eq_comm;rw [e];exact kk H' (Same.refl _)⟩
      | 6,_=>walk_at "w";exact ⟨_,rfl,by have e:decide (j=6)=decide (6=j):=decide_eq_decide.mpr eq_comm;rw [e];exact kk H' (Same.refl _)⟩
      | 7,_=>walk_at "w";exact ⟨_,rfl,by have e:decide (j=7)=decide (7=j):=decide_eq_decide.mpr eq_comm;rw [e];exact kk H' (Same.refl _)⟩
      | 8,_=>walk_at "w";exact ⟨_,rfl,by have e:false=decide (8=j):=(decide_eq_false (by omega)).symm;rw [e];exact kk H' (Same.refl _)⟩
    · intro i H' R hi hp s kk;have hi9:i<9:=hi
      match i,hi9 with
      | 0,_=>walk_at "w";exact kk H' _ (Same.refl _) (.str _)
      | 1,_=>walk_at "w";exact kk H' _ (Same.refl _) (.str _)
      | 2,_=>walk_at "w";exact kk H' _ (Same.refl _) (.str _)
      | 3,_=>walk_at "w";exact kk H' _ (Same.refl _) (.str _)
      | 4,_=>walk_at "w";exact kk H' _ (Same.refl _) (.str _)
      | 5,_=>walk_at "w";exact kk H' _ (Same.refl _) (.str _)
      | 6,_=>walk_at "w";exact kk H' _ (Same.refl _) (.str _)
      | 7,_=>walk_at "w";exact kk H' _ (Same.refl _) (.str _)
      | 8,_=>walk_at "w";exact kk H' _ (Same.refl _) (.str _)
    · intro H' ys s hl r;have e9:=Pp j lt;have r:Rp _ _ _ _ (.lst (((List.range 9).filter λ i=>decide (i=j)).map (λ i=>Dt.str (nmK i)))):=r;rw [e9] at r;obtain ⟨b,eb,hb,_⟩:=Iw (zs:=[nmK j]) r;cases eb;exact k H' D (y18.trans s) (y18.free hD) hb
def Da (c:Cs):Sp:=λ vs H Q _=>∃ x d,vs=[.ref x]/\DrAt c.Draft H x d/\Q (nV d.td.length) H
abbrev Cc:Stmt:=AR (top 26) 3
theorem FP:FnScope ["self"] ["self"] (Al Cc):=⟨rfl,rfl,rfl,by decide +kernel,rfl,by decide +kernel,by decide +kernel⟩
theorem FO {f:Addr} {fd:FuncData} (F:Fun K "picks" "Draft.picks" Cc f fd) (T:Txt K mg c):FnOk P w K mg base CX0 1 f fd ["self"] (Da c):=by
  refine F.ok FP (λ vs H Q E h=> ?_) (λ cdv A outer s H vs Q E hr h=> ?_)
  · obtain ⟨x,d,rfl,_⟩:=h;rfl
  · obtain ⟨x,d,rfl,⟨dx,v1,v2,v3,v4,v5,h0,h1,h2,h3,h4,h5⟩,k⟩:=h;obtain ⟨m3,a3,vs3,em3,rfl,e3,l3,b3,el3⟩:=IL h3;refine ⟨_,(Ai (Au (Ak (CQ (K:=K)) rfl (T.own _ (by decide)) boot_len (Aa (Ex (K:=K) (pv 0) rfl) Ab)))),?_⟩;walk_at "w";refine ⟨_,_,_,_,_,rfl,h0,T.kd_Draft.cl,T.na_Draft_treading,rfl,?_⟩;walk_at "w";refine He (SqT.of e3) ?_;rw [l3,List.length_map];exact k
def Ce (K:PySem.W.Frag) (c:Cs):Sp:=λ vs H Q E=>∃ (a:Addr) (v0 v1 v2 v3 v4 v5 v6:V),vs=[.ref a]/\(SqL K H a [v0,v1,v2,v3,v4,v5,v6]\/SqT K H a [v0,v1,v2,v3,v4,v5,v6])/\
  ((PTh H v0 v1 v2 v3 v4 v5 v6/\drB H v0 v1 v2 v3 v4 v5 v6=false/\∀ H',Same H H'->E (.ref c.BadDraft) none H')\/
  (∃ d,Parts H d [v0,v1,v2,v3,v4,v5,v6]/\DrOk d/\∀ H' x,Same H H'->H x=none->DrAt c.Draft H' x d->Q (.ref x) H'))
abbrev C4:Stmt:=top 36
theorem sc__law_made:FnScope ["_law_parts","_law_shafts","_law_treadles","_law_threading","_law_ties","_law_treading","_law_warp","_law_weft"] ["_law_parts"] (Al C4):=⟨rfl,rfl,rfl,by decide +kernel,rfl,by decide +kernel,by decide +kernel⟩
theorem GZ {f:Addr} {fd:FuncData} (F:Fun K "_law_made" "_law_made" C4 f fd) (T:Txt K mg c) (m_Draft:Lg P w K mg base "Draft" c.Draft 6 ["self","shafts","treadles","threading","ties","treading","warp","weft"] (A9 c)):FnOk P w K mg base (CXE P w) 8 f fd ["_law_parts"] (Ce K c):=by
  refine Fun.okE F sc__law_made (λ vs H Q E h=> ?_) (λ cdv A outer s H vs Q E hr h=> ?_)
  · obtain ⟨a,v0,v1,v2,v3,v4,v5,v6,rfl,_⟩:=h;rfl
  · obtain ⟨a,v0,v1,v2,v3,v4,v5,v6,rfl,ha,h⟩:=h;refine ⟨_,(Ad (EU (pv 0) (OI (K:=K) rfl (Br (Bj (i:=1) sc__law_made.nd rfl (Or.inl rfl)) (Br (Bj (i:=2) sc__law_made.nd rfl (Or.inl rfl)) (Br (Bj (i:=3) sc__law_made.nd rfl (Or.inl rfl)) (Br (Bj (i:=4) sc__law_made.nd rfl (Or.inl rfl)) (Br (Bj (i:=5) sc__law_made.nd rfl (Or.inl rfl)) (Br (Bj (i:=6) sc__law_made.nd rfl (Or.inl rfl)) (Br (Bj (i:=7) sc__law_made.nd rfl (Or.inl rfl)) J1)))))))))
      (Ai (Au (KY m_Draft hr CS (Aa (pv 1) (Aa (pv 2) (Aa (pv 3) (Aa (pv 4) (Aa (pv 5) (Aa (pv 6) (Aa (pv 7) Ab))))))))))),?_⟩
    walk_at "w";refine ⟨a,_,rfl,ha,rfl,?_⟩;walk_at "w";rcases h with ⟨pt,db,k⟩ | ⟨d,ps,ok,k⟩
    · refine Ic ?_;walk_at "w";exact NQ pt db k
    · refine Ic ?_;walk_at "w";exact L9 ps ok k
theorem Hz {c:Cs} (T:Txt K mg c):KindF K c c.BadDraft 5:=⟨by decide,T.xk_BadDraft,T.ki_BadDraft_BadRow,T.ki_BadDraft_BadWord,T.ki_BadDraft_TooMany,T.ki_BadDraft_NotPlain,T.ki_BadDraft_NotGrown,T.ki_BadDraft_BadDraft,T.ki_BadDraft_BadCloth,T.ki_BadDraft_OutOfPlace,T.ki_BadDraft_ValueError⟩
def CZ (K:PySem.W.Frag):Sp:=λ vs H Q _=>∃ (a:Addr) (v0 v1 v2 v3 v4 v5 v6:V),vs=[.ref a]/\SqL K H a [v0,v1,v2,v3,v4,v5,v6]/\PTh H v0 v1 v2 v3 v4 v5 v6/\drB H v0 v1 v2 v3 v4 v5 v6=false/\∀ H',Same H H'->Q (.bl true) H'
abbrev BZ:Stmt:=top 39
theorem sc__law_refused:FnScope ["_law_parts","_law_wrong_here","e"] ["_law_parts"] (Al BZ):=⟨rfl,rfl,rfl,by decide +kernel,rfl,by decide +kernel,by decide +kernel⟩
theorem Ff {f:Addr} {fd:FuncData} (F:Fun K "_law_refused" "_law_refused" BZ f fd) (T:Txt K mg c) (c__law_made:CallE P w K mg base "_law_made" 8 ["_law_parts"] (Ce K c)) (c__law_kinds:CallF P w K mg base "_law_kinds" 1 ["_law_error"] (B8 K c)):FnOk P w K mg base CX0 9 f fd ["_law_parts"] (CZ K):=by
  refine F.ok sc__law_refused (λ vs H Q E h=> ?_) (λ cdv A outer s H vs Q E hr h=> ?_)
  · obtain ⟨a,v0,v1,v2,v3,v4,v5,v6,rfl,_⟩:=h;rfl
  · obtain ⟨a,v0,v1,v2,v3,v4,v5,v6,rfl,ha,pt,db,k⟩:=h;have hu:=hr.units0;refine ⟨_,(Ad (Aw (i:=1) sc__law_refused.nd rfl (Or.inl rfl) Cy)
      (Ad (Pu (j:=2) rfl rfl T.g_LoomError sc__law_refused.nd rfl rfl (λ _ _ _ hp=>(Ai (AF (A1 c__law_made hr hp (Aa (pv 0) Ab))))) (λ _ _=>(Ai (Aw (i:=1) sc__law_refused.nd rfl (Or.inl rfl) (pv 2)))))
      (Ai (Au (B1 (BL Nl (pv 1) Cy (AN _)) (CK (BL (Oj hu (K:=K)) (Aj c__law_kinds (hr.mono (by decide)) (Aa (pv 1) Ab)) (Av (Aa An Ab)) (AN _)))))))),?_⟩
    walk_at "w";refine O0 ?_;generalize eE:NU _ _ _ _ _ _=E';have fin:∀ H1,Same H H1->E' (.ref c.BadDraft) none H1:=λ H1 s1=>by
      rw [<-eE];refine ⟨_,rfl,T.xm_BadDraft_LoomError,λ q σ hq hl=> ?_⟩;obtain ⟨x0,x1,x2,rfl⟩:∃ x0 x1 x2,σ=[x0,x1,x2]:=by
        match σ,hl with
        | [x0,x1,x2],_=>exact ⟨x0,x1,x2,rfl⟩
      have s2:=Ag (o:=A7 q c.BadDraft none) hq;walk_at "w";refine PR ?_;walk_at "w";refine ⟨rfl,?_⟩;walk_at "w";rw [show (!decide (V.ref q=V.non))=true by rw [decide_eq_false (by intro y;cases y)];rfl];refine Dj ?_;walk_at "w";refine ⟨q,_,none,5,rfl,Ac,Hz T,λ H2 l s3 hl2 g2=> ?_⟩;walk_at "w";intro p5 hp5;have s5:=Ag (o:=HO.lst [V.str "draft"]) hp5;refine NJ (as:=["draft"]) (bs:=["draft"]) (SqL.of (s5 _ _ g2)) (SqL.of Ac) ?_;exact k _ (s1.trans (s2.trans (s3.trans s5)))
    clear k eE;walk_at "w";exact ⟨a,v0,v1,v2,v3,v4,v5,v6,rfl, .inl ha, .inl ⟨pt,db,fin⟩⟩
structure OddV (H:Hp) (v:V):Prop where
  th:Th H v
  ov:Ov H v
  am:Ax v 1 16=false
  ls:As H v=none\/As H v=some []\/As H v=some [.non]
theorem LY {H:Hp} {F:Addr->Prop} {n:Nat} {x:V} {e:Dt} (r:Rp H F n x e) (i:Nat) (v:V) (d:Dt) (h1:[x][i]?=some v) (h2:[e][i]?=some d):Rp H F n v d:=by
  cases i with
  | zero=>cases h1;cases h2;exact r
  | succ i=>simp at h1
theorem MH (n:Nat):Ax (.int (10 ^ (30:Int).toNat+(n:Nat))) 1 16=false:=by
  show (decide ((1:Int)<=_)&&decide (10 ^ (30:Int).toNat+((n:Nat):Int)<=16))=false;rw [Bool.and_eq_false_iff];refine .inr (decide_eq_false ?_);have:(10:Int) ^ (30:Int).toNat=1000000000000000000000000000000:=by decide
  omega
def E6:Sp:=λ vs H Q _=>∃ n:Nat,vs=[nV n]/\∀ H' v,Same H H'->OddV H' v->Q v H'
abbrev Eg:Stmt:=top 37
theorem Ir:FnScope ["_law_number"] ["_law_number"] (Al Eg):=⟨rfl,rfl,rfl,by decide +kernel,rfl,by decide +kernel,by decide +kernel⟩
theorem IA {f:Addr} {fd:FuncData} (F:Fun K "_law_odd" "_law_odd" Eg f fd) (T:Txt K mg c):FnOk P w K mg base CX0 1 f fd ["_law_number"] E6:=by
  refine F.ok Ir (λ vs H Q E h=> ?_) (λ cdv A outer s H vs Q E hr h=> ?_)
  · obtain ⟨n,rfl,_⟩:=h;rfl
  · obtain ⟨n,rfl,k⟩:=h;refine ⟨_,(Ai (Au (A5 (Bh (K:=K)) (Av (Aa Cy (Aa B7 (Aa An (Aa (Av (Aa Cy Ab)) (Aa (Bk (Aa Ae Ab)) (Aa FZ (Aa (N7 LR Ae) (Aa Ae (Aa (Av Ab) (Aa An (Aa B7 (Aa An (Aa An (Aa (Ao AZ (Ao LT Ae Ae) (pv 0)) Ab))))))))))))))) (Ao AJ (pv 0) Ae) (λ _ _=>rfl)))),?_⟩;walk_at "w";row_lines H x1;walk_at "w";row_lines H1 x2;walk_at "w";row_lines H2 x3;walk_at "w";row_lines H3 x4;walk_at "w";refine AH ⟨by decide,by decide,by decide⟩ ?_;walk_at "w";row_lines H4 x5;walk_at "w";refine AH (by decide) ?_;have h1:=s5 _ _ (s4 _ _ (s3 _ _ (s2 _ _ g1)));have h2:=s5 _ _ (s4 _ _ (s3 _ _ g2));have h3:=s5 _ _ (s4 _ _ g3);have h4:=s5 _ _ g4;have s05:=s1.trans (s2.trans (s3.trans (s4.trans s5)));obtain ⟨r,hr,e⟩:∃ r:Nat,r<14/\((n:Nat):Int)%14=(r:Nat):=⟨n%14,Nat.mod_lt _ (by decide),by omega⟩;rw [e]
    match r,hr with
    | 0,_=>exact Ah (SqL.of g5) rfl (k H5 _ s05 ⟨.non, .d .non,rfl, .inl rfl⟩)
    | 1,_=>exact Ah (SqL.of g5) rfl (k H5 _ s05 ⟨.bl true, .d (.bl true),rfl, .inl rfl⟩)
    | 2,_=>exact Ah (SqL.of g5) rfl (k H5 _ s05 ⟨.str _ (by decide +kernel), .d (.str _),rfl, .inl rfl⟩)
    | 3,_=>exact Ah (SqL.of g5) rfl (k H5 _ s05 ⟨.lst h1, .d (.lst (ds:=[.non]) h1 trivial (by decide) rfl (LY .non)),rfl, .inr (.inr (Ar h1))⟩)
    | 4,_=>exact Ah (SqL.of g5) rfl (k H5 _ s05 ⟨.tup h2, .d (.tup (ds:=[.int 1]) h2 (by decide) rfl (LY (.int 1))),rfl, .inl (by unfold As;simp only [h2])⟩)
    | 5,_=>exact Ah (SqL.of g5) rfl (k H5 _ s05 ⟨.dK h3, .dic h3,rfl, .inl (by unfold As;simp only [h3])⟩)
    | 6,_=>exact Ah (SqL.of g5) rfl (k H5 _ s05 ⟨.int _, .d (.int _),rfl, .inl rfl⟩)
    | 7,_=>exact Ah (SqL.of g5) rfl (k H5 _ s05 ⟨.int _, .d (.int _),rfl, .inl rfl⟩)
    | 8,_=>exact Ah (SqL.of g5) rfl (k H5 _ s05 ⟨.lst h4, .d (.lst (ds:=[]) h4 trivial (by decide) rfl (λ i v d h1=>by cases h1)),rfl, .inr (.inl (Ar h4))⟩)
    | 9,_=>exact Ah (SqL.of g5) rfl (k H5 _ s05 ⟨.str _ (by decide +kernel), .d (.str _),rfl, .inl rfl⟩)
    | 10,_=>exact Ah (SqL.of g5) rfl (k H5 _ s05 ⟨.bl false, .d (.bl false),rfl, .inl rfl⟩)
    | 11,_=>exact Ah (SqL.of g5) rfl (k H5 _ s05 ⟨.str _ (by decide +kernel), .d (.str _),rfl, .inl rfl⟩)
    | 12,_=>exact Ah (SqL.of g5) rfl (k H5 _ s05 ⟨.str _ (by decide +kernel), .d (.str _),rfl, .inl rfl⟩)
    | 13,_=>exact Ah (SqL.of g5) rfl (k H5 _ s05 ⟨.int _, .d (.int _),MH n, .inl rfl⟩)
section
variable {H:Hp} {v0 v1 v2 v3 v4 v5 v6:V}
theorem N6 (h:Ax v0 1 16=false):drB H v0 v1 v2 v3 v4 v5 v6=false:=by unfold drB;rw [h];simp
theorem Tg (h:Ax v1 1 16=false):drB H v0 v1 v2 v3 v4 v5 v6=false:=by unfold drB;rw [h];simp
theorem Qk (h:A4 H v2 1 60=false):drB H v0 v1 v2 v3 v4 v5 v6=false:=by unfold drB;rw [h];simp
theorem Oq (h:(lsD H v2).all (λ x=>Ax x 0 (inV v0))=false):drB H v0 v1 v2 v3 v4 v5 v6=false:=by unfold drB;rw [h];simp
theorem Rw (h:A4 H v3 (inV v1) (inV v1)=false):drB H v0 v1 v2 v3 v4 v5 v6=false:=by unfold drB;rw [h];simp
theorem N4 (h:(lsD H v3).all (λ x=>A6 H x (inV v0))=false):drB H v0 v1 v2 v3 v4 v5 v6=false:=by unfold drB;rw [h];simp
theorem QY (h:A4 H v4 1 60=false):drB H v0 v1 v2 v3 v4 v5 v6=false:=by unfold drB;rw [h];simp
theorem Oh (h:(lsD H v4).all (λ x=>A6 H x (inV v1))=false):drB H v0 v1 v2 v3 v4 v5 v6=false:=by unfold drB;rw [h];simp
theorem K6 (h:Bb H v5 ((lsD H v2).length:Nat)=false):drB H v0 v1 v2 v3 v4 v5 v6=false:=by unfold drB;rw [h];simp
theorem Mm (h:Bb H v6 ((lsD H v4).length:Nat)=false):drB H v0 v1 v2 v3 v4 v5 v6=false:=by unfold drB;rw [h];simp
end
theorem SL {H:Hp} {F:Addr->Prop} {n:Nat} {D:Addr} {ys:List V} {d0 d1 d2 d3 d4 d5 d6:Dt} (r:Rp H F (n+1) (.ref D) (.lst [d0,d1,d2,d3,d4,d5,d6])) (h:H D=some (.lst ys)):
    ∃ w0 w1 w2 w3 w4 w5 w6,ys=[w0,w1,w2,w3,w4,w5,w6]/\Rp H F n w0 d0/\Rp H F n w1 d1/\Rp H F n w2 d2/\Rp H F n w3 d3/\Rp H F n w4 d4/\Rp H F n w5 d5/\Rp H F n w6 d6:=by
  cases r with
  | lst q f b l e=>
    rw [h] at q;cases q
    match ys,l with
    | [w0,w1,w2,w3,w4,w5,w6],_=>exact ⟨w0,w1,w2,w3,w4,w5,w6,rfl,e 0 _ _ rfl rfl,e 1 _ _ rfl rfl,e 2 _ _ rfl rfl,e 3 _ _ rfl rfl,e 4 _ _ rfl rfl,e 5 _ _ rfl rfl,e 6 _ _ rfl rfl⟩
theorem ThL.down {H:Hp}:∀ {n:Nat} {v:V},ThL H (n+1) v->ThL H n v
  | 0,_,h=>h.1
  | _+1,_,h=>⟨h.1,λ xs e=>⟨(h.2 xs e).1,λ x hx=>ThL.down ((h.2 xs e).2 x hx)⟩⟩
theorem Th.wr {H:Hp} {b:Addr} {xs ys:List V} {v:V} (hb:H b=some (.lst xs)) (h:Th H v):Th (upd H b (.lst ys)) v:=by
  have key:∀ {a:Addr} {o:HO},H a=some o->a≠b->upd H b (.lst ys) a=some o:=λ e n=>by rw [Af n];exact e
  cases h with
  | non=>exact .non
  | bl b=>exact .bl b
  | int i=>exact .int i
  | str z l=>exact .str z l
  | @lst a xs' e=>
    by_cases c:a=b
    · subst c;exact .lst Ac
    · exact .lst (key e c)
  | @tup a xs' e=>exact .tup (key e (EJ e hb (by intro z;cases z)))
  | @dK a xs' e=>exact .dK (key e (EJ e hb (by intro z;cases z)))
theorem CP {H:Hp} {b:Addr} {o:HO} {v:V} (h:v≠ .ref b):As (upd H b o) v=As H v:=by
  cases v with
  | ref a=>
    unfold As;simp only [];rw [Af (λ z=>h (by rw [z]))]
  | _=>rfl
theorem ThL.wr {H:Hp} {b:Addr} {xs:List V} {i:Nat} {w:V} (hb:H b=some (.lst xs)):∀ {n:Nat} {v:V},ThL H n w->ThL H n v->ThL (upd H b (.lst (xs.set i w))) n v
  | 0,_,_,h=>Th.wr hb h
  | n+1,v,hw,h=>by
    refine ⟨h.1.wr hb,λ ys e=> ?_⟩;by_cases c:v= .ref b
    · subst c;rw [Ar Ac] at e;cases e;obtain ⟨l,q⟩:=h.2 xs (Ar hb);refine ⟨by rw [List.length_set];exact l,λ x hx=> ?_⟩;rcases List.mem_or_eq_of_mem_set hx with z | z
      · exact ThL.wr hb hw.down (q x z)
      · rw [z];exact ThL.wr hb hw.down hw.down
    · rw [CP c] at e;obtain ⟨l,q⟩:=h.2 ys e;exact ⟨l,λ x hx=>ThL.wr hb hw.down (q x hx)⟩
theorem PTh.wr {H:Hp} {b:Addr} {xs:List V} {i:Nat} {w v0 v1 v2 v3 v4 v5 v6:V} (hb:H b=some (.lst xs)) (hw:ThL H 2 w) (h:PTh H v0 v1 v2 v3 v4 v5 v6):PTh (upd H b (.lst (xs.set i w))) v0 v1 v2 v3 v4 v5 v6:=
  ⟨ThL.wr (n:=0) hb hw.th h.t0,ThL.wr (n:=0) hb hw.th h.t1,ThL.wr hb hw.down h.t2,ThL.wr hb hw h.t3,ThL.wr hb hw h.t4,ThL.wr hb hw.down h.t5,ThL.wr hb hw.down h.t6⟩
theorem Ck {H:Hp} {v:V} {lo hi:Int} (h:As H v=none):A4 H v lo hi=false:=by unfold A4;rw [h]
theorem Dk {H:Hp} {v:V} {lo hi:Int} (h:As H v=some []) (l:1<=lo):A4 H v lo hi=false:=by
  unfold A4;rw [h];show (decide (lo<=((0:Nat):Int))&&_)=false;rw [decide_eq_false (by omega),Bool.false_and]
theorem C9 {H:Hp} {v:V} {n:Int} (h:A4 H v n n=false):Bb H v n=false:=by unfold Bb;rw [h,Bool.false_and]
theorem GW {H:Hp} {v:V} {n:Int} {xs:List V} {x:V} (h:As H v=some xs) (hx:x∈xs) (b:Fo x=false):Bb H v n=false:=by
  unfold Bb;rw [h,Bool.and_eq_false_iff];exact .inr (List.all_eq_false.mpr ⟨x,hx,by rw [b];decide⟩)
theorem Cd {H:Hp} {v:V} {xs:List V} (h:As H v=some xs):lsD H v=xs:=by unfold lsD;rw [h];rfl
theorem LQ {xs:List V} {x:V} {f:V->Bool} (hx:x∈xs) (b:f x=false):xs.all f=false:=List.all_eq_false.mpr ⟨x,hx,by rw [b];decide⟩
theorem J5 {H:Hp} {v:V} {m:Int} (h:As H v=none):A6 H v m=false:=by unfold A6;rw [h]
theorem Gv {H:Hp} {v:V} {m:Int} {xs:List V} (h:As H v=some xs) (r:Fx xs m=false):A6 H v m=false:=by unfold A6;rw [h];exact r
def MY (d:Dr) (b5 b6:Addr) (H:Hp) (X:V):Nat->Prop
  | 2=>A4 H X 1 60=false\/(lsD H X).all (λ x=>Ax x 0 (d.sh:Nat))=false\/Bb H (.ref b5) ((lsD H X).length:Nat)=false
  | 3=>A4 H X (d.tr:Nat) (d.tr:Nat)=false\/(lsD H X).all (λ x=>A6 H x (d.sh:Nat))=false
  | 4=>A4 H X 1 60=false\/(lsD H X).all (λ x=>A6 H x (d.tr:Nat))=false\/Bb H (.ref b6) ((lsD H X).length:Nat)=false
  | 5=>Bb H X (d.th.length:Nat)=false
  | 6=>Bb H X (d.td.length:Nat)=false
  | _=>Ax X 1 16=false
theorem Mh {K:PySem.W.Frag} {H:Hp} {D b2 b5 b6:Addr} {w3 w4 X:V} {d:Dr} {x4:List V} {Q:VK} (gD:H D=some (.lst [nV d.sh,nV d.tr, .ref b2,w3,w4, .ref b5, .ref b6])) (pt:PTh H (nV d.sh) (nV d.tr) (.ref b2) w3 w4 (.ref b5) (.ref b6))
    (l2:As H (.ref b2)=some (d.th.map nV)) (l4:As H w4=some x4) (n4:x4.length=d.td.length) (l5:As H (.ref b5)=some (d.wa.map V.str)) (l6:As H (.ref b6)=some (d.we.map V.str)) (nX:X≠ .ref D) (n2D:b2≠D) (n4D:w4≠ .ref D) (n5D:b5≠D) (n6D:b6≠D) (tX:ThL H 2 X)
    {wh:Nat} (hw:wh<7) (bad:∀ H',As H' X=As H X->As H' (.ref b5)=some (d.wa.map V.str)->As H' (.ref b6)=some (d.we.map V.str)->MY d b5 b6 H' X wh)
    (k:∀ H' v0 v1 v2 v3 v4 v5 v6,H'=upd H D (.lst ([nV d.sh,nV d.tr, .ref b2,w3,w4, .ref b5, .ref b6].set wh X))->SqL K H' D [v0,v1,v2,v3,v4,v5,v6]->PTh H' v0 v1 v2 v3 v4 v5 v6->drB H' v0 v1 v2 v3 v4 v5 v6=false->Q (.ref D) H'):EB (.ref D) (.int (wh:Nat)) X H λ H4=>Q (.ref D) H4:=by
  refine ⟨D,_,_,wh,rfl,rfl,gD,L4 (show wh<7 from hw),?_⟩;have pt3:=pt.wr (i:=wh) gD tX;have tX':=ThL.wr (i:=wh) gD tX tX;have sq:SqL K (upd H D (.lst ([nV d.sh,nV d.tr, .ref b2,w3,w4, .ref b5, .ref b6].set wh X))) D _:=SqL.of Ac;have rf:∀ {b:Addr},b≠D->V.ref b≠V.ref D:=λ h z=>h (V.ref.inj z);have hb:=bad (upd H D (.lst ([nV d.sh,nV d.tr, .ref b2,w3,w4, .ref b5, .ref b6].set wh X))) (CP nX) (by rw [CP (rf n5D)];exact l5) (by rw [CP (rf n6D)];exact l6);have q2:lsD (upd H D (.lst ([nV d.sh,nV d.tr, .ref b2,w3,w4, .ref b5, .ref b6].set wh X))) (.ref b2)=d.th.map nV:=Cd (by rw [CP (rf n2D)];exact l2);have q4:lsD (upd H D (.lst ([nV d.sh,nV d.tr, .ref b2,w3,w4, .ref b5, .ref b6].set wh X))) w4=x4:=Cd (by rw [CP n4D];exact l4);show Q (.ref D) (upd H D (.lst ([nV d.sh,nV d.tr, .ref b2,w3,w4, .ref b5, .ref b6].set wh X)));have kk:=k (upd H D (.lst ([nV d.sh,nV d.tr, .ref b2,w3,w4, .ref b5, .ref b6].set wh X)));clear k bad;generalize eH:upd H D (.lst ([nV d.sh,nV d.tr, .ref b2,w3,w4, .ref b5, .ref b6].set wh X))=H4 at pt3 tX' sq hb q2 q4 kk ⊢;have kk:=λ v0 v1 v2 v3 v4 v5 v6=>kk v0 v1 v2 v3 v4 v5 v6 rfl;clear eH;rcases wh with _ | _ | _ | _ | _ | _ | _ | wh
  · exact kk _ _ _ _ _ _ _ sq ⟨tX'.th,pt3.t1,pt3.t2,pt3.t3,pt3.t4,pt3.t5,pt3.t6⟩ (N6 hb)
  · exact kk _ _ _ _ _ _ _ sq ⟨pt3.t0,tX'.th,pt3.t2,pt3.t3,pt3.t4,pt3.t5,pt3.t6⟩ (Tg hb)
  · have hb:_\/_\/_:=hb;exact kk _ _ _ _ _ _ _ sq ⟨pt3.t0,pt3.t1,tX'.down,pt3.t3,pt3.t4,pt3.t5,pt3.t6⟩ (hb.elim Qk λ z=>z.elim (Oq (v0:=nV d.sh)) K6)
  · have hb:_\/_:=hb;exact kk _ _ _ _ _ _ _ sq ⟨pt3.t0,pt3.t1,pt3.t2,tX',pt3.t4,pt3.t5,pt3.t6⟩ (hb.elim (Rw (v1:=nV d.tr)) (N4 (v0:=nV d.sh)))
  · have hb:_\/_\/_:=hb;exact kk _ _ _ _ _ _ _ sq ⟨pt3.t0,pt3.t1,pt3.t2,pt3.t3,tX',pt3.t5,pt3.t6⟩ (hb.elim QY λ z=>z.elim (Oh (v1:=nV d.tr)) Mm)
  · refine kk _ _ _ _ _ _ _ sq ⟨pt3.t0,pt3.t1,pt3.t2,pt3.t3,pt3.t4,tX'.down,pt3.t6⟩ (K6 ?_);rw [q2,List.length_map];exact hb
  · refine kk _ _ _ _ _ _ _ sq ⟨pt3.t0,pt3.t1,pt3.t2,pt3.t3,pt3.t4,pt3.t5,tX'.down⟩ (Mm ?_);rw [q4,n4];exact hb
  · omega
theorem OddV.same {H H':Hp} {v:V} (h:OddV H v) (s:Same H H'):OddV H' v:=⟨h.th.same s,by
  cases h.ov with
  | d r=>exact .d (r.same s)
  | dic e=>exact .dic (s _ _ e),h.am,by rw [A0 h.th s];exact h.ls⟩
theorem OddV.thl {H:Hp} {v:V} (h:OddV H v):ThL H 2 v:=by
  refine ⟨h.th,λ xs e=> ?_⟩;rcases h.ls with q | q | q
  · rw [q] at e;cases e
  · rw [q] at e;cases e;exact ⟨by decide,λ x hx=>by cases hx⟩
  · rw [q] at e;cases e;refine ⟨by decide,λ x hx=> ?_⟩;rw [List.mem_singleton.mp hx];exact ⟨.non,λ xs e=>by cases e⟩
theorem EK {H H':Hp} {d:Dr} {b5 b6:Addr} {v:V} {wh:Nat} (am:Ax v 1 16=false) (ls:As H v=none\/As H v=some []\/As H v=some [.non]) (ok:DrOk d) (e:As H' v=As H v):MY d b5 b6 H' v wh:=by
  have h1:=ok.h1;have h2:=ok.p1;have h3:=ok.t1;rcases wh with _ | _ | _ | _ | _ | _ | _ | wh
  · exact am
  · exact am
  · rcases ls with q | q | q
    · exact .inl (Ck (e.trans q))
    · exact .inl (Dk (e.trans q) (by decide))
    · exact .inr (.inl (by rw [Cd (e.trans q)];rfl))
  · rcases ls with q | q | q
    · exact .inl (Ck (e.trans q))
    · exact .inl (Dk (e.trans q) (by omega))
    · exact .inr (by rw [Cd (e.trans q)];rfl)
  · rcases ls with q | q | q
    · exact .inl (Ck (e.trans q))
    · exact .inl (Dk (e.trans q) (by decide))
    · exact .inr (.inl (by rw [Cd (e.trans q)];rfl))
  · rcases ls with q | q | q
    · exact C9 (Ck (e.trans q))
    · exact C9 (Dk (e.trans q) (by omega))
    · exact GW (e.trans q) (List.mem_singleton.mpr rfl) rfl
  · rcases ls with q | q | q
    · exact C9 (Ck (e.trans q))
    · exact C9 (Dk (e.trans q) (by omega))
    · exact GW (e.trans q) (List.mem_singleton.mpr rfl) rfl
  · exact am
theorem J2 {H H':Hp} {d:Dr} {b5 b6:Addr} {v:V} {wh:Nat} (h:OddV H v) (ok:DrOk d) (e:As H' v=As H v):MY d b5 b6 H' v wh:=EK h.am h.ls ok e
theorem ThL.sc {H:Hp} {n:Nat} {v:V} (h:Th H v) (e:As H v=none):ThL H n v:=by
  cases n with
  | zero=>exact h
  | succ n=>exact ⟨h,λ xs q=>by rw [e] at q;cases q⟩
theorem ThL.list {H:Hp} {n:Nat} {a:Addr} {xs:List V} (h:H a=some (.lst xs)) (l:xs.length<=100000) (q:∀ x∈xs,ThL H n x):ThL H (n+1) (.ref a):=⟨.lst h,λ ys e=>by
  rw [Ar h] at e;cases e;exact ⟨l,q⟩⟩
theorem ifK {c:TT} {t u:TS} {D:Ends} {σ:L2.St} {H:Hp} (h2:(∀ H',Same H H'->t D σ H')->Ky c t u D σ H) (h1:∀ H',Same H H'->t D σ H'):Ky c t u D σ H:=h2 h1
def IJ (d:Dr) (H:Hp) (X:V):Nat->Prop
  | 2=>Ax X 0 (d.sh:Nat)=false
  | 3=>A6 H X (d.sh:Nat)=false
  | 4=>A6 H X (d.tr:Nat)=false
  | _=>Fo X=false
theorem M6 {K:PySem.W.Frag} {H:Hp} {D b b2 b5 b6:Addr} {w3 w4 X:V} {d:Dr} {xs:List V} {at':Nat} {Q:VK} (gD:H D=some (.lst [nV d.sh,nV d.tr, .ref b2,w3,w4, .ref b5, .ref b6])) (pt:PTh H (nV d.sh) (nV d.tr) (.ref b2) w3 w4 (.ref b5) (.ref b6))
    (hb:H b=some (.lst xs)) (ha:at'<xs.length) (nb:b≠D) (nX:X≠ .ref b) (tX:ThL H 2 X) {wh:Nat} (h2:2<=wh) (hw:wh<7) (eb:[nV d.sh,nV d.tr, .ref b2,w3,w4, .ref b5, .ref b6][wh]?=some (.ref b)) (bad:∀ H',As H' X=As H X->IJ d H' X wh)
    (k:∀ H',H'=upd H b (.lst (xs.set at' X))->SqL K H' D [nV d.sh,nV d.tr, .ref b2,w3,w4, .ref b5, .ref b6]->PTh H' (nV d.sh) (nV d.tr) (.ref b2) w3 w4 (.ref b5) (.ref b6)->drB H' (nV d.sh) (nV d.tr) (.ref b2) w3 w4 (.ref b5) (.ref b6)=false->Q (.ref D) H'):EB (.ref b) (.int (at':Nat)) X H λ H4=>Q (.ref D) H4:=by
  refine ⟨b,_,_,at',rfl,rfl,hb,L4 ha,?_⟩;have pt3:=pt.wr (i:=at') hb tX;have sq:SqL K (upd H b (.lst (xs.set at' X))) D _:=SqL.of (by rw [Af (Ne.symm nb)];exact gD);have hb':=bad (upd H b (.lst (xs.set at' X))) (CP nX);have lb:As (upd H b (.lst (xs.set at' X))) (.ref b)=some (xs.set at' X):=Ar Ac;have mX:X∈xs.set at' X:=List.mem_set ha X;refine k _ rfl sq pt3 ?_;generalize upd H b (.lst (xs.set at' X))=H4 at pt3 sq hb' lb;rcases wh with _ | _ | _ | _ | _ | _ | _ | wh
  · omega
  · omega
  · cases eb;exact Oq (v0:=nV d.sh) (by rw [Cd lb];exact LQ mX hb')
  · cases eb;exact N4 (v0:=nV d.sh) (by rw [Cd lb];exact LQ (f:=λ x=>A6 H4 x (d.sh:Nat)) mX hb')
  · cases eb;exact Oh (v1:=nV d.tr) (by rw [Cd lb];exact LQ (f:=λ x=>A6 H4 x (d.tr:Nat)) mX hb')
  · cases eb;exact K6 (GW lb mX hb')
  · cases eb;exact Mm (GW lb mX hb')
  · omega
theorem TC {x:V} {m:Int} (h:Ax x 1 m=false):Fx [x] m=false:=by
  unfold Fx;exact List.all_eq_false.mpr ⟨0,by simp,by show ¬ Ax x (0+1) m=true;rw [show (0:Int)+1=1 from rfl,h];decide⟩
theorem TK {x y:V} {m:Int} (h:Ax y (inV x+1) m=false):Fx [x,y] m=false:=by
  unfold Fx;exact List.all_eq_false.mpr ⟨1,by simp,by show ¬ Ax y (inV x+1) m=true;rw [h];decide⟩
theorem B0 {i a b:Int} (h:¬ (a<=i/\i<=b)):Ax (.int i) a b=false:=by
  show (decide (a<=i)&&decide (i<=b))=false;rw [Bool.and_eq_false_iff,decide_eq_false_iff_not,decide_eq_false_iff_not];omega
theorem Am {o i v:V} {H:Hp} {P P':Hp->Prop} (h:EB o i v H P) (m:∀ H',P H'->P' H'):EB o i v H P':=by
  obtain ⟨p,xs,k,j,e1,e2,e3,e4,q⟩:=h;exact ⟨p,xs,k,j,e1,e2,e3,e4,m _ q⟩
def Mz (d:Dr):Nat->Nat
  | 2=>d.th.length
  | 3=>d.tr
  | 4=>d.td.length
  | 5=>d.th.length
  | _=>d.td.length
def Eb (K:PySem.W.Frag):Sp:=λ vs H Q _=>∃ (v:V) (d:Dr) (n:Nat),vs=[v,nV n]/\Rp H FT 3 v (dDr d)/\DrOk d/\∀ H' a v0 v1 v2 v3 v4 v5 v6,Same H H'->SqL K H' a [v0,v1,v2,v3,v4,v5,v6]->PTh H' v0 v1 v2 v3 v4 v5 v6->drB H' v0 v1 v2 v3 v4 v5 v6=false->Q (.ref a) H'
abbrev CO:Stmt:=top 38
theorem sc__law_wrong:FnScope ["_law_told","_law_number","_law_parts","_law_which","_law_odd_here","_law_way","_law_at","_law_wrong_here","_law_most"] ["_law_told","_law_number"] (Al CO):=⟨rfl,rfl,rfl,by decide +kernel,rfl,by decide +kernel,by decide +kernel⟩
theorem Gi {f:Addr} {fd:FuncData} (F:Fun K "_law_wrong" "_law_wrong" CO f fd) (T:Txt K mg c) (c__law_copied:CallF P w K mg base "_law_copied" (4+1) ["_law_thing"] (Bd 4)) (c__law_odd:CallF P w K mg base "_law_odd" 1 ["_law_number"] E6):FnOk P w K mg base CX0 6 f fd ["_law_told","_law_number"] (Eb K):=by
  refine F.ok sc__law_wrong (λ vs H Q E h=> ?_) (λ cdv A outer s H vs Q E hr h=> ?_)
  · obtain ⟨v,d,n,rfl,_⟩:=h;rfl
  · obtain ⟨v,d,n,rfl,rv,ok,k⟩:=h;have hu:=hr.units0;have hu1:=hr.units1;refine ⟨_,(Ad (Cg (i:=2) sc__law_wrong.nd rfl (Or.inl rfl) (JT (K:=K) (pv 0)) (λ _ _ _ _=>AG) (λ _ _ _ _=>(Aj c__law_copied hr (Aa (pv 0) Ab))))
      (Ad (Aw (i:=3) sc__law_wrong.nd rfl (Or.inl rfl) (Ao AJ (Ao Cp (pv 1) Ae) Ae))
      (Ad (Aw (i:=4) sc__law_wrong.nd rfl (Or.inl rfl) (Aj c__law_odd (hr.mono (by decide)) (Aa (Ao Cp (pv 1) Ae) Ab)))
      (Ad (Aw (i:=5) sc__law_wrong.nd rfl (Or.inl rfl) (Ao AJ (pv 1) Ae))
      (Ad (Bn (PW.pt (GD (AT IC (pv 5) Ae (AN _)) (Fq (PW.pt (OG (AT IC (pv 3) Ae (AN _)) (NO (AT IC (pv 5) Ae (AN _)))))))) (Ad (EU (Li (PW.pt (GD (AT PZ (pv 3) Ae (AN _)) (GD (AT (Ng hr.units) (pv 4) (Nv rfl (T.own _ (by decide)) (Aa Ae (Aa Ae Ab))) (by with_unfolding_all rfl)) (Fq (By (Ak (Bc (K:=K)) rfl (T.own _ (by decide)) boot_isinstance (Aa (pv 4) (Aa (Bo rfl (T.own _ (by decide)) boot_bool) Ab)))))))) (pv 4) Ae) (FR (pv 2) (pv 3) Dw))
      (Ai (Au (pv 2)))) AL)
      (Ad (Bn (AT IC (pv 3) Ae (AN _)) (Ad (EU (A5 (Bh (K:=K)) (Av (Aa Ae (Aa Ae (Aa (Ao AZ (A5 (Bh (K:=K)) (pv 2) (pv 3) (λ _ _=>rfl)) Ae) Ab)))) (Ao AJ (pv 5) Ae) (λ _ _=>rfl)) (FR (pv 2) (pv 3) Dw))
      (Ai (Au (pv 2)))) AL)
      (Ad (Bn (AT IC (pv 5) Ae (AN _)) (Ad (EU (A5 (Bh (K:=K)) (Av (Aa (AD (BN (K:=K)) rfl (T.own _ (by decide)) Ay (Aa (A5 (Bh (K:=K)) (pv 2) (pv 3) (λ _ _=>rfl)) Ab)) (Aa (Ao (EW (K:=K)) (A5 (Bh (K:=K)) (pv 2) (pv 3) (λ _ _=>rfl)) (Ht (Oe (K:=K)) (A5 (Bh (K:=K)) (pv 2) (pv 3) (λ _ _=>rfl)) JJ (Jl Ae))) (Aa (Av Ab) (Aa FZ Ab))))) (Ao AJ (pv 5) Ae) (λ _ _=>rfl)) (FR (pv 2) (pv 3) Dw))
      (Ai (Au (pv 2)))) AL)
      (Ad (Aw (i:=6) sc__law_wrong.nd rfl (Or.inl rfl) (Ao AJ (Ao Cp (pv 1) Ae) (Ak (CQ (K:=K)) rfl (T.own _ (by decide)) boot_len (Aa (A5 (Bh (K:=K)) (pv 2) (pv 3) (λ _ _=>rfl)) Ab))))
      (Ad (Bn (AT (T1 (K:=K)) (pv 3) (Bk (Aa Ae (Aa Ae (Aa Ae Ab)))) (by with_unfolding_all rfl)) (Ad (Aw (i:=7) sc__law_wrong.nd rfl (Or.inl rfl) (NR (HM Ae (Av (Aa (Ao AZ (A5 (JU (K:=K)) (pv 0) Ae (λ _ _=>rfl)) Ae) (Aa (N7 LR Ae) (Aa B7 (Aa Cy (Aa An (Aa (Av (Aa Ae Ab)) Ab))))))) (HM Ae (Av (Aa An (Aa An (Aa An (Aa Cy (Aa Ae (Aa (Av (Aa An Ab)) Ab))))))) MC)) rfl rfl (by simp) (by decide)))
      (Ad (EU (A5 (Bh (K:=K)) (MB hu1 (pv 7) (pv 3) (MO hu1 (pv 7) Ae (λ _ _=>rfl)) ⟨rfl,rfl,rfl,rfl⟩) (Ao AJ (pv 5) Ae) (λ _ _=>rfl)) (FR (A5 (Bh (K:=K)) (pv 2) (pv 3) (λ _ _=>rfl)) (pv 6) Dw))
      (Ai (Au (pv 2))))) AL)
      (Ad (Aw (i:=8) sc__law_wrong.nd rfl (Or.inl rfl) (A5 (JU (K:=K)) (pv 0) (Ao Pi (pv 3) Ae) (λ _ _=>rfl)))
      (Ad (Aw (i:=7) sc__law_wrong.nd rfl (Or.inl rfl) (Av (Aa (Av (Aa Ae Ab)) (Aa (Av (Aa (Ao AZ (pv 8) Ae) Ab)) (Aa (Av (Aa Ae (Aa Ae Ab))) (Aa (Av (Aa B7 Ab)) (Aa (Av (Aa Cy Ab)) (Aa (Bk (Aa Ae Ab)) (Aa An (Aa Cy (Aa (Av (Aa (pv 8) (Aa (pv 8) Ab))) (Aa (Av (Aa Ae (Aa Ae Ab))) (Aa (Av (Aa (Av (Aa Ae Ab)) Ab)) (Aa FZ Ab))))))))))))))
      (Ad (EU (A5 (Bh (K:=K)) (pv 7) (Ao AJ (pv 5) Ae) (λ _ _=>rfl)) (FR (A5 (Bh (K:=K)) (pv 2) (pv 3) (λ _ _=>rfl)) (pv 6) Dw))
      (Ai (Au (pv 2))))))))))))))),?_⟩
    walk_at "w";obtain ⟨m0,a0,z0,z1,z2,z3,z4,z5,z6,em,rfl,ha0,q0,q1,q2,q3,q4,q5,q6⟩:=GV rv;cases em;refine ⟨a0,rfl,⟨_,SqT.of ha0⟩,λ D hD=> ?_⟩;refine AI (m:=3) (G:=λ i=>[dN d.sh,dN d.tr,dL d.th,dLL d.ti,dLL d.td,dS d.wa,dS d.we].getD i .non) (Fi (SqT.of ha0) rfl) hD (show 7<=100000 by decide) ?_ ?_
    · intro i H' R hi s1 kk;have hi7:i<7:=hi;walk_at "w"
      match i,hi7 with
      | 0,_=>exact ⟨_,_,rfl,(q0.up (by decide)).same s1,kk⟩
      | 1,_=>exact ⟨_,_,rfl,(q1.up (by decide)).same s1,kk⟩
      | 2,_=>exact ⟨_,_,rfl,(q2.up (by decide)).same s1,kk⟩
      | 3,_=>exact ⟨_,_,rfl,(q3.up (by decide)).same s1,kk⟩
      | 4,_=>exact ⟨_,_,rfl,(q4.up (by decide)).same s1,kk⟩
      | 5,_=>exact ⟨_,_,rfl,(q5.up (by decide)).same s1,kk⟩
      | 6,_=>exact ⟨_,_,rfl,(q6.up (by decide)).same s1,kk⟩
    intro H1 ys s1 hl1 r1;obtain ⟨w0,w1,w2,w3,w4,w5,w6,rfl,p0,p1,p2,p3,p4,p5,p6⟩:=SL (show Rp H1 (FN H) 4 (.ref D) (.lst [dN d.sh,dN d.tr,dL d.th,dLL d.ti,dLL d.td,dS d.wa,dS d.we]) from r1) hl1;cases p0;cases p1;obtain ⟨b2,rfl,e2,f2,n2⟩:=Gx p2;obtain ⟨c3,x3,l3,n3,a3⟩:=JN p3 ok.ir;obtain ⟨c4,x4,l4,n4,a4⟩:=JN p4 ok.pr;obtain ⟨b5,rfl,e5,f5,n5⟩:=Iw p5;obtain ⟨b6,rfl,e6,f6,n6⟩:=Iw p6;have c2:ThL H1 1 (.ref b2):=Hv e2 n2;have c5:=(Fh e5 n5 ok.wc).1;have c6:=(Fh e6 n6 ok.fc).1;have pt:PTh H1 (nV d.sh) (nV d.tr) (.ref b2) w3 w4 (.ref b5) (.ref b6):=⟨.int _, .int _,c2,c3,c4,c5,c6⟩;have hh1:=ok.h1;have hh2:=ok.h2;have hp1:=ok.p1;have hp2:=ok.p2;walk_at "w";refine AH ⟨by decide,by decide⟩ ?_;walk_at "x";refine AH ⟨by decide,by decide⟩ ?_;walk_at "x";refine ⟨n / 210,by show [V.int _]=[V.int _];rw [Int.natCast_ediv];rfl,λ H2 vo s2 od=> ?_⟩;walk_at "v";refine AH (by decide) ?_;walk_at "v";obtain ⟨wh,hw,ew⟩:∃ wh:Nat,wh<7/\((n:Nat):Int) / 30%7=(wh:Nat):=⟨n / 30%7,Nat.mod_lt _ (by decide),by omega⟩;obtain ⟨y,hy,ey⟩:∃ y:Nat,y<30/\((n:Nat):Int)%30=(y:Nat):=⟨n%30,Nat.mod_lt _ (by decide),by omega⟩;rw [ew,ey];have gD:=s2 _ _ hl1;have pt2:=pt.same s2;have s02:=s1.trans s2;have g2:=s2 _ _ e2;have g5:=s2 _ _ e5;have g6:=s2 _ _ e6;rw [<-A0 c3.th s2] at l3;rw [<-A0 c4.th s2] at l4;have t1:=ok.t1;have s1':=ok.s1;have n2D:b2≠D:=λ z=>by
      rw [z,gD] at g2;have m:V.ref b2∈d.th.map nV:=by
        rw [<-HO.lst.inj (Option.some.inj g2),z];simp
      obtain ⟨i,_,q⟩:=List.mem_map.mp m;cases q
    have nS:∀ {zs:List Str},V.int (d.sh:Nat)∉zs.map V.str:=λ m=>by
      obtain ⟨i,_,q⟩:=List.mem_map.mp m;cases q
    have n5D:b5≠D:=λ z=>by
      rw [z,gD] at g5;exact nS (by rw [<-HO.lst.inj (Option.some.inj g5)];simp)
    have n6D:b6≠D:=λ z=>by
      rw [z,gD] at g6;exact nS (by rw [<-HO.lst.inj (Option.some.inj g6)];simp)
    have nR:∀ {w:V} {xs:List V} {m:Int},As H2 w=some xs->xs.all (λ x=>A6 H1 x m)=true->w≠ .ref D:=λ {w xs m} e a z=>by
      rw [z,Ar gD] at e;cases e;have:=List.all_eq_true.mp a (V.int (d.sh:Nat)) (by simp);cases this
    have n3D:=nR l3 a3;have n4D:=nR l4 a4;have put:∀ (H3:Hp) (X:V),Same H2 H3->ThL H3 2 X->X≠ .ref D->(∀ H',As H' X=As H3 X->As H' (.ref b5)=some (d.wa.map V.str)->As H' (.ref b6)=some (d.we.map V.str)->MY d b5 b6 H' X wh)->EB (.ref D) (.int (wh:Nat)) X H3 λ H4=>Q (.ref D) H4:=λ H3 X s3 tX nX bad=>
      Mh (K:=K) (s3 _ _ gD) (pt2.same s3) (Ar (s3 _ _ g2)) (by rw [A0 pt2.t4.th s3];exact l4) n4 (Ar (s3 _ _ g5)) (Ar (s3 _ _ g6)) nX n2D n4D n5D n6D tX hw bad λ H' v0 v1 v2 v3 v4 v5 v6 e sq pt db=>k H' D v0 v1 v2 v3 v4 v5 v6 (λ b o eb=>by
        rw [e,Af (AB eb hD)];exact s3 _ _ (s02 _ _ eb)) sq pt db
    refine ifK (λ go=> ?_) (λ H3 s3=> ?_);rotate_left
    · have od3:=od.same s3;have nX:vo≠ .ref D:=λ z=>by
        have q:=od3.ls;rw [z,Ar (s3 _ _ gD)] at q;rcases q with q | q | q <;> cases q
      walk_at "w";refine FD (λ h=> ?_) (λ h=> ?_)
      · walk_at "w";refine Aq ?_;walk_at "w";refine Am (put H3 vo s3 od3.thl nX λ H' e _ _=>J2 od3 ok e) λ H4 q=> ?_;walk_at "w";exact q
      · have fin4:∀ H4,Same H3 H4->EB (.ref D) (.int (wh:Nat)) vo H4 λ H5=>Q (.ref D) H5:=λ H4 s4=>put H4 vo (s3.trans s4) (od3.same s4).thl nX λ H' e _ _=>J2 (od3.same s4) ok e;walk_at "w";refine ⟨_,_,rfl,λ p4 n4'=> ?_⟩;have s4:=Ag (o:=HO.rng 1 17) n4';have g4:upd H3 p4 (HO.rng 1 17) p4=_:=Ac;generalize upd H3 p4 (HO.rng 1 17)=H4 at s4 g4 ⊢;refine ⟨p4,1,17,rfl,g4,(od3.same s4).ov,λ c1=> ?_⟩;refine ⟨c1,rfl,?_⟩;cases c1 with
        | true=>
          refine Dj ?_;walk_at "w";refine Aq ?_;walk_at "w";refine Am (fin4 H4 s4) λ H5 q=> ?_;walk_at "w";exact q
        | false=>
          refine DO ?_;obtain ⟨t,ty⟩:=(od3.same s4).th.ty (K:=K);walk_at "w";refine AM ty (Ih ty) ?_;walk_at "w";refine MD (λ hc=> ?_) (λ hc=> ?_)
          · walk_at "w";refine Aq ?_;walk_at "w";refine Am (fin4 H4 s4) λ H5 q=> ?_;walk_at "w";exact q
          · walk_at "w";refine Aq ?_;walk_at "w";refine Am (put H4 (.int 17) (s3.trans s4) (ThL.sc (.int 17) rfl) (by intro z;cases z) λ H' _ _ _=> ?_) λ H5 q=> ?_
            · rcases wh with _ | _ | wh
              · rfl
              · rfl
              · omega
            walk_at "w";exact q
    walk_at "w";refine FD (λ h=> ?_) (λ h=> ?_)
    · exact go H2 (Same.refl _)
    walk_at "w";refine FD (λ h2=> ?_) (λ h2=> ?_)
    · walk_at "w";refine FD (λ h3=> ?_) (λ h3=> ?_)
      · exact go H2 (Same.refl _)
      clear go;walk_at "w";refine FD (λ _=> ?_) (λ q=>absurd h2 q);obtain ⟨z,ez,z1⟩:∃ z:Nat,atI [nV d.sh,nV d.tr, .ref b2,w3,w4, .ref b5, .ref b6] (wh:Nat)=some (nV z)/\1<=z:=by
        rcases wh with _ | _ | wh
        · exact ⟨d.sh,rfl,ok.s1⟩
        · exact ⟨d.tr,rfl,ok.t1⟩
        · omega
      walk_at "w";refine Ah (SqL.of gD) ez ?_;walk_at "w";row_lines H2 x8;walk_at "x";obtain ⟨r,hr3,er⟩:∃ r:Nat,r<3/\((y:Nat):Int)%3=(r:Nat):=⟨y%3,Nat.mod_lt _ (by decide),by omega⟩;rw [er];have fin8:∀ X,Ax (.int X) 1 16=false->EB (.ref D) (.int (wh:Nat)) (.int X) H8 λ H5=>Q (.ref D) H5:=λ X hX=>put H8 (.int X) s8 (ThL.sc (.int X) rfl) (by intro z;cases z) λ H' _ _ _=>by
        rcases wh with _ | _ | wh
        · exact hX
        · exact hX
        · omega
      have big:Ax (.int ((z:Nat)+40)) 1 16=false:=by
        show (decide ((1:Int)<=(z:Nat)+40)&&decide (((z:Nat):Int)+40<=16))=false;rw [Bool.and_eq_false_iff];exact .inr (decide_eq_false (by omega))
      match r,hr3 with
      | 0,_=>
        refine Ah (SqL.of g8) rfl ?_;refine Aq ?_;walk_at "w";refine Am (fin8 0 rfl) λ H5 q=> ?_;walk_at "w";exact q
      | 1,_=>
        refine Ah (SqL.of g8) rfl ?_;refine Aq ?_;walk_at "w";refine Am (fin8 17 rfl) λ H5 q=> ?_;walk_at "w";exact q
      | 2,_=>
        refine Ah (SqL.of g8) rfl ?_;refine Aq ?_;walk_at "w";refine Am (fin8 _ big) λ H5 q=> ?_;walk_at "w";exact q
    clear go;walk_at "w";refine FD (λ q=>absurd q h2) (λ _=> ?_);walk_at "w";have e0:∀ {w:V} {ls:List (List Nat)} {xs:List V},Rp H1 (FN H) 3 w (dLL ls)->As H2 w=some xs->∃ a,w= .ref a/\H2 a=some (.lst xs)/\H a=none:=λ r e=>by
      obtain ⟨m,a,vs,_,rfl,_,fa,_⟩:=Fy r;obtain ⟨a',ea,ha⟩:=Ci e;cases ea;exact ⟨a,rfl,ha,fa⟩
    have nSt:∀ {zs:List Str},(∀ z∈zs,GH z)->∀ x∈zs.map V.str,ThL H2 1 x:=λ q x hx=>by
      obtain ⟨z,hz,rfl⟩:=List.mem_map.mp hx;exact ThL.sc (.str z (by rw [(q z hz).1];decide)) rfl
    obtain ⟨b,xs,eb,hb,tb,lb,nbD,fb⟩:∃ b xs,[nV d.sh,nV d.tr, .ref b2,w3,w4, .ref b5, .ref b6][wh]?=some (.ref b)/\H2 b=some (.lst xs)/\ThL H2 2 (.ref b)/\xs.length=Mz d wh/\b≠D/\H b=none:=by
      obtain ⟨a3',ea3,ha3,fa3⟩:=e0 p3 l3;obtain ⟨a4',ea4,ha4,fa4⟩:=e0 p4 l4;rcases wh with _ | _ | _ | _ | _ | _ | _ | wh
      · omega
      · omega
      · refine ⟨b2,_,rfl,g2,ThL.list g2 (by rw [List.length_map];exact n2) λ x hx=> ?_,by rw [List.length_map];rfl,n2D,f2⟩;obtain ⟨z,hz,rfl⟩:=List.mem_map.mp hx;exact ThL.sc (.int _) rfl
      · exact ⟨a3',x3,by rw [ea3];rfl,ha3,ea3▸pt2.t3,n3.trans ok.il,λ z=>n3D (by rw [ea3,z]),fa3⟩
      · exact ⟨a4',x4,by rw [ea4];rfl,ha4,ea4▸pt2.t4,n4,λ z=>n4D (by rw [ea4,z]),fa4⟩
      · exact ⟨b5,_,rfl,g5,ThL.list g5 (by rw [List.length_map];exact n5) (nSt ok.wc),by rw [List.length_map];exact ok.wl,n5D,f5⟩
      · exact ⟨b6,_,rfl,g6,ThL.list g6 (by rw [List.length_map];exact n6) (nSt ok.fc),by rw [List.length_map];exact ok.fl,n6D,f6⟩
      · omega
    have eI:atI [nV d.sh,nV d.tr, .ref b2,w3,w4, .ref b5, .ref b6] (wh:Nat)=some (.ref b):=Hj eb;have t2:=ok.t2;have lb1:1<=xs.length/\xs.length<=60:=by
      rw [lb];rcases wh with _ | _ | _ | _ | _ | _ | _ | wh <;> simp only [Mz] <;> omega
    have tbe:=(tb.2 xs (Ar hb)).2;refine FD (λ h4=> ?_) (λ h4=> ?_)
    ·
      walk_at "w";refine Ah (SqL.of gD) eI ?_;walk_at "w";refine Bp (SqL.of hb) λ p10 n10=> ?_;wrow_has H2 x10;walk_at "w";refine Ah (SqL.of (s10 _ _ gD)) eI ?_;walk_at "w";refine Ah (SqL.of (s10 _ _ gD)) eI ?_;walk_at "w";refine LV (SqL.of (s10 _ _ hb)) λ p11 n11=> ?_;wrow_has H10 x11;rw [Lm (by decide)] at g11;have b10:=s10 _ _ hb;refine Ds (SqL.of (s11 _ _ b10)) (SqL.of g11) (by rw [List.length_take];omega) λ p12 n12=> ?_;wrow_has H11 x12;walk_at "w";row_lines H12 x13;walk_at "w";row_lines H13 x14;walk_at "w";row_lines H14 x15;walk_at "x";have s1215:=s13.trans (s14.trans s15);have s1015:=s11.trans (s12.trans s1215);have s215:=s10.trans s1015;obtain ⟨r,hr4,er⟩:∃ r:Nat,r<4/\((y:Nat):Int)%4=(r:Nat):=⟨y%4,Nat.mod_lt _ (by decide),by omega⟩;rw [er];have ff:∀ {a:Addr} {H':Hp},Same H2 H'->H' a=none->a≠D:=λ s n z=>by rw [z,s _ _ gD] at n;cases n
      have rf:∀ {a:Addr},a≠D->V.ref a≠ .ref D:=λ h z=>h (V.ref.inj z)
      match r,hr4 with
      | 0,_=>
        have q0:=s1015 _ _ g10;have ln:As H15 (.ref p10)=none:=by unfold As;simp only [q0]
        refine Ah (SqL.of g15) rfl ?_;refine Aq ?_;walk_at "w";refine Am (put H15 (.ref p10) s215 (ThL.sc (.tup q0) ln) (rf (ff (Same.refl _) n10)) λ H' e _ _=>EK rfl (.inl ln) ok e) λ H5 q=> ?_;walk_at "w";exact q
      | 1,_=>
        have q0:=s1215 _ _ g12;have ln:=Ar q0;refine Ah (SqL.of g15) rfl ?_;refine Aq ?_;walk_at "w";have tX:ThL H15 2 (.ref p12):=ThL.list q0 (by rw [List.length_append,List.length_take];omega) λ x hx=>by
          rcases List.mem_append.mp hx with z | z
          · exact (tbe x z).same s215
          · exact (tbe x (List.mem_of_mem_take z)).same s215
        have lX:(xs++xs.take (1:Int).toNat).length=Mz d wh+1:=by
          rw [List.length_append,List.length_take,lb];rw [lb] at lb1;show Mz d wh+min 1 (Mz d wh)=_;omega
        refine Am (put H15 (.ref p12) s215 tX (rf (ff (s10.trans s11) n12)) λ H' e q5 q6=> ?_) λ H5 q=> ?_
        · have e:=e.trans ln;generalize xs++xs.take (1:Int).toNat=zs at e lX;have ne:∀ {a m:Nat},a≠m->((decide (((a:Nat):Int)<=(m:Nat))&&decide (((m:Nat):Int)<=(a:Nat)))=false):=λ h=>by
            rw [Bool.and_eq_false_iff,decide_eq_false_iff_not,decide_eq_false_iff_not];omega
          rcases wh with _ | _ | _ | _ | _ | _ | _ | wh
          · omega
          · omega
          · refine .inr (.inr (C9 ?_));unfold A4;rw [q5,Cd e,lX];show (decide (((d.th.length+1:Nat):Int)<=((d.wa.map V.str).length:Nat))&&decide (((d.wa.map V.str).length:Int)<=((d.th.length+1:Nat):Int)))=false;rw [List.length_map,ok.wl];exact ne (by omega)
          · refine .inl ?_;unfold A4;rw [e];show (decide (((d.tr:Nat):Int)<=(zs.length:Nat))&&decide (((zs.length:Nat):Int)<=(d.tr:Nat)))=false;rw [lX];exact ne (by show d.tr≠d.tr+1;omega)
          · refine .inr (.inr (C9 ?_));unfold A4;rw [q6,Cd e,lX];show (decide (((d.td.length+1:Nat):Int)<=((d.we.map V.str).length:Nat))&&decide (((d.we.map V.str).length:Int)<=((d.td.length+1:Nat):Int)))=false;rw [List.length_map,ok.fl];exact ne (by omega)
          · refine C9 ?_;unfold A4;rw [e];show (decide (((d.th.length:Nat):Int)<=(zs.length:Nat))&&decide (((zs.length:Nat):Int)<=(d.th.length:Nat)))=false;rw [lX];exact ne (by show d.th.length≠d.th.length+1;omega)
          · refine C9 ?_;unfold A4;rw [e];show (decide (((d.td.length:Nat):Int)<=(zs.length:Nat))&&decide (((zs.length:Nat):Int)<=(d.td.length:Nat)))=false;rw [lX];exact ne (by show d.td.length≠d.td.length+1;omega)
          · omega
        walk_at "w";exact q
      | 2,_=>
        have q0:=s15 _ _ (s14 _ _ g13);have ln:=Ar q0;refine Ah (SqL.of g15) rfl ?_;refine Aq ?_;walk_at "w";refine Am (put H15 (.ref p13) s215 (ThL.list q0 (by decide) λ x hx=>by cases hx) (rf (ff (s10.trans (s11.trans s12)) n13)) λ H' e _ _=>EK rfl (.inr (.inl ln)) ok e) λ H5 q=> ?_;walk_at "w";exact q
      | 3,_=>
        have q0:=s15 _ _ g14;have ln:As H15 (.ref p14)=none:=by unfold As;simp only [q0]
        refine Ah (SqL.of g15) rfl ?_;refine Aq ?_;walk_at "w";refine Am (put H15 (.ref p14) s215 (ThL.sc (.dK q0) ln) (rf (ff (s10.trans (s11.trans (s12.trans s13))) n14)) λ H' e _ _=>EK rfl (.inl ln) ok e) λ H5 q=> ?_;walk_at "w";exact q
    walk_at "w";refine AH ⟨by decide,by decide⟩ ?_;walk_at "w";refine Ah (SqL.of gD) eI ?_;walk_at "w";refine B4 (SqL.of hb) ?_;walk_at "w";refine AH (by show (0:Int)<(xs.length:Nat);omega) ?_;walk_at "w";obtain ⟨at',ha',ea'⟩:∃ at':Nat,at'<xs.length/\((n:Nat):Int) / 3000%((xs.length:Nat):Int)=(at':Nat):=⟨n / 3000%xs.length,Nat.mod_lt _ (by omega),by rw [Int.natCast_emod,Int.natCast_ediv];rfl⟩;rw [ea'];row_lines H2 x16;walk_at "w";have inb:∀ (H3:Hp) (X:V),Same H2 H3->ThL H3 2 X->X≠ .ref b->(∀ H',As H' X=As H3 X->IJ d H' X wh)->EB (.ref b) (.int (at':Nat)) X H3 λ H4=>Q (.ref D) H4:=λ H3 X s3 tX nX bad=>
      M6 (K:=K) (s3 _ _ gD) (pt2.same s3) (s3 _ _ hb) ha' nbD nX tX (by omega) hw eb bad λ H' e sq pt db=>k H' D _ _ _ _ _ _ _ (λ c o ec=>by
        rw [e,Af (AB ec fb)];exact s3 _ _ (s02 _ _ ec)) sq pt db
    have rf:∀ {a:Addr} {H':Hp},Same H2 H'->H' a=none->V.ref a≠ .ref b:=λ s n z=>by rw [V.ref.inj z,s _ _ hb] at n;cases n
    refine ⟨p16,_,rfl, .inr (SqT.of g16),rfl,rfl,?_⟩;refine ⟨_,rfl,?_⟩;obtain rfl:z0=nV d.sh:=by cases q0;rfl
    obtain rfl:z1=nV d.tr:=by cases q1;rfl
    by_cases h5:wh=2\/wh=5\/wh=6
    · have hin:(if false=true then !L2.inV (V.int (wh:Nat)) [V.int 2,V.int 5,V.int 6] else L2.inV (V.int (wh:Nat)) [V.int 2,V.int 5,V.int 6])=true:=by
        rcases h5 with rfl | rfl | rfl <;> rfl
      rw [hin];refine Dj ?_;walk_at "w";row_lines H16 x17;walk_at "w";refine G4 (SqT.of (s17 _ _ (s16 _ _ (s02 _ _ ha0)))) rfl ?_;walk_at "w";row_lines H17 x18;walk_at "w";row_lines H18 x19;walk_at "w";row_lines H19 x20;walk_at "w";row_lines H20 x21;walk_at "w";have g17':=s21 _ _ (s20 _ _ (s19 _ _ (s18 _ _ g17)));refine ⟨g17',[(.inl 2, .ref p19),(.inl 5, .ref p21)],rfl,(by decide:2<=15),?_⟩;have n19:p19≠p17:=λ z=>by rw [z,s18 _ _ g17] at n19;cases n19
      have n21':p21≠p17:=λ z=>by rw [z,s20 _ _ (s19 _ _ (s18 _ _ g17))] at n21;cases n21
      have n18':p18≠p17:=λ z=>by rw [z,g17] at n18;cases n18
      have n20':p20≠p17:=λ z=>by rw [z,s19 _ _ (s18 _ _ g17)] at n20;cases n20
      generalize eB:upd H21 p17 (HO.dK (Ep [] [(Sum.inl 2,V.ref p19),(Sum.inl 5,V.ref p21)]))=HB;have sB:Same H2 HB:=λ c o ec=>by
        rw [<-eB,Af (AB (s16 _ _ ec) n17)];exact s21 _ _ (s20 _ _ (s19 _ _ (s18 _ _ (s17 _ _ (s16 _ _ ec)))))
      have gB:HB p17=some (.dK [(Sum.inl 2,V.ref p19),(Sum.inl 5,V.ref p21)]):=by rw [<-eB,Ac];rfl
      have hB19:=(congrFun eB p19).symm.trans ((Af n19).trans (s21 _ _ (s20 _ _ g19)));have hB21:=(congrFun eB p21).symm.trans ((Af n21').trans (g21));have hB18:=(congrFun eB p18).symm.trans ((Af n18').trans (s21 _ _ (s20 _ _ (s19 _ _ g18))));have hB20:=(congrFun eB p20).symm.trans ((Af n20').trans (s21 _ _ g20));clear eB;have sE:Same H2 H17:=s16.trans s17;walk_at "w";refine ⟨p17,rfl, .inl ⟨_, .inl gB⟩,?_⟩;walk_at "w";refine ⟨p17, .ref p21,rfl,DGet.k (k:= .inl 5) gB,?_⟩;obtain ⟨r,hr6,er⟩:∃ r:Nat,r<6/\((y:Nat):Int)%6=(r:Nat):=⟨y%6,Nat.mod_lt _ (by decide),by omega⟩;have t18:ThL HB 2 (.ref p18):=ThL.list hB18 (by decide) λ x hx=>by rw [List.mem_singleton.mp hx];exact ThL.sc (.int 1) rfl
      have t20:ThL HB 2 (.ref p20):=ThL.list hB20 (by decide) λ x hx=>by rw [List.mem_singleton.mp hx];exact ThL.sc (.str _ (by decide +kernel)) rfl
      rcases h5 with rfl | h5
      · refine ⟨_,DGet.k (k:= .inl 2) gB,?_⟩;walk_at "x";rw [er]
        match r,hr6 with
        | 0,_=>
          refine Ah (SqL.of hB19) rfl ?_;refine Aq ?_;walk_at "w";refine Ah (SqL.of (sB _ _ gD)) eI ?_;walk_at "w";refine Am (inb HB (.int ((d.sh:Nat)+1)) sB (ThL.sc (.int _) rfl) (by intro z;cases z) λ H' e=>B0 (by omega)) λ H5 q=> ?_;walk_at "w";exact q
        | 1,_=>
          refine Ah (SqL.of hB19) rfl ?_;refine Aq ?_;walk_at "w";refine Ah (SqL.of (sB _ _ gD)) eI ?_;walk_at "w";refine Am (inb HB (.int (-1)) sB (ThL.sc (.int _) rfl) (by intro z;cases z) λ H' e=>B0 (by omega)) λ H5 q=> ?_;walk_at "w";exact q
        | 2,_=>
          refine Ah (SqL.of hB19) rfl ?_;refine Aq ?_;walk_at "w";refine Ah (SqL.of (sB _ _ gD)) eI ?_;walk_at "w";refine Am (inb HB (.bl true) sB (ThL.sc (.bl true) rfl) (by intro z;cases z) λ H' e=>rfl) λ H5 q=> ?_;walk_at "w";exact q
        | 3,_=>
          refine Ah (SqL.of hB19) rfl ?_;refine Aq ?_;walk_at "w";refine Ah (SqL.of (sB _ _ gD)) eI ?_;walk_at "w";refine Am (inb HB .non sB (ThL.sc .non rfl) (by intro z;cases z) λ H' e=>rfl) λ H5 q=> ?_;walk_at "w";exact q
        | 4,_=>
          refine Ah (SqL.of hB19) rfl ?_;refine Aq ?_;walk_at "w";refine Ah (SqL.of (sB _ _ gD)) eI ?_;walk_at "w";refine Am (inb HB (.str "1") sB (ThL.sc (.str _ (by decide +kernel)) rfl) (by intro z;cases z) λ H' e=>rfl) λ H5 q=> ?_;walk_at "w";exact q
        | 5,_=>
          refine Ah (SqL.of hB19) rfl ?_;refine Aq ?_;walk_at "w";refine Ah (SqL.of (sB _ _ gD)) eI ?_;walk_at "w";refine Am (inb HB (.ref p18) sB t18 (rf sE n18) λ H' e=>rfl) λ H5 q=> ?_;walk_at "w";exact q
      · have c1:Fo (.str "A")=false:=by decide +kernel
        have c2:Fo (.str "")=false:=by decide +kernel
        have c3:Fo (.str "ab")=false:=by decide +kernel
        have ci:∀ {X:V} {H':Hp},Fo X=false->IJ d H' X wh:=λ h=>by
          rcases h5 with rfl | rfl <;> exact h
        have dg:∃ o,DGet HB p17 (.int (wh:Nat)) o/\o.getD (.ref p21)= .ref p21:=by
          rcases h5 with rfl | rfl
          · exact ⟨_,DGet.k (k:= .inl 5) gB,rfl⟩
          · exact ⟨_,DGet.k (k:= .inl 6) gB,rfl⟩
        obtain ⟨o5,dg,eo⟩:=dg;refine ⟨o5,dg,?_⟩;rw [eo];walk_at "x";rw [er]
        match r,hr6 with
        | 0,_=>
          refine Ah (SqL.of hB21) rfl ?_;refine Aq ?_;walk_at "w";refine Ah (SqL.of (sB _ _ gD)) eI ?_;walk_at "w";refine Am (inb HB (.str "A") sB (ThL.sc (.str _ (by decide +kernel)) rfl) (by intro z;cases z) λ H' e=>ci c1) λ H5 q=> ?_;walk_at "w";exact q
        | 1,_=>
          refine Ah (SqL.of hB21) rfl ?_;refine Aq ?_;walk_at "w";refine Ah (SqL.of (sB _ _ gD)) eI ?_;walk_at "w";refine Am (inb HB (.str "") sB (ThL.sc (.str _ (by decide +kernel)) rfl) (by intro z;cases z) λ H' e=>ci c2) λ H5 q=> ?_;walk_at "w";exact q
        | 2,_=>
          refine Ah (SqL.of hB21) rfl ?_;refine Aq ?_;walk_at "w";refine Ah (SqL.of (sB _ _ gD)) eI ?_;walk_at "w";refine Am (inb HB (.str "ab") sB (ThL.sc (.str _ (by decide +kernel)) rfl) (by intro z;cases z) λ H' e=>ci c3) λ H5 q=> ?_;walk_at "w";exact q
        | 3,_=>
          refine Ah (SqL.of hB21) rfl ?_;refine Aq ?_;walk_at "w";refine Ah (SqL.of (sB _ _ gD)) eI ?_;walk_at "w";refine Am (inb HB .non sB (ThL.sc .non rfl) (by intro z;cases z) λ H' e=>ci rfl) λ H5 q=> ?_;walk_at "w";exact q
        | 4,_=>
          refine Ah (SqL.of hB21) rfl ?_;refine Aq ?_;walk_at "w";refine Ah (SqL.of (sB _ _ gD)) eI ?_;walk_at "w";refine Am (inb HB (.int 7) sB (ThL.sc (.int 7) rfl) (by intro z;cases z) λ H' e=>ci rfl) λ H5 q=> ?_;walk_at "w";exact q
        | 5,_=>
          refine Ah (SqL.of hB21) rfl ?_;refine Aq ?_;walk_at "w";refine Ah (SqL.of (sB _ _ gD)) eI ?_;walk_at "w";refine Am (inb HB (.ref p20) sB t20 (rf (sE.trans (s18.trans s19)) n20) λ H' e=>ci rfl) λ H5 q=> ?_;walk_at "w";exact q
    have h34:wh=3\/wh=4:=by omega
    have hin:(if false=true then !L2.inV (V.int (wh:Nat)) [V.int 2,V.int 5,V.int 6] else L2.inV (V.int (wh:Nat)) [V.int 2,V.int 5,V.int 6])=false:=by
      rcases h34 with rfl | rfl <;> rfl
    rw [hin];refine DO ?_;walk_at "w";obtain ⟨m,em,ebd⟩:∃ m:Nat,atI [nV d.sh,nV d.tr,z2,z3,z4,z5,z6] ((wh:Nat) - 3)=some (nV m)/\(∀ X H',A6 H' X (m:Nat)=false->IJ d H' X wh)/\1<=m:=by
      rcases h34 with rfl | rfl
      · exact ⟨d.sh,rfl,λ _ _ h=>h,ok.s1⟩
      · exact ⟨d.tr,rfl,λ _ _ h=>h,ok.t1⟩
    obtain ⟨ebd,m1⟩:=ebd;refine G4 (SqT.of (s16 _ _ (s02 _ _ ha0))) em ?_;walk_at "w";row_lines H16 x30;walk_at "w";row_lines H30 x31;walk_at "w";row_lines H31 x32;walk_at "w";row_lines H32 x33;walk_at "w";row_lines H33 x34;walk_at "w";row_lines H34 x35;walk_at "w";row_lines H35 x36;walk_at "w";row_lines H36 x37;walk_at "w";row_lines H37 x38;walk_at "w";row_lines H38 x39;walk_at "w";row_lines H39 x40;walk_at "w";row_lines H40 x41;walk_at "x";have u40:=s41;have u39:=s40.trans u40;have u38:=s39.trans u39;have u37:=s38.trans u38;have u36:=s37.trans u37;have u35:=s36.trans u36;have u34:=s35.trans u35;have u33:=s34.trans u34;have u32:=s33.trans u33;have u31:=s32.trans u32;have u30:=s31.trans u31;have sB:=s16.trans (s30.trans u30);have v30:=s16.trans s30;have v31:=v30.trans s31;have v32:=v31.trans s32;have v33:=v32.trans s33;have v34:=v33.trans s34;have v35:=v34.trans s35;have v36:=v35.trans s36;have v37:=v36.trans s37;have v38:=v37.trans s38;have v39:=v38.trans s39;have k30:=u30 _ _ g30;have k31:=u31 _ _ g31;have k32:=u32 _ _ g32;have k33:=u33 _ _ g33;have k34:=u34 _ _ g34;have k35:=u35 _ _ g35;have k36:=u36 _ _ g36;have k37:=u37 _ _ g37;have k38:=u38 _ _ g38;have k39:=u39 _ _ g39;have k40:=u40 _ _ g40;have l1:∀ {a:Addr} {x:V},H41 a=some (.lst [x])->ThL H41 1 x->ThL H41 2 (.ref a):=λ h t=>ThL.list h (show 1<=100000 by decide) λ y hy=>by rw [List.mem_singleton.mp hy];exact t
    have l2':∀ {a:Addr} {x x':Int},H41 a=some (.lst [.int x, .int x'])->ThL H41 2 (.ref a):=λ h=>ThL.list h (show 2<=100000 by decide) λ y hy=>by
      simp only [List.mem_cons,List.not_mem_nil,or_false] at hy;rcases hy with rfl | rfl
      · exact ThL.sc (.int _) rfl
      · exact ThL.sc (.int _) rfl
    have r1:∀ {a:Addr} {x:V},H41 a=some (.lst [x])->Ax x 1 (m:Nat)=false->∀ H',As H' (.ref a)=As H41 (.ref a)->IJ d H' (.ref a) wh:=λ h am H' e=>ebd _ _ (Gv (e.trans (Ar h)) (TC am));have r2:∀ {a:Addr} {x:Int} {x':V},H41 a=some (.lst [.int x,x'])->Ax x' (x+1) (m:Nat)=false->∀ H',As H' (.ref a)=As H41 (.ref a)->IJ d H' (.ref a) wh:=λ h am H' e=>ebd _ _ (Gv (e.trans (Ar h)) (TK am));have r0:∀ {X:V},As H41 X=none->∀ H',As H' X=As H41 X->IJ d H' X wh:=λ h H' e=>ebd _ _ (J5 (e.trans h));have n35x:=n35;have n35:As H41 (.ref p35)=none:=by unfold As;simp only [k35]
    have n40':As H41 (.ref p40)=none:=by unfold As;simp only [k40]
    obtain ⟨r,hr12,er⟩:∃ r:Nat,r<12/\((y:Nat):Int)%12=(r:Nat):=⟨y%12,Nat.mod_lt _ (by decide),by omega⟩;rw [er]
    match r,hr12 with
    | 0,_=>
      refine Ah (SqL.of g41) rfl ?_;refine Aq ?_;walk_at "w";refine Ah (SqL.of (sB _ _ gD)) eI ?_;walk_at "w";refine Am (inb H41 (.ref p30) sB (l1 k30 (ThL.sc (.int _) rfl)) (rf s16 n30) λ H' e=>r1 k30 (B0 (by omega)) H' e) λ H5 q=> ?_;walk_at "w";exact q
    | 1,_=>
      refine Ah (SqL.of g41) rfl ?_;refine Aq ?_;walk_at "w";refine Ah (SqL.of (sB _ _ gD)) eI ?_;walk_at "w";refine Am (inb H41 (.ref p31) sB (l1 k31 (ThL.sc (.int _) rfl)) (rf v30 n31) λ H' e=>r1 k31 (B0 (by omega)) H' e) λ H5 q=> ?_;walk_at "w";exact q
    | 2,_=>
      refine Ah (SqL.of g41) rfl ?_;refine Aq ?_;walk_at "w";refine Ah (SqL.of (sB _ _ gD)) eI ?_;walk_at "w";refine Am (inb H41 (.ref p32) sB (l2' k32) (rf v31 n32) λ H' e=>r2 k32 (B0 (by omega)) H' e) λ H5 q=> ?_;walk_at "w";exact q
    | 3,_=>
      refine Ah (SqL.of g41) rfl ?_;refine Aq ?_;walk_at "w";refine Ah (SqL.of (sB _ _ gD)) eI ?_;walk_at "w";refine Am (inb H41 (.ref p33) sB (l1 k33 (ThL.sc (.bl _) rfl)) (rf v32 n33) λ H' e=>r1 k33 rfl H' e) λ H5 q=> ?_;walk_at "w";exact q
    | 4,_=>
      refine Ah (SqL.of g41) rfl ?_;refine Aq ?_;walk_at "w";refine Ah (SqL.of (sB _ _ gD)) eI ?_;walk_at "w";refine Am (inb H41 (.ref p34) sB (l1 k34 (ThL.sc .non rfl)) (rf v33 n34) λ H' e=>r1 k34 rfl H' e) λ H5 q=> ?_;walk_at "w";exact q
    | 5,_=>
      refine Ah (SqL.of g41) rfl ?_;refine Aq ?_;walk_at "w";refine Ah (SqL.of (sB _ _ gD)) eI ?_;walk_at "w";refine Am (inb H41 (.ref p35) sB (ThL.sc (.tup k35) n35) (rf v34 n35x) λ H' e=>r0 n35 H' e) λ H5 q=> ?_;walk_at "w";exact q
    | 6,_=>
      refine Ah (SqL.of g41) rfl ?_;refine Aq ?_;walk_at "w";refine Ah (SqL.of (sB _ _ gD)) eI ?_;walk_at "w";refine Am (inb H41 (.str "1") sB (ThL.sc (.str _ (by decide +kernel)) rfl) (by intro z;cases z) λ H' e=>r0 rfl H' e) λ H5 q=> ?_;walk_at "w";exact q
    | 7,_=>
      refine Ah (SqL.of g41) rfl ?_;refine Aq ?_;walk_at "w";refine Ah (SqL.of (sB _ _ gD)) eI ?_;walk_at "w";refine Am (inb H41 .non sB (ThL.sc .non rfl) (by intro z;cases z) λ H' e=>r0 rfl H' e) λ H5 q=> ?_;walk_at "w";exact q
    | 8,_=>
      refine Ah (SqL.of g41) rfl ?_;refine Aq ?_;walk_at "w";refine Ah (SqL.of (sB _ _ gD)) eI ?_;walk_at "w";refine Am (inb H41 (.ref p36) sB (l2' k36) (rf v35 n36) λ H' e=>r2 k36 (B0 (by omega)) H' e) λ H5 q=> ?_;walk_at "w";exact q
    | 9,_=>
      refine Ah (SqL.of g41) rfl ?_;refine Aq ?_;walk_at "w";refine Ah (SqL.of (sB _ _ gD)) eI ?_;walk_at "w";refine Am (inb H41 (.ref p37) sB (l2' k37) (rf v36 n37) λ H' e=>r2 k37 (B0 (by omega)) H' e) λ H5 q=> ?_;walk_at "w";exact q
    | 10,_=>
      refine Ah (SqL.of g41) rfl ?_;refine Aq ?_;walk_at "w";refine Ah (SqL.of (sB _ _ gD)) eI ?_;walk_at "w";refine Am (inb H41 (.ref p39) sB (l1 k39 (ThL.list k38 (by decide) λ y hy=>by rw [List.mem_singleton.mp hy];exact .int 1)) (rf v38 n39) λ H' e=>r1 k39 rfl H' e) λ H5 q=> ?_;walk_at "w";exact q
    | 11,_=>
      refine Ah (SqL.of g41) rfl ?_;refine Aq ?_;walk_at "w";refine Ah (SqL.of (sB _ _ gD)) eI ?_;walk_at "w";refine Am (inb H41 (.ref p40) sB (ThL.sc (.dK k40) n40') (rf v39 n40) λ H' e=>r0 n40' H' e) λ H5 q=> ?_;walk_at "w";exact q
theorem OC (T:Txt K mg c):KindF K c c.BadRow 0:=⟨by decide,T.xk_BadRow.toExcKind,T.ki_BadRow_BadRow,T.ki_BadRow_BadWord,T.ki_BadRow_TooMany,T.ki_BadRow_NotPlain,T.ki_BadRow_NotGrown,T.ki_BadRow_BadDraft,T.ki_BadRow_BadCloth,T.ki_BadRow_OutOfPlace,T.ki_BadRow_ValueError⟩
theorem KW (T:Txt K mg c):KindF K c c.NotGrown 4:=⟨by decide,T.xk_NotGrown.toExcKind,T.ki_NotGrown_BadRow,T.ki_NotGrown_BadWord,T.ki_NotGrown_TooMany,T.ki_NotGrown_NotPlain,T.ki_NotGrown_NotGrown,T.ki_NotGrown_BadDraft,T.ki_NotGrown_BadCloth,T.ki_NotGrown_OutOfPlace,T.ki_NotGrown_ValueError⟩
theorem M9 (T:Txt K mg c):KindF K c c.TooMany 2:=⟨by decide,T.xk_TooMany.toExcKind,T.ki_TooMany_BadRow,T.ki_TooMany_BadWord,T.ki_TooMany_TooMany,T.ki_TooMany_NotPlain,T.ki_TooMany_NotGrown,T.ki_TooMany_BadDraft,T.ki_TooMany_BadCloth,T.ki_TooMany_OutOfPlace,T.ki_TooMany_ValueError⟩
theorem Lr (T:Txt K mg c):KindF K c c.NotPlain 3:=⟨by decide,T.xk_NotPlain.toExcKind,T.ki_NotPlain_BadRow,T.ki_NotPlain_BadWord,T.ki_NotPlain_TooMany,T.ki_NotPlain_NotPlain,T.ki_NotPlain_NotGrown,T.ki_NotPlain_BadDraft,T.ki_NotPlain_BadCloth,T.ki_NotPlain_OutOfPlace,T.ki_NotPlain_ValueError⟩
theorem NG (T:Txt K mg c):KindF K c c.BadWord 1:=⟨by decide,T.xk_BadWord.toExcKind,T.ki_BadWord_BadRow,T.ki_BadWord_BadWord,T.ki_BadWord_TooMany,T.ki_BadWord_NotPlain,T.ki_BadWord_NotGrown,T.ki_BadWord_BadDraft,T.ki_BadWord_BadCloth,T.ki_BadWord_OutOfPlace,T.ki_BadWord_ValueError⟩
theorem Mw (T:Txt K mg c):KindF K c c.BadCloth 6:=⟨by decide,T.xk_BadCloth,T.ki_BadCloth_BadRow,T.ki_BadCloth_BadWord,T.ki_BadCloth_TooMany,T.ki_BadCloth_NotPlain,T.ki_BadCloth_NotGrown,T.ki_BadCloth_BadDraft,T.ki_BadCloth_BadCloth,T.ki_BadCloth_OutOfPlace,T.ki_BadCloth_ValueError⟩
theorem K0 (T:Txt K mg c):KindF K c c.OutOfPlace 7:=⟨by decide,T.xk_OutOfPlace,T.ki_OutOfPlace_BadRow,T.ki_OutOfPlace_BadWord,T.ki_OutOfPlace_TooMany,T.ki_OutOfPlace_NotPlain,T.ki_OutOfPlace_NotGrown,T.ki_OutOfPlace_BadDraft,T.ki_OutOfPlace_BadCloth,T.ki_OutOfPlace_OutOfPlace,T.ki_OutOfPlace_ValueError⟩
def CT:Sp:=λ vs H Q _=>∃ n:Nat,vs=[nV n]/\∀ H',Same H H'->Q (.bl true) H'
abbrev BW:Stmt:=top 40
theorem sc__law_by_hand:FnScope ["_law_number","_law_one","_law_other","_law_rows","_law_whats","_law_made_here","_law_names"] ["_law_number"] (Al BW):=⟨rfl,rfl,rfl,by decide +kernel,rfl,by decide +kernel,by decide +kernel⟩
theorem Fd {f:Addr} {fd:FuncData} (F:Fun K "_law_by_hand" "_law_by_hand" BW f fd) (T:Txt K mg c) (m_BadRow:BU P w K mg base "BadRow" c.BadRow 1 ["self","row","word"] (ER c)) (m_NotGrown:BU P w K mg base "NotGrown" c.NotGrown 1 ["self","row","column"] (Dd c)) (m_TooMany:BU P w K mg base "TooMany" c.TooMany 1 ["self","what","many"] (El c)) (m_NotPlain:BU P w K mg base "NotPlain" c.NotPlain 1 ["self","what","number"] (Dx c)) (m_BadWord:BU P w K mg base "BadWord" c.BadWord 1 ["self","place"] (Eh c)) (c__law_kinds:CallF P w K mg base "_law_kinds" 1 ["_law_error"] (B8 K c)):FnOk P w K mg base CX0 3 f fd ["_law_number"] CT:=by
  refine F.ok sc__law_by_hand (λ vs H Q E h=> ?_) (λ cdv A outer s H vs Q E hr h=> ?_)
  · obtain ⟨n,rfl,_⟩:=h;rfl
  · obtain ⟨n,rfl,k⟩:=h;have hu:=hr.units0;refine ⟨_,(Ad (O1 (i:=1) (j:=2) rfl sc__law_by_hand.nd rfl rfl (by decide) rfl rfl (Aa (Ao AZ (Ao AJ (pv 0) Ae) Ae) (Aa (Ao AZ (Ao AJ (Ao Cp (pv 0) Ae) Ae) Ae) Ab)) rfl)
      (Ad (Aw (i:=3) sc__law_by_hand.nd rfl (Or.inl rfl) (Av (Aa (Cr m_BadRow hr (Aa (pv 1) (Aa (pv 2) Ab))) (Aa (Cr m_NotGrown hr (Aa (pv 1) (Aa (pv 2) Ab))) Ab))))
      (Ad (Bn (AT (Od hu (K:=K)) (Av (Aa (BO (K:=K) (A5 (Bh (K:=K)) (pv 3) Ae (λ _ _=>rfl)) rfl) (Aa (BO (K:=K) (A5 (Bh (K:=K)) (pv 3) Ae (λ _ _=>rfl)) rfl) (Aa (BO (K:=K) (A5 (Bh (K:=K)) (pv 3) Ae (λ _ _=>rfl)) rfl) (Aa (BO (K:=K) (A5 (Bh (K:=K)) (pv 3) Ae (λ _ _=>rfl)) rfl) Ab))))) (Av (Aa (pv 1) (Aa (pv 2) (Aa (pv 1) (Aa (pv 2) Ab))))) (AN _)) (Ai (Au B7)) AL)
      (Ad (Aw (i:=4) sc__law_by_hand.nd rfl (Or.inl rfl) (Av (Aa (Cr m_TooMany hr (Aa An (Aa (pv 1) Ab))) (Aa (Cr m_NotPlain hr (Aa An (Aa (pv 2) Ab))) Ab))))
      (Ad (Bn (AT (Od hu (K:=K)) (Av (Aa (BO (K:=K) (A5 (Bh (K:=K)) (pv 4) Ae (λ _ _=>rfl)) rfl) (Aa (BO (K:=K) (A5 (Bh (K:=K)) (pv 4) Ae (λ _ _=>rfl)) rfl) (Aa (BO (K:=K) (A5 (Bh (K:=K)) (pv 4) Ae (λ _ _=>rfl)) rfl) (Aa (BO (K:=K) (A5 (Bh (K:=K)) (pv 4) Ae (λ _ _=>rfl)) rfl) Ab))))) (Av (Aa An (Aa (pv 1) (Aa An (Aa (pv 2) Ab))))) (AN _)) (Ai (Au B7)) AL)
      (Ad (Bn (AT Ik (BO (K:=K) (Cr m_BadWord hr (Aa (pv 1) Ab)) rfl) (pv 1) (AN _)) (Ai (Au B7)) AL)
      (Ad (Aw (i:=5) sc__law_by_hand.nd rfl (Or.inl rfl) (Ao (EW (K:=K)) (Ao (EW (K:=K)) (pv 3) (pv 4)) (Av (Aa (Cr m_BadWord hr (Aa (pv 1) Ab)) (Aa (F5 T.g_BadDraft T.xi_BadDraft (Aa An Ab)) (Aa (F5 T.g_BadCloth T.xi_BadCloth (Aa An Ab)) (Aa (F5 T.g_OutOfPlace T.xi_OutOfPlace (Aa An Ab)) Ab)))))))
      (Ad (Aw (i:=6) sc__law_by_hand.nd rfl (Or.inl rfl) (Av (Aa An (Aa An (Aa An (Aa An (Aa An (Aa An (Aa An (Aa An Ab))))))))))
      (Ai (Au (BL (Pz hr.units) (AX (BH (K:=K) (pv 5)) (λ _ _ _ _=>AG) (λ _ _ _ _=>(Aj c__law_kinds (hr.mono (by decide)) (Aa (pv 0) Ab)))) (AX (BH (K:=K) (pv 6)) (λ _ _ _ _=>AG) (λ _ _ _ _=>(Av (Aa (pv 0) Ab)))) (AN _)))))))))))),?_⟩
    walk_at "x";refine AH ⟨by decide,by decide⟩ ?_;walk_at "x";obtain ⟨p,hp,ep⟩:∃ p:Nat,p<1000/\((n:Nat):Int)%50+1=(p:Nat):=⟨n%50+1,by omega,by omega⟩;obtain ⟨q,hq,eq⟩:∃ q:Nat,q<1000/\((n:Nat):Int) / 50%70+1=(q:Nat):=⟨n / 50%70+1,by omega,by omega⟩;rw [ep,eq];refine Cj ?_;walk_at "w";refine Kf hp hq λ a1 x1 G1 f1 s1 d1=> ?_;have e1:upd G1 a1 (A7 a1 c.BadRow (some x1)) a1=_:=Ac;generalize upd G1 a1 (A7 a1 c.BadRow (some x1))=H1 at s1 d1 e1 ⊢;walk_at "w";refine Cj ?_;walk_at "w";refine HU hp hq λ a2 x2 G2 f2 s2 d2=> ?_;have e2:upd G2 a2 (A7 a2 c.NotGrown (some x2)) a2=_:=Ac;generalize upd G2 a2 (A7 a2 c.NotGrown (some x2))=H2 at s2 d2 e2 ⊢;walk_at "w";row_lines H2 x3;have s13:=s2.trans s3;walk_at "w";refine BQ ?_;walk_at "w";refine Ah (SqL.of g3) rfl ?_;refine ⟨a1,_,x1,_,_,rfl,s13 _ _ e1,s13 _ _ d1,rfl,T.xk_BadRow,T.xf_BadRow_row,?_⟩;walk_at "w";refine BQ ?_;walk_at "w";refine Ah (SqL.of g3) rfl ?_;refine ⟨a1,_,x1,_,_,rfl,s13 _ _ e1,s13 _ _ d1,rfl,T.xk_BadRow,T.xf_BadRow_word,?_⟩;walk_at "w";refine BQ ?_;walk_at "w";refine Ah (SqL.of g3) rfl ?_;refine ⟨a2,_,x2,_,_,rfl,s3 _ _ e2,s3 _ _ d2,rfl,T.xk_NotGrown,T.xf_NotGrown_row,?_⟩;walk_at "w";refine BQ ?_;walk_at "w";refine Ah (SqL.of g3) rfl ?_;refine ⟨a2,_,x2,_,_,rfl,s3 _ _ e2,s3 _ _ d2,rfl,T.xk_NotGrown,T.xf_NotGrown_column,?_⟩;walk_at "w";row_lines H3 x4;walk_at "w";row_lines H4 x5;refine Nr (as:=[(p:Nat),(q:Nat),(p:Nat),(q:Nat)]) (bs:=[(p:Nat),(q:Nat),(p:Nat),(q:Nat)]) (SqL.of (s5 _ _ g4)) (SqL.of g5) ?_;refine ⟨_,rfl,?_⟩;rw [decide_eq_true rfl];refine DO ?_;walk_at "w";refine Cj ?_;walk_at "w";refine II (by decide +kernel) hp λ a6 x6 G6 f6 s6 d6=> ?_;have e6:upd G6 a6 (A7 a6 c.TooMany (some x6)) a6=_:=Ac;generalize upd G6 a6 (A7 a6 c.TooMany (some x6))=H6 at s6 d6 e6 ⊢;walk_at "w";refine Cj ?_;walk_at "w";refine HF (by decide +kernel) hq λ a7 x7 G7 f7 s7 d7=> ?_;have e7:upd G7 a7 (A7 a7 c.NotPlain (some x7)) a7=_:=Ac;generalize upd G7 a7 (A7 a7 c.NotPlain (some x7))=H7 at s7 d7 e7 ⊢;walk_at "w";row_lines H7 x8;have s68:=s7.trans s8;walk_at "w";refine BQ ?_;walk_at "w";refine Ah (SqL.of g8) rfl ?_;refine ⟨a6,_,x6,_,_,rfl,s68 _ _ e6,s68 _ _ d6,rfl,T.xk_TooMany,T.xf_TooMany_what,?_⟩;walk_at "w";refine BQ ?_;walk_at "w";refine Ah (SqL.of g8) rfl ?_;refine ⟨a6,_,x6,_,_,rfl,s68 _ _ e6,s68 _ _ d6,rfl,T.xk_TooMany,T.xf_TooMany_many,?_⟩;walk_at "w";refine BQ ?_;walk_at "w";refine Ah (SqL.of g8) rfl ?_;refine ⟨a7,_,x7,_,_,rfl,s8 _ _ e7,s8 _ _ d7,rfl,T.xk_NotPlain,T.xf_NotPlain_what,?_⟩;walk_at "w";refine BQ ?_;walk_at "w";refine Ah (SqL.of g8) rfl ?_;refine ⟨a7,_,x7,_,_,rfl,s8 _ _ e7,s8 _ _ d7,rfl,T.xk_NotPlain,T.xf_NotPlain_number,?_⟩;walk_at "w";row_lines H8 x9;walk_at "w";row_lines H9 x10;have sf:∀ (z z':Str),De [V.str z,nV p,V.str z',nV q] [V.str z,nV p,V.str z',nV q]=true:=λ z z'=>by
      simp [De,eqV,nV];intro x hx
      match x,hx with
      | 0,_=>simp
      | 1,_=>simp
      | 2,_=>simp
      | 3,_=>simp
    refine ⟨p9,p10,_,_,rfl,rfl,SqL.of (s10 _ _ g9),SqL.of g10,rfl,rfl,?_⟩;rw [sf];refine ⟨_,rfl,?_⟩;refine DO ?_;walk_at "w";refine BQ ?_;refine Cj ?_;walk_at "w";refine FS hp λ a11 x11 G11 f11 s11 d11=> ?_;have e11:upd G11 a11 (A7 a11 c.BadWord (some x11)) a11=_:=Ac;generalize upd G11 a11 (A7 a11 c.BadWord (some x11))=H11 at s11 d11 e11 ⊢;refine ⟨a11,_,x11,_,_,rfl,e11,d11,rfl,T.xk_BadWord,T.xf_BadWord_place,?_⟩;walk_at "w";refine L6 (λ z=>absurd rfl z) (λ _=> ?_);walk_at "w";have s3a:=s4.trans (s5.trans (s6.trans s7));have s3b:=s3a.trans (s8.trans (s9.trans (s10.trans s11)));have s8b:=s9.trans (s10.trans s11);refine Ds (SqL.of (s3b _ _ g3)) (SqL.of (s8b _ _ g8)) (by simp) λ p12 n12=> ?_;wrow_has H11 x12;walk_at "w";refine Cj ?_;walk_at "w";refine FS hp λ a13 x13 G13 f13 s13' d13=> ?_;have e13:upd G13 a13 (A7 a13 c.BadWord (some x13)) a13=_:=Ac;generalize upd G13 a13 (A7 a13 c.BadWord (some x13))=H13 at s13' d13 e13 ⊢;walk_at "w";refine FX ?_;walk_at "w";refine ⟨(by decide:1<=1000),λ p14 n14=> ?_⟩;wrow_has H13 x14;walk_at "w";refine FX ?_;walk_at "w";refine ⟨(by decide:1<=1000),λ p15 n15=> ?_⟩;wrow_has H14 x15;walk_at "w";refine FX ?_;walk_at "w";refine ⟨(by decide:1<=1000),λ p16 n16=> ?_⟩;wrow_has H15 x16;walk_at "w";row_lines H16 x17;have s1217:=s13'.trans (s14.trans (s15.trans (s16.trans s17)));refine Ds (SqL.of (s1217 _ _ g12)) (SqL.of g17) (by simp) λ p18 n18=> ?_;wrow_has H17 x18;walk_at "w";row_lines H18 x19;walk_at "w";have s1118:=s12.trans (s1217.trans (s18.trans s19));refine ⟨p18,rfl,⟨_,SqL.of (s19 _ _ g18)⟩,λ D20 hD20=> ?_⟩;refine AI (m:=1) (G:=λ i=>dS [nmK ([0,4,2,3,1,5,6,7].getD i 0)]) (AY (SqL.of (s19 _ _ g18)) rfl) hD20 (show 8<=100000 by decide) ?_ ?_
    · intro i H' R hi sx kk;have hi8:i<8:=hi;walk_at "w"
      match i,hi8 with
      | 0,_=>exact ⟨a1,_,some x1,0,rfl,sx _ _ ((s2.trans (s3.trans (s3b.trans s1118))) _ _ e1),OC T,λ H2 l s2 hl g2=>kk _ _ s2 (C1 (zs:=[nmK 0]) g2 hl (by decide))⟩
      | 1,_=>exact ⟨a2,_,some x2,4,rfl,sx _ _ ((s3.trans (s3b.trans s1118)) _ _ e2),KW T,λ H2 l s2 hl g2=>kk _ _ s2 (C1 (zs:=[nmK 4]) g2 hl (by decide))⟩
      | 2,_=>exact ⟨a6,_,some x6,2,rfl,sx _ _ ((s7.trans (s8.trans (s8b.trans s1118))) _ _ e6),M9 T,λ H2 l s2 hl g2=>kk _ _ s2 (C1 (zs:=[nmK 2]) g2 hl (by decide))⟩
      | 3,_=>exact ⟨a7,_,some x7,3,rfl,sx _ _ ((s8.trans (s8b.trans s1118)) _ _ e7),Lr T,λ H2 l s2 hl g2=>kk _ _ s2 (C1 (zs:=[nmK 3]) g2 hl (by decide))⟩
      | 4,_=>exact ⟨a13,_,some x13,1,rfl,sx _ _ ((s14.trans (s15.trans (s16.trans (s17.trans (s18.trans s19))))) _ _ e13),NG T,λ H2 l s2 hl g2=>kk _ _ s2 (C1 (zs:=[nmK 1]) g2 hl (by decide))⟩
      | 5,_=>exact ⟨p14,_,none,5,rfl,sx _ _ ((s15.trans (s16.trans (s17.trans (s18.trans s19)))) _ _ g14),Hz T,λ H2 l s2 hl g2=>kk _ _ s2 (C1 (zs:=[nmK 5]) g2 hl (by decide))⟩
      | 6,_=>exact ⟨p15,_,none,6,rfl,sx _ _ ((s16.trans (s17.trans (s18.trans s19))) _ _ g15),Mw T,λ H2 l s2 hl g2=>kk _ _ s2 (C1 (zs:=[nmK 6]) g2 hl (by decide))⟩
      | 7,_=>exact ⟨p16,_,none,7,rfl,sx _ _ ((s17.trans (s18.trans s19)) _ _ g16),K0 T,λ H2 l s2 hl g2=>kk _ _ s2 (C1 (zs:=[nmK 7]) g2 hl (by decide))⟩
    intro H20 ys20 s20 hl20 r20;walk_at "w";refine ⟨p19,rfl,⟨_,SqL.of (s20 _ _ g19)⟩,λ D21 hD21=> ?_⟩;refine AI (m:=1) (G:=λ i=>dS [nmK ([0,4,2,3,1,5,6,7].getD i 0)]) (AY (SqL.of (s20 _ _ g19)) rfl) hD21 (show 8<=100000 by decide) ?_ ?_
    · intro i H' R hi sx kk;have hi8:i<8:=hi;walk_at "w"
      match i,hi8 with
      | 0,_=>exact λ q hq=>kk _ _ (Ag hq) (C1 (zs:=[nmK 0]) Ac hq (by decide))
      | 1,_=>exact λ q hq=>kk _ _ (Ag hq) (C1 (zs:=[nmK 4]) Ac hq (by decide))
      | 2,_=>exact λ q hq=>kk _ _ (Ag hq) (C1 (zs:=[nmK 2]) Ac hq (by decide))
      | 3,_=>exact λ q hq=>kk _ _ (Ag hq) (C1 (zs:=[nmK 3]) Ac hq (by decide))
      | 4,_=>exact λ q hq=>kk _ _ (Ag hq) (C1 (zs:=[nmK 1]) Ac hq (by decide))
      | 5,_=>exact λ q hq=>kk _ _ (Ag hq) (C1 (zs:=[nmK 5]) Ac hq (by decide))
      | 6,_=>exact λ q hq=>kk _ _ (Ag hq) (C1 (zs:=[nmK 6]) Ac hq (by decide))
      | 7,_=>exact λ q hq=>kk _ _ (Ag hq) (C1 (zs:=[nmK 7]) Ac hq (by decide))
    intro H21 ys21 s21 hl21 r21;refine ⟨2,_,_,by decide,(r20.same s21).any,r21.any,rfl,?_⟩;refine BG (show eqD (.lst ((List.range 8).map λ i=>dS [nmK ([0,4,2,3,1,5,6,7].getD i 0)])) _=true from EH _) ?_;exact k H21 (s1.trans (s2.trans (s3.trans (s3b.trans (s1118.trans (s20.trans s21))))))
theorem K3 {m:Nat} {l:List Nat} (h:Gh m l):l.length<=m:=by
  have key:∀ i,i<l.length->i+1<=l.getD i 0:=λ i=>by
    induction i with
    | zero=>
      intro hi;have:=(h 0 hi).1;show 0+1<=_;exact this
    | succ i ih=>
      intro hi;have h1:=(h (i+1) hi).1;have h2:=ih (by omega);have e:(0::l).getD (i+1) 0=l.getD i 0:=rfl;rw [e] at h1;omega
  rcases Nat.eq_zero_or_pos l.length with z | z
  · omega
  · have h1:=key (l.length - 1) (by omega);have h2:=(h (l.length - 1) (by omega)).2;omega
theorem Mi {l:List Nat} (h:l.length<=100):SmD (dL l):= .lst (by rw [List.length_map];exact h) λ d hd=>by
  obtain ⟨i,_,rfl⟩:=List.mem_map.mp hd;exact .int _
theorem K2 {l:List Str} (h:l.length<=100):SmD (dS l):= .lst (by rw [List.length_map];exact h) λ d hd=>by
  obtain ⟨i,_,rfl⟩:=List.mem_map.mp hd;exact .str _
theorem JG {m:Nat} {ls:List (List Nat)} (h:ls.length<=100) (hm:m<=100) (r:∀ l∈ls,Gh m l):SmD (dLL ls):= .lst (by rw [List.length_map];exact h) λ d hd=>by
  obtain ⟨l,hl,rfl⟩:=List.mem_map.mp hd;exact Mi (Nat.le_trans (K3 (r l hl)) hm)
theorem Jp {d:Dr} (ok:DrOk d):SmD (dDr d):=by
  have h2:=ok.h2;have p2:=ok.p2;have s2:=ok.s2;have t2:=ok.t2;have il:=ok.il;have wl:=ok.wl;have fl:=ok.fl;refine .tup (show 7<=100 by decide) λ e he=> ?_;simp only [List.mem_cons,List.not_mem_nil,or_false] at he;rcases he with rfl | rfl | rfl | rfl | rfl | rfl | rfl
  · exact .int _
  · exact .int _
  · exact Mi (by omega)
  · exact JG (by omega) (by omega) ok.ir
  · exact JG (by omega) (by omega) ok.pr
  · exact K2 (by omega)
  · exact K2 (by omega)
theorem HZ {H:Hp} {F:Addr->Prop} {n:Nat} {v:V} {d:Dt} (r:Rp H F n v d):Rp H (λ a=>F a/\H a≠none) n v d:=by
  induction r with
  | non=>exact .non
  | bl b=>exact .bl b
  | int i=>exact .int i
  | str z=>exact .str z
  | lst h f b l e ih=>exact .lst h ⟨f,by rw [h];simp⟩ b l ih
  | tup h b l e ih=>exact .tup h b l ih
inductive NoL:Dt->Prop where
  | non:NoL .non
  | bl (b:Bool):NoL (.bl b)
  | int (i:Int):NoL (.int i)
  | str (z:Str):NoL (.str z)
  | tup {ds:List Dt} (h:∀ d∈ds,NoL d):NoL (.tup ds)
theorem Ap.obj {F:Addr->Prop} {k:Nat} {H H1:Hp} (h:Ap F k H H1) {b:Addr} {o:HO} (e:H b=some o) (n:∀ xs,o≠ .lst xs):H1 b=some o:=(h b o e).elim id λ ⟨_,xs,_,eo,_⟩=>absurd eo (n xs)
theorem Iy {F:Addr->Prop} {k:Nat} {H H1:Hp} {n:Nat} {v:V} {d:Dt} (r:Rp H FT n v d) (c:NoL d) (a:Ap F k H H1):Rp H1 FT n v d:=by
  induction r with
  | non=>exact .non
  | bl b=>exact .bl b
  | int i=>exact .int i
  | str z=>exact .str z
  | lst h f b l e ih=>cases c
  | tup h b l e ih=>
    cases c with
    | tup hc=>exact .tup (a.obj h λ xs=>by intro z;cases z) b l λ i v d h1 h2=>ih i v d h1 h2 (hc _ (List.mem_of_getElem? h2))
theorem Ol {l:List Nat}:NoL (dT l):= .tup λ d hd=>by
  obtain ⟨i,_,rfl⟩:=List.mem_map.mp hd;exact .int _
theorem LI {l:List (List Nat)}:NoL (dTT l):= .tup λ d hd=>by
  obtain ⟨i,_,rfl⟩:=List.mem_map.mp hd;exact Ol
theorem K4 {l:List Str}:NoL (dST l):= .tup λ d hd=>by
  obtain ⟨i,_,rfl⟩:=List.mem_map.mp hd;exact .str _
theorem DrAt.ap {F:Addr->Prop} {k:Nat} {C:Addr} {H H1:Hp} {x:Addr} {d:Dr} (h:DrAt C H x d) (a:Ap F k H H1):DrAt C H1 x d:=by
  obtain ⟨dx,v1,v2,v3,v4,v5,h0,h1,h2,h3,h4,h5⟩:=h;exact ⟨dx,v1,v2,v3,v4,v5,a.obj h0 (λ xs=>by intro z;cases z),Iy h1 Ol a,Iy h2 LI a,Iy h3 LI a,Iy h4 K4 a,Iy h5 K4 a⟩
abbrev LB:Stmt:=top 41
theorem sc_law:FnScope ["_law_script","_law_due","_law_handed","_law_draft_here","_law_turn","_law_told","_law_whole","_law_number"] ["_law_script"] (Al LB):=⟨rfl,rfl,rfl,by decide +kernel,rfl,by decide +kernel,by decide +kernel⟩
theorem PF {f:Addr} {fd:FuncData} (F:Fun K "law" "law" LB f fd) (T:Txt K mg c) (c__law_draft:CallF P w K mg base "_law_draft" 2 ["_law_script","_law_most"] (DS K)) (c__law_copied:CallF P w K mg base "_law_copied" (4+1) ["_law_thing"] (Bd 4)) (c__law_made:CallE P w K mg base "_law_made" 8 ["_law_parts"] (Ce K c)) (c__law_spoilt:CallF P w K mg base "_law_spoilt" (4+1) ["_law_told"] (Be 4)) (d_Draft_told:EX P w K mg base c.Draft "told" 1 ["self"] (DV c)) (c__law_same:CallF P w K mg base "_law_same" (4+1) ["_law_found","_law_due"] (BP 4)) (d_Draft_ends:EX P w K mg base c.Draft "ends" 1 ["self"] (Ec c)) (d_Draft_picks:EX P w K mg base c.Draft "picks" 1 ["self"] (Da c)) (c__law_mixed:CallF P w K mg base "_law_mixed" 1 ["_law_cell","_law_k"] Cb) (c__law_refused:CallF P w K mg base "_law_refused" 9 ["_law_parts"] (CZ K)) (c__law_wrong:CallF P w K mg base "_law_wrong" 6 ["_law_told","_law_number"] (Eb K)) (c__law_by_hand:CallF P w K mg base "_law_by_hand" 3 ["_law_number"] CT):FnOk P w K mg base CX0 10 f fd ["_law_script"] (Jn K):=by
  refine F.ok sc_law (λ vs H Q E h=> ?_) (λ cdv A outer s H vs Q E hr h=> ?_)
  · obtain ⟨a,ns,rfl,_⟩:=h;rfl
  · obtain ⟨a,ns,rfl,sa,hn,k⟩:=h;have hu:=hr.units0;refine ⟨_,(Ad (Aw (i:=1) sc_law.nd rfl (Or.inl rfl) (Aj c__law_draft (hr.mono (by decide)) (Aa (pv 0) (Aa Ae Ab))))
      (Ad (Aw (i:=2) sc_law.nd rfl (Or.inl rfl) (Aj c__law_copied (hr.mono (by decide)) (Aa (pv 1) Ab)))
      (Ad (Aw (i:=3) sc_law.nd rfl (Or.inl rfl) (A1 c__law_made (hr.mono (by decide)) RJ (Aa (pv 2) Ab)))
      (Ad (AF (Aj c__law_spoilt (hr.mono (by decide)) (Aa (pv 2) Ab)))
      (Ad (Hg PassesOwn.never rfl (DL rfl (T.own _ (by decide)) (Aa Ae Ab)) (Bj (i:=4) sc_law.nd rfl (Or.inl rfl)) (Ad (Aw (i:=5) sc_law.nd rfl (Or.inl rfl) (DG (pv 3) d_Draft_told (hr.mono (by decide))))
      (Ad (Bn (Fn (By (Aj c__law_same (hr.mono (by decide)) (Aa (pv 5) (Aa (pv 1) Ab))))) (Ai (Au B7)) AL)
      (Ad (Bn (PW.pt (GD (AT Ik (DG (pv 3) d_Draft_ends (hr.mono (by decide))) (Ak (CQ (K:=K)) rfl (T.own _ (by decide)) boot_len (Aa (A5 (JU (K:=K)) (pv 1) Ae (λ _ _=>rfl)) Ab)) (AN _)) (Fq (AT Ik (DG (pv 3) d_Draft_picks (hr.mono (by decide))) (Ak (CQ (K:=K)) rfl (T.own _ (by decide)) boot_len (Aa (A5 (JU (K:=K)) (pv 1) Ae (λ _ _=>rfl)) Ab)) (AN _))))) (Ai (Au B7)) AL)
      (Ai (AF (Aj c__law_spoilt (hr.mono (by decide)) (Aa (pv 5) Ab))))))))
      (Ad (Aw (i:=6) sc_law.nd rfl (Or.inl rfl) (Ak (NX (K:=K)) rfl (T.own _ (by decide)) boot_sum (Aa (pv 0) Ab)))
      (Ad (Hg PassesOwn.never rfl (DL rfl (T.own _ (by decide)) (Aa Ae Ab)) (Bj (i:=4) sc_law.nd rfl (Or.inl rfl)) (Ad (Aw (i:=7) sc_law.nd rfl (Or.inl rfl) (Ao AZ (Aj c__law_mixed (hr.mono (by decide)) (Aa (pv 6) (Aa (Ao AZ Ae (pv 4)) Ab))) (Ao FI (Ao LT Ae Ae) (Ao AJ (pv 6) Ae))))
      (Ai (Bn (Fn (By (Aj c__law_refused hr (Aa (Aj c__law_wrong (hr.mono (by decide)) (Aa (pv 1) (Aa (pv 7) Ab))) Ab)))) (Ai (Au B7)) AL))))
      (Ai (Au (B1 (Aj c__law_refused hr (Aa (Ao Ld (Av (Aa Cy Ab)) Ae) Ab)) (B1 (Aj c__law_same (hr.mono (by decide)) (Aa (DG (pv 3) d_Draft_told (hr.mono (by decide))) (Aa (pv 1) Ab))) (CK (Aj c__law_by_hand (hr.mono (by decide)) (Aa (Aj c__law_mixed (hr.mono (by decide)) (Aa (pv 6) (Aa Ae Ab))) Ab)))))))))))))),?_⟩
    walk_at "w";refine ⟨a,ns,16,rfl,sa,hn,by decide,by decide,λ H1 pd d s1 hpd r1 ok=> ?_⟩;obtain ⟨m1,ad,z0,z1,z2,z3,z4,z5,z6,em1,ead,had,o0,o1,o2,o3,o4,o5,o6⟩:=GV r1;cases em1;cases ead;obtain ⟨c2,rfl,ec2,_,_⟩:=Gx o2;obtain ⟨m4,c4,us4,_,rfl,ec4,_,lc4,_⟩:=Fy o4;walk_at "w";refine ⟨_,_,rfl,r1.any,λ H2 rh s2 r2=> ?_⟩;walk_at "w";have r2':=r2;obtain ⟨m,ah,v0,v1,v2,v3,v4,v5,v6,em,rfl,ha,q0,q1,q2,q3,q4,q5,q6⟩:=GV r2;cases em;cases q0;cases q1;obtain ⟨b2,rfl,e2,_,_⟩:=Gx q2;obtain ⟨b5,rfl,e5,_,_⟩:=Iw q5;obtain ⟨b6,rfl,e6,_,_⟩:=Iw q6;refine ⟨ah,_,_,_,_,_,_,_,rfl, .inr (SqT.of ha), .inr ⟨d,⟨_,_,_,_,_,rfl,e2,q3.any,q4.any,e5,e6⟩,ok,λ H3 x s3 hx D3=> ?_⟩⟩;walk_at "w";refine ⟨_,λ b=>FN H1 b/\H2 b≠none,0,rfl,Nst.of ((HZ r2').same s3) (Jp ok),by show 0+cN 3<=10000000;decide,λ b hb z=>hb.2 (s3.free z),λ H4 a4=> ?_⟩;walk_at "w";have s14:Same H1 H4:=λ b o e=>a4.out (s3 _ _ (s2 _ _ e)) λ f=>by
      have f1:H1 b=none:=f.1;rw [f1] at e;cases e
    have D4:=D3.ap a4;have due:∀ {H'},Same H1 H'->Rp H' FT 3 (.ref pd) (dDr d):=λ s=>(r1.any).same s;refine ⟨_,rfl,by decide,by decide,G5 (GE (n:=3)) (λ i σ H5=>∃ u v,σ=[some (.ref a),some (.ref pd),some (.ref ah),some (.ref x),u,v,none,none]/\Same H4 H5) ⟨_,_,rfl,Same.refl _⟩ (λ i σ H5 ⟨_,_,_,s⟩=>s) ?_ ?_⟩
    · rintro i σ H' H5 hi ⟨u,v,rfl,s'⟩ s5;replace s5:=s'.trans s5;have s15:=s14.trans s5;have D5:=D4.same s5;obtain ⟨dx,w1,w2,w3,w4,w5,h0,_⟩:=id D5;walk_at "w";refine ⟨_,_,_,rfl,h0,rfl,?_⟩;walk_at "w";refine ⟨x,d,rfl,D5,λ H6 p6 s6 hp6 r6=> ?_⟩;have s16:=s15.trans s6;walk_at "w";refine ⟨_,_,dDr d,rfl,r6.any,due s16,λ H7 s7=> ?_⟩;have s17:=s16.trans s7;have D7:=D5.same (s6.trans s7);obtain ⟨dx7,y1,y2,y3,y4,y5,h7,_⟩:=id D7;have g2:=s17 _ _ had;walk_at "w";refine ⟨_,_,_,rfl,h7,rfl,?_⟩;walk_at "w";refine ⟨x,d,rfl,D7,?_⟩;walk_at "w";refine G4 (SqT.of g2) rfl ?_;walk_at "w";refine B4 (SqL.of (s17 _ _ ec2)) ?_;walk_at "w";refine L6 (λ z=>absurd (by rw [List.length_map]) z) (λ _=> ?_);walk_at "w";refine ⟨_,_,_,rfl,h7,rfl,?_⟩;walk_at "w";refine ⟨x,d,rfl,D7,?_⟩;walk_at "w";refine G4 (SqT.of g2) rfl ?_;walk_at "w";refine B4 (SqL.of (s17 _ _ ec4)) ?_;walk_at "w";refine L6 (λ z=>absurd (by rw [lc4,List.length_map]) z) (λ _=> ?_);walk_at "w";refine ⟨_,λ b=>FN H5 b/\H6 b≠none,0,rfl,Nst.of ((HZ r6).same s7) (Jp ok),by show 0+cN 3<=10000000;decide,λ b hb z=>hb.2 (s7.free z),λ H8 a8=> ?_⟩;walk_at "w";refine ⟨_,_,rfl,λ b o e=>a8.out (s7 _ _ (s6 _ _ (s5 _ _ e))) λ f=> ?_⟩;have f1:H5 b=none:=f.1;rw [s5 _ _ e] at f1;cases f1
    · rintro σ H5 ⟨u,v,rfl,s5⟩;have s15:=s14.trans s5;have s05:=s1.trans s15;have sa5:=s05.seq sa;walk_at "w";refine Lj sa5 ?_;generalize ns.sum=W;walk_at "w";refine ⟨_,rfl,by decide,by decide,G5 (GE (n:=4)) (λ i σ H6=>∃ u v v',σ=[some (.ref a),some (.ref pd),some (.ref ah),some (.ref x),u,v,some (.int W),v']/\Same H5 H6) ⟨_,_,_,rfl,Same.refl _⟩ (λ i σ H5 ⟨_,_,_,_,s⟩=>s) ?_ ?_⟩
      · rintro i σ H' H6 hi ⟨u,v,v',rfl,s'⟩ s6;replace s6:=s'.trans s6;have s16:=s15.trans s6;walk_at "w";refine ⟨W,60+(i:Nat),rfl,⟨by omega,by omega⟩,?_⟩;walk_at "w";refine AH ⟨by decide,by decide,by decide⟩ ?_;walk_at "x";have e10:(10:Int) ^ (10:Int).toNat=10000000000:=by decide
        rw [e10];have b1:=Int.emod_nonneg W (show (1000:Int)≠0 by decide);have b2:=Int.emod_lt_of_pos W (show (0:Int)<1000 by decide);have b3:=Ql W (60+(i:Nat));refine AH (.inl ⟨by omega,by omega⟩) ?_;walk_at "w";obtain ⟨N,eN⟩:∃ N:Nat,BF W (60+(i:Nat))+10000000000*(W%1000)=(N:Nat):=⟨(BF W (60+(i:Nat))+10000000000*(W%1000)).toNat,by omega⟩;rw [eN];refine ⟨.ref pd,d,N,rfl,due s16,ok,λ H7 aw v0 v1 v2 v3 v4 v5 v6 s7 sq pt db=> ?_⟩;walk_at "w";refine ⟨aw,v0,v1,v2,v3,v4,v5,v6,rfl,sq,pt,db,λ H8 s8=> ?_⟩;walk_at "w";exact ⟨_,_,_,rfl,s6.trans (s7.trans s8)⟩
      · rintro σ H6 ⟨u,v,v',rfl,s6⟩;walk_at "w";row_lines H6 x7;walk_at "w";refine LN (k:=7) g7 (by decide) (by decide) (by decide) λ p8 n8=> ?_;wrow_has H7 x8;walk_at "w";refine ⟨p8, .non, .non, .non, .non, .non, .non, .non,rfl,SqL.of g8,⟨.non, .non,ThL.sc .non rfl,ThL.sc .non rfl,ThL.sc .non rfl,ThL.sc .non rfl,ThL.sc .non rfl⟩,N6 rfl,λ H9 s9=> ?_⟩;have s59:=s6.trans (s7.trans (s8.trans s9));have D9:=D4.same (s5.trans s59);obtain ⟨dx,w1,w2,w3,w4,w5,h9,_⟩:=id D9;walk_at "w";refine ⟨_,_,_,rfl,h9,rfl,?_⟩;walk_at "w";refine ⟨x,d,rfl,D9,λ HA pA sA hpA rA=> ?_⟩;walk_at "w";refine ⟨_,_,dDr d,rfl,rA.any,due (s15.trans (s59.trans sA)),λ HB sB=> ?_⟩;walk_at "w";refine ⟨W,90,rfl,⟨by decide,by decide⟩,?_⟩;walk_at "w";have b3:=Ql W 90;obtain ⟨N,eN⟩:∃ N:Nat,BF W 90=(N:Nat):=⟨(BF W 90).toNat,by omega⟩;rw [eN];exact ⟨N,rfl,λ HC sC=>k HC⟩
end
end K04
namespace K04
open PySem L2 PySem.Spec PyProof.Rows
theorem all_mk {l:PySem.W.OpenLaw} {w:World} {K:PySem.W.Frag} {h:Heap} {mg:Str->Option Value} {fa:Addr} (X:K.In h) (G:h.Ns mainGlobals mg) (hfa:mg "law"=some (.ref fa))
    {C_Draft C_LoomError C_BadRow C_BadWord C_TooMany C_NotPlain C_NotGrown C_BadDraft C_BadCloth C_OutOfPlace f0 f1 f2 f3 f4 f5 f6 f7 f8 f9 f10 f11 f12 f13 f14 f15 f16 f17 f18 f19 f20 f21 f22 f23 f24 f25 f26 f27 f28 f29 f30 f31:Addr} {d0 d1 d2 d3 d4 d5 d6 d7 d8 d9 d10 d11 d12 d13 d14 d15 d16 d17 d18 d19 d20 d21 d22 d23 d24 d25 d26 d27 d28 d29 d30 d31:FuncData}
    (T0:(∃ fi,HT.iniIn K C_BadRow fi=true)->(∃ fi,HT.iniIn K C_BadWord fi=true)->(∃ fi,HT.iniIn K C_TooMany fi=true)->(∃ fi,HT.iniIn K C_NotPlain fi=true)->(∃ fi,HT.iniIn K C_NotGrown fi=true)->Txt K mg ⟨C_Draft,C_LoomError,C_BadRow,C_BadWord,C_TooMany,C_NotPlain,C_NotGrown,C_BadDraft,C_BadCloth,C_OutOfPlace⟩)
    (D0:DefAt K mg "_law_same" B6 ["_law_found","_law_due"] f0 d0)
    (D1:DefAt K mg "is_whole" En ["thing"] f1 d1)
    (D2:DefAt K mg "is_among" Ej ["thing","least","most"] f2 d2)
    (j3:Meth K C_Draft "told" f3)
    (D3:FnA K "told" "Draft.told" CD ["self"] f3 d3)
    (j4:Meth K C_Draft "ends" f4)
    (D4:FnA K "ends" "Draft.ends" CG ["self"] f4 d4)
    (D5:DefAt K mg "_law_mixed" CN ["_law_cell","_law_k"] f5 d5)
    (D6:DefAt K mg "_law_cells" Cv ["_law_script","_law_first"] f6 d6)
    (D7:DefAt K mg "_law_numbers" B2 ["_law_mask","_law_most"] f7 d7)
    (D8:DefAt K mg "_law_copied" Bz ["_law_thing"] f8 d8)
    (D9:DefAt K mg "_law_draft" CJ ["_law_script","_law_most"] f9 d9)
    (D10:DefAt K mg "is_colour" Dy ["thing"] f10 d10)
    (D11:DefAt K mg "need" Ji ["holds","words"] f11 d11)
    (D12:DefAt K mg "is_list" EQ ["thing","least","most"] f12 d12)
    (D13:DefAt K mg "is_rising" C8 ["thing","most"] f13 d13)
    (D14:DefAt K mg "are_rising" CC ["thing","most"] f14 d14)
    (D15:DefAt K mg "are_colours" Ca ["thing","many"] f15 d15)
    (D16:DefAt K mg "need_draft" Ct ["shafts","treadles","threading","ties","treading","warp","weft"] f16 d16)
    (j17:Mk K C_Draft f17)
    (D17:FnA K "__init__" "Draft.__init__" Bv ["self","shafts","treadles","threading","ties","treading","warp","weft"] f17 d17)
    (D18:DefAt K mg "_law_spoilt" BA ["_law_told"] f18 d18)
    (a19:PySem.W.findIn K (.ref C_BadRow) "__init__"=some (some (.ref f19)))
    (j19:MkI K C_BadRow f19)
    (D19:FnA K "__init__" "BadRow.__init__" Bq ["self","row","word"] f19 d19)
    (a20:PySem.W.findIn K (.ref C_TooMany) "__init__"=some (some (.ref f20)))
    (j20:MkI K C_TooMany f20)
    (D20:FnA K "__init__" "TooMany.__init__" Bm ["self","what","many"] f20 d20)
    (a21:PySem.W.findIn K (.ref C_NotPlain) "__init__"=some (some (.ref f21)))
    (j21:MkI K C_NotPlain f21)
    (D21:FnA K "__init__" "NotPlain.__init__" Bf ["self","what","number"] f21 d21)
    (a22:PySem.W.findIn K (.ref C_NotGrown) "__init__"=some (some (.ref f22)))
    (j22:MkI K C_NotGrown f22)
    (D22:FnA K "__init__" "NotGrown.__init__" Bg ["self","row","column"] f22 d22)
    (a23:PySem.W.findIn K (.ref C_BadWord) "__init__"=some (some (.ref f23)))
    (j23:MkI K C_BadWord f23)
    (D23:FnA K "__init__" "BadWord.__init__" Bl ["self","place"] f23 d23)
    (D24:DefAt K mg "_law_kinds" Cu ["_law_error"] f24 d24)
    (j25:Meth K C_Draft "picks" f25)
    (D25:FnA K "picks" "Draft.picks" Cc ["self"] f25 d25)
    (D26:DefAt K mg "_law_made" C4 ["_law_parts"] f26 d26)
    (D27:DefAt K mg "_law_refused" BZ ["_law_parts"] f27 d27)
    (D28:DefAt K mg "_law_odd" Eg ["_law_number"] f28 d28)
    (D29:DefAt K mg "_law_wrong" CO ["_law_told","_law_number"] f29 d29)
    (D30:DefAt K mg "_law_by_hand" BW ["_law_number"] f30 d30)
    (D31:DefAt K mg "law" LB ["_law_script"] f31 d31)
    (hlb:∀ (s:Shared) (u:Value),BindsTo s d31 ⟨[u],[]⟩ [("_law_script",u)])
    : ∃ fd:FuncData,(∀ (s:Shared) (v:Value),BindsTo s fd ⟨[v],[]⟩ [("_law_script",v)])/\∀ base:Heap,K.In base->base.Ns mainGlobals mg->FnOk l.prog w K mg base CX0 10 fa fd ["_law_script"] (Jn K):=by
  cases hfa.symm.trans D31.at';have T:=T0 ⟨_,j19.ini⟩ ⟨_,j23.ini⟩ ⟨_,j20.ini⟩ ⟨_,j21.ini⟩ ⟨_,j22.ini⟩;exact ⟨_,hlb,λ base _ _=>by
    have c_is_whole:=D1.call (IB (P:=l.prog) (w:=w) (base:=base) D1.fn T);have c_is_among:=D2.call (Hw (P:=l.prog) (w:=w) (base:=base) D2.fn T c_is_whole);have d_Draft_told:EX l.prog w K mg base C_Draft "told" 1 ["self"] _:=⟨_,_,T.kd_Draft.cl,j3,F7 (P:=l.prog) (w:=w) (base:=base) D3.fn T,D3.bi⟩;have d_Draft_ends:EX l.prog w K mg base C_Draft "ends" 1 ["self"] _:=⟨_,_,T.kd_Draft.cl,j4,F6 (P:=l.prog) (w:=w) (base:=base) D4.fn T,D4.bi⟩;have c__law_mixed:=D5.call (Gp (P:=l.prog) (w:=w) (base:=base) D5.fn T);have c__law_cells:=D6.call (Gb (P:=l.prog) (w:=w) (base:=base) D6.fn T);have c__law_numbers:=D7.call (Fc (P:=l.prog) (w:=w) (base:=base) D7.fn T);have c__law_draft:=D9.call (Gf (P:=l.prog) (w:=w) (base:=base) D9.fn T c__law_mixed c__law_cells c__law_numbers);have c_is_colour:=D10.call (Hl (P:=l.prog) (w:=w) (base:=base) D10.fn T);have c_need:=D11.callE (ML (P:=l.prog) (w:=w) (base:=base) D11.fn T);have c_is_list:=D12.call (IV (P:=l.prog) (w:=w) (base:=base) D12.fn T c_is_among);have c_is_rising:=D13.call (Hf (P:=l.prog) (w:=w) (base:=base) D13.fn T c_is_among);have c_are_rising:=D14.call (Gn (P:=l.prog) (w:=w) (base:=base) D14.fn T c_is_rising);have c_are_colours:=D15.call (F2 (P:=l.prog) (w:=w) (base:=base) D15.fn T c_is_list c_is_colour);have c_need_draft:=D16.callE (Gq (P:=l.prog) (w:=w) (base:=base) D16.fn T c_need c_is_among c_is_list c_are_rising c_are_colours);have m_Draft:Lg l.prog w K mg base "Draft" C_Draft 6 ["self","shafts","treadles","threading","ties","treading","warp","weft"] _:=⟨_,_,T.g_Draft,j17,Ew (P:=l.prog) (w:=w) (base:=base) D17.fn T c_need_draft,D17.bi⟩;have m_BadRow:BU l.prog w K mg base "BadRow" C_BadRow 1 ["self","row","word"] _:=⟨_,_,T.g_BadRow,j19,Ee (P:=l.prog) (w:=w) (base:=base) D19.fn T,D19.bi⟩;have m_TooMany:BU l.prog w K mg base "TooMany" C_TooMany 1 ["self","what","many"] _:=⟨_,_,T.g_TooMany,j20,DM (P:=l.prog) (w:=w) (base:=base) D20.fn T,D20.bi⟩;have m_NotPlain:BU l.prog w K mg base "NotPlain" C_NotPlain 1 ["self","what","number"] _:=⟨_,_,T.g_NotPlain,j21,Dz (P:=l.prog) (w:=w) (base:=base) D21.fn T,D21.bi⟩;have m_NotGrown:BU l.prog w K mg base "NotGrown" C_NotGrown 1 ["self","row","column"] _:=⟨_,_,T.g_NotGrown,j22,DC (P:=l.prog) (w:=w) (base:=base) D22.fn T,D22.bi⟩;have m_BadWord:BU l.prog w K mg base "BadWord" C_BadWord 1 ["self","place"] _:=⟨_,_,T.g_BadWord,j23,DN (P:=l.prog) (w:=w) (base:=base) D23.fn T,D23.bi⟩;have c__law_kinds:=D24.call (Gk (P:=l.prog) (w:=w) (base:=base) D24.fn T);have d_Draft_picks:EX l.prog w K mg base C_Draft "picks" 1 ["self"] _:=⟨_,_,T.kd_Draft.cl,j25,FO (P:=l.prog) (w:=w) (base:=base) D25.fn T,D25.bi⟩;have c__law_made:=D26.callE (GZ (P:=l.prog) (w:=w) (base:=base) D26.fn T m_Draft);have c__law_refused:=D27.call (Ff (P:=l.prog) (w:=w) (base:=base) D27.fn T c__law_made c__law_kinds);have c__law_odd:=D28.call (IA (P:=l.prog) (w:=w) (base:=base) D28.fn T);have c__law_wrong:=D29.call (Gi (P:=l.prog) (w:=w) (base:=base) D29.fn T (D8.call (BV (P:=l.prog) (w:=w) (base:=base) D8 T 4)) c__law_odd);have c__law_by_hand:=D30.call (Fd (P:=l.prog) (w:=w) (base:=base) D30.fn T m_BadRow m_NotGrown m_TooMany m_NotPlain m_BadWord c__law_kinds);exact PF D31.fn T c__law_draft (D8.call (BV (P:=l.prog) (w:=w) (base:=base) D8 T 4)) c__law_made (D18.call (Di (P:=l.prog) (w:=w) (base:=base) D18 T 4)) d_Draft_told (D0.call (EA (P:=l.prog) (w:=w) (base:=base) D0 T 4)) d_Draft_ends d_Draft_picks c__law_mixed c__law_refused c__law_wrong c__law_by_hand
    ⟩
theorem walk {l:PySem.W.OpenLaw} {q:Program} {loose:List Str} {XP:(Str->Option Value)->Heap->Prop} {YP:World->Heap->Prop} {d:DefRec} {K:Params->PySem.W.Frag} (hn:l.most=some 63) (hdf:d.params.defaults=[])
    (hY:∀ (w:World) (h:Heap),YP w h->(K w.params).In h)
    (F:∀ (w:World) (mg:Str->Option Value) (fa:Addr) (h:Heap),(K w.params).In h->h.Ns mainGlobals mg->mg d.name=some (.ref fa)->
      ∃ fd:FuncData,(∀ (s:Shared) (v:Value),BindsTo s fd ⟨[v],[]⟩ [("_law_script",v)])/\∀ base:Heap,(K w.params).In base->base.Ns mainGlobals mg->FnOk l.prog w (K w.params) mg base CX0 10 fa fd ["_law_script"] (Jn (K w.params))):
    PySem.W.WalkO q loose XP YP l.row.toRowW d [] (λ f vs=>PySem.call f vs):=
  L2.walk_of (n:=63) (k:=10) (x:="_law_script") (CX:=λ _=>CX0) (sp:=λ w=>Jn (K w.params)) hn (by decide) hdf ⟨rfl,by decide,by decide⟩ hY F (λ _ _ a ns hl _ hS=>⟨a,ns,rfl,hS,hl,λ _=>rfl⟩) λ _ _ _ _ _ z=>z
end K04
open PySem PySem.W PyProof.Rows
set_option maxRecDepth 100000 in
set_option maxHeartbeats 0 in
theorem PySem.Challenge.cw_loomwright_k04_drafts_made_holds : PySem.Challenge.rw_loomwright_k04_drafts_made.Holds := by
  w_on
  refine PySem.W.holds_law (by first | k_qdec | decide +kernel) λ said=> ?_;refine PySem.W.holds_open (q:=K04.view) (loose:=[]) (Xt:=K04.Xt) (XP:=PySem.W.XL K04.view []) (Yf:=(PySem.W.kHook K04.frag K04.addrs K04.addrs_eq).obs) (Ya:=(PySem.W.kHook K04.frag K04.addrs K04.addrs_eq).val) (YP:=(PySem.W.kHook K04.frag K04.addrs K04.addrs_eq).says) (N:=K04.fuel) K04.left (PySem.W.kHook K04.frag K04.addrs K04.addrs_eq).of (PySem.W.kHook K04.frag K04.addrs K04.addrs_eq).keeps (λ s e=>PySem.W.xl_of s (Bool.and_eq_true_iff.mp e).1) PySem.W.XL.keeps (by rfl) (by rfl) (by rfl) (λ s e=>PySem.W.recFacts_of (Bool.and_eq_true_iff.mp e).2) (by rfl) (by first | assumption | decide +kernel) (by first | k_qdec | decide +kernel) ⟨rfl,rfl,rfl,rfl,rfl,by decide +kernel⟩ ?hw ?hc
  (case hw=>w_witness2)
  k_fill
  refine K04.walk (l:=PySem.Challenge.rw_loomwright_k04_drafts_made) rfl rfl (λ w h Y=>PySem.W.kIn_of Y) ?F
  case F=>
    intro w mg fa h KX G hmg;refine' K04.all_mk KX G hmg ?T ?_ ?_ ?_ ?_ ?_ ?_ ?_ ?_ ?_ ?_ ?_ ?_ ?_ ?_ ?_ ?_ ?_ ?_ ?_ ?_ ?_ ?_ ?_ ?_ ?_ ?_ ?_ ?_ ?_ ?_ ?_ ?_ ?_ ?_ ?_ ?_ ?_ ?_ ?_ ?_ ?_ ?_ ?_ ?_ ?_ ?_ ?_
    case T=>
      intros
      constructor
      all_goals try dsimp only
      all_goals try ((with_reducible refine' PySem.W.mg_of KX G ?_);k_is)
      all_goals first
        | ((with_reducible refine' L2.own_cons (PySem.W.mg_none_of KX G ?_) ?_) <;> (repeat' first | (with_reducible exact L2.own_nil) | (with_reducible refine' L2.own_cons (PySem.W.mg_none_of KX G ?_) ?_) | k_is))
        | ((with_reducible first | refine' L2.ci_mk (PySem.W.mg_of KX G ?_) | refine' L2.cs_mk (PySem.W.mg_of KX G ?_)) <;> first | k_is | skip)
        | with_reducible assumption
        | (refine' ⟨⟨?_,?_,?_,?_⟩,?_,?_,?_,?_⟩ <;> k_is)
        | ((with_reducible refine' L2.xk_mk (L2.exc_mk ?_ ?_ ?_ ?_ ?_ ?_ ?_ ?_) ?_) <;> k_is)
        | ((with_reducible refine' L2.exc_mk ?_ ?_ ?_ ?_ ?_ ?_ ?_ ?_) <;> k_is)
        | (refine' ⟨?_,?_,?_⟩ <;> first | k_is | kernel_rfl)
        | (unfold L2.NoAttr;k_is)
        | k_is | k_exc | kts_exm | kit_is
    all_goals first
      | (refine' L2.def_mk (PySem.W.mg_of KX G ?_) (L2.fun_mk ?_ ?_ ?_) ?_ <;> first | k_is | exact L2.arg1 λ _=>rfl | exact L2.arg2 λ _ _=>rfl | exact L2.arg3 λ _ _ _=>rfl | exact L2.arg4 λ _ _ _ _=>rfl | exact L2.arg5 λ _ _ _ _ _=>rfl | exact L2.arg6 λ _ _ _ _ _ _=>rfl | exact L2.arg7 λ _ _ _ _ _ _ _=>rfl | exact L2.arg8 λ _ _ _ _ _ _ _ _=>rfl | exact L2.arg9 λ _ _ _ _ _ _ _ _ _=>rfl | skip)
      | (refine' L2.fnA_mk (L2.fun_mk ?_ ?_ ?_) ?_ <;> first | k_is | exact L2.arg1 λ _=>rfl | exact L2.arg2 λ _ _=>rfl | exact L2.arg3 λ _ _ _=>rfl | exact L2.arg4 λ _ _ _ _=>rfl | exact L2.arg5 λ _ _ _ _ _=>rfl | exact L2.arg6 λ _ _ _ _ _ _=>rfl | exact L2.arg7 λ _ _ _ _ _ _ _=>rfl | exact L2.arg8 λ _ _ _ _ _ _ _ _=>rfl | exact L2.arg9 λ _ _ _ _ _ _ _ _ _=>rfl | skip)
      | (refine' ⟨?_,?_,?_,?_⟩;all_goals first | k_is | kernel_rfl | skip)
      | (refine' ⟨?_,?_,?_⟩;all_goals first | k_is | kernel_rfl | skip)
      | k_is
      | exact λ s u=> .of_eq rfl
      | rfl | kernel_rfl | exact List.mem_cons_self | decide | skip
