import PyProof.Rows.All
import Wide.All
import OpenK.AllK
import Wide.FinOn
import Lean
import PyProof.EqAt
import PyProof.EqKinds
import PyProof.TupleCall
import PyProof.StrLawsChain
import KE.KIntText
import PyProof.EnumFor
import PyProof.EnumMake
import PyProof.ZipIter
import PyProof.LayNew
import KE.KTurns
import PyProof.Rows.Range3
import KE.KRevSl
import KE.KDictList
import PyProof.Draws
import PyProof.Rows.RuleM_int
import PyProof.Rows.BitMore
import PyProof.NeKinds
import KE.KRevIter
import PyProof.JoinWalk
import KE.KDictSum
import KE.KSortTup
import KE.KTryMore
import PyProof.ExcArgs
import OpenK.KOwn
import PyProof.ExcBaseAll.ValueError
import KE.KLam
import KE.KNestM
import PyProof.Rows.SetFrom
import PyProof.AttrMissHeap
import KE.KDictOf
import PyProof.TupleKey
import PyProof.DictRoadsH
import PyProof.MeetsDict
import KE.KItemsList
import KE.KSetDisp
import PySem.Challenge.RW_loomwright_k08_whole_fewest_treadles
set_option Elab.async false
set_option linter.all false
set_option maxRecDepth 100000
set_option maxHeartbeats 4000000
noncomputable section
namespace L2
open PySem
def AA (s:Stmt) (j:Nat):Stmt:=match s with
  | .ClassDef _ _ _ body _ _ _ _ _ _ _=>body.getD j (.Pass ⟨0,0,0,0⟩)
  | _=> .Pass ⟨0,0,0,0⟩
def DV (s:Stmt):Arguments:=match s with
  | .FunctionDef _ a _ _ _ _ _ _ _ _=>a
  | _=>{ posonlyargs:=[],args:=[],vararg:=none,kwonlyargs:=[],kw_defaults:=[],kwarg:=none,defaults:=[] }
def BO (s:Stmt):List Stmt:=match s with
  | .FunctionDef _ _ b _ _ _ _ _ _ _=>b
  | _=>[]
def Ah (s:Stmt):Scope:=match s with
  | .FunctionDef _ _ _ _ _ _ sc _ _ _=>sc
  | _=>{ kind:= .function,names:=[],isGenerator:=false,isCoroutine:=false }
end L2
namespace K08
open PySem
def top (i:Nat):Stmt:=PySem.Challenge.pw_loomwright_k08_whole_fewest_treadles.main.body.getD i (.Pass ⟨0,0,0,0⟩)
end K08
namespace HX
open PySem PySem.W PySem.Calls PyProof.Rows
def topT (tb:String->Option Builtin) (p:Program) (w:World) (n₀:Nat) (ann:Option Value):Nat->SharedT->Thread->Option SharedT
  | 0,_,_=>none
  | n+1,s,t=>match through t with
    | true=>some s
    | false=>match stepOk n₀ ann t with
      | false=>none
      | true=>match stepT (denote tb) p w s t with
        | some (s',t')=>topT tb p w n₀ ann n s' t'
        | none=>none
theorem topT_of {tb:String->Option Builtin} {p:Program} {w:World} {n₀:Nat} {ann:Option Value}:∀ {n:Nat} {s s':SharedT} {t:Thread},topT tb p w n₀ ann n s t=some s'->topRun tb p w n₀ ann n s.abs t=some s'.abs
  | 0,_,_,_,h=>by cases h
  | n+1,s,s',t,h=>by
    unfold topT at h;unfold topRun;cases ht:through t with
    | true=>rw [ht] at h;cases h;rfl
    | false=>
      rw [ht] at h;cases hk:stepOk n₀ ann t with
      | false=>rw [hk] at h;cases h
      | true=>
        rw [hk] at h;cases hs:stepT (denote tb) p w s t with
        | none=>rw [hs] at h;cases h
        | some x=>
          obtain ⟨s2,t2⟩:=x;rw [hs] at h;dsimp only;rw [stepT_spec hs];exact topT_of h
def ofL:List Obj->Nat->BT->BT
  | [],_,t=>t
  | o::r,i,t=>ofL r (i+1) (t.ins i o)
def bootT (P:Params):BT:=ofL (boot_heap P).objs.toList 0 .nil
def fn0 (name qual:Str) (a:Arguments) (b:List Stmt) (sc:Scope):FuncData:=
  { name,qualname:=qual,params:=a,body:= .stmts b,scope:=sc,globals:=0,closure:=[],defaults:= .none,kwdefaults:= .none }
theorem left_run {p q:Program} {loose:List Str} {Xt:Shared->Bool} {α:Type} {Yf:Shared->α} {Ya:World->α} {N:Nat} {g0:Bool}
    (e:opening p=plainProg p.main.scope.names) (hN:Nat.ble 600 N=true) (f:∀ s,fenceModules? p s=some s)
    (hb:∀ P:Params,(absHeap (bootT P) 11 {},boot_drawn,(boot_heap P).isNs mainGlobals,(boot_heap P).objs.size,(boot_heap P).nsMap mainGlobals "__annotations__")=(boot_heap P,boot_drawn,true,11,some (.ref 6)))
    (run:∀ (w:World) (os:OsState),∃ s:Shared,topRun treeTable p w 11 (some (.ref 6)) N (⟨bootT w.params,11,{},Array.mk [],boot_drawn,boot_toks,os⟩:SharedT).abs (topStub p)=some s/\((staticsOk (importedModules p.main.body) (boot_heap w.params) s.heap&&namesBound p s.heap&&gensDone s&&laidKept (boot_heap w.params) s.heap),openSeen q loose (importedModules p.main.body) Xt g0 s,Yf s)=(true,openGood q loose,Ya w)):LeftO p q loose Xt Yf Ya N g0:=λ w=>by
  obtain ⟨⟨h,gs,d,k,os⟩,e1,e'⟩:=Option.map_eq_some_iff.mp (boot_open (p:=p) (N:=N) e hN f w);obtain ⟨rfl,rfl,rfl,rfl⟩:h=boot_heap w.params/\gs=Array.mk []/\d=boot_drawn/\k=boot_toks:=by simpa using e'
  have hb':=hb w.params;simp only [Prod.mk.injEq] at hb';obtain ⟨b1,_,b2,b3,b4⟩:=hb';obtain ⟨s,r,l⟩:=run w os;obtain ⟨l1,l2,l3⟩:_/\_/\_:=by simpa only [Prod.mk.injEq] using l
  have b0:(⟨bootT w.params,11,{},Array.mk [],boot_drawn,boot_toks,os⟩:SharedT).abs=⟨boot_heap w.params,Array.mk [],boot_drawn,boot_toks,os⟩:=by
    show (⟨absHeap (bootT w.params) 11 {},_,_,_,_⟩:Shared)=_;rw [b1]
  rw [b0] at r;have t:topFrom treeTable p w N ⟨boot_heap w.params,Array.mk [],boot_drawn,boot_toks,os⟩=some s:=by
    unfold topFrom;dsimp only;rw [b2,b3,b4];show Option.bind (topRun treeTable p w 11 (some (.ref 6)) N ⟨boot_heap w.params,Array.mk [],boot_drawn,boot_toks,os⟩ (topStub p)) _=_;rw [r];show (match staticsOk (importedModules p.main.body) (boot_heap w.params) s.heap&&namesBound p s.heap&&gensDone s&&laidKept (boot_heap w.params) s.heap with | true=>_ | false=>_)=_;rw [l1]
  unfold openEnds;rw [e1];show (topFrom treeTable p w N _).map _=_;rw [t];exact congrArg some (Prod.ext l2 l3)
theorem three {α β γ:Type} {a a':α} {b b':β} {c c':γ} (h:(a,c)=(a',c')) (k:b=b'):(a,b,c)=(a',b',c'):=by
  cases h;cases k;rfl
theorem hb (P:Params):(absHeap (bootT P) 11 {},boot_drawn,(boot_heap P).isNs mainGlobals,(boot_heap P).objs.size,(boot_heap P).nsMap mainGlobals "__annotations__")=(boot_heap P,boot_drawn,true,11,some (.ref 6)):=by kernel_rfl
end HX
namespace K08
open PySem L2 PySem.W PySem.Calls PyProof.Rows
abbrev Ob:=Params->Obj
abbrev dE (P:Params) (s:Str) (t:Tok) (v:Value):DictEntry:=⟨PyData.keyHash P s, .str s t,v⟩
abbrev dR (P:Params) (s:Str) (t:Tok) (a:Addr):DictEntry:=⟨PyData.keyHash P s, .str s t, .ref a⟩
abbrev tu (xs:Array Value):Obj:=⟨.type "tuple",none, .seq xs 0, #[]⟩
abbrev di (es:Array DictEntry) (n:Nat):Obj:=⟨.type "dict",none, .dict es n, #[]⟩
abbrev f0 (n q:Str) (st:Stmt):FuncData:=HX.fn0 n q (DV st) (BO st) (Ah st)
abbrev fo (n q:Str) (st:Stmt) (m:Str) (t:Tok) (c:Addr):Obj:=⟨.type "function",none, .func (fnOf n q (DV st) (BO st) (Ah st) .none .none .none (.str m t) none (.ref c) .none), #[]⟩
abbrev co (n q:Str) (t:Tok) (l ac nl:Int) (a:Addr) (b:Bool) (r:Addr) (c d e:Value) (k:Int) (t4:Tok):Obj:=⟨.type "code",none, .fields #[.str n t, .str q (t+1), .str "/claim/cut.py" (t+2), .int l 0, .int ac 0, .int 0 0, .int 0 0, .int nl 0, .ref a, .bool b, .int 181 0, .ref r, .none,c,d,e, .int k 0, .int l 0, .str "/claim/cut.py" t4], #[]⟩
noncomputable def o3:Ob:=λ P=>di #[dE P "__name__" 165 (.str "law_loomwright_k08_whole_fewest_treadles" 826),dE P "__doc__" 166 .none,dE P "__package__" 167 .none,dE P "__loader__" 168 (.builtin "__main__.__loader__#opaque"),dE P "__spec__" 169 .none,dR P "__annotations__" 170 6,dR P "__builtins__" 171 4,dE P "__file__" 173 (.str "/claim/cut.py" 172),dE P "__cached__" 174 .none,dR P "_wall" 193 21,dR P "bit_of" 202 28,dR P "mask_of" 211 35,dR P "mask_to" 218 42,dR P "has_number" 226 49,dR P "numbers_of" 232 54,dR P "union_of" 241 61,dE P "MOST_SHAFTS" 243 (.int 16 242),dE P "MOST_TREADLES" 245 (.int 16 244),dE P "MOST_ENDS" 247 (.int 60 246),dE P "MOST_PICKS" 249 (.int 60 248),dR P "LoomError" 269 71,dR P "BadRow" 296 91,dR P "BadWord" 321 110,dR P "TooMany" 348 129,dR P "NotPlain" 375 148,dR P "NotGrown" 402 167,dR P "BadDraft" 418 179,dR P "BadCloth" 434 191,dR P "OutOfPlace" 450 203,dE P "COLOURS" 454 (.str "abcdefghijklmnopqrstuvwxyz" 453),dR P "is_whole" 461 212,dR P "is_among" 470 219,dR P "is_colour" 477 226,dR P "need" 487 233,dR P "is_list" 496 240,dR P "is_rising" 506 247,dR P "are_rising" 512 252,dR P "are_colours" 518 257,dR P "need_draft" 524 262,dR P "Draft" 577 296,dE P "WARP_COLOUR" 581 (.str "a" 580),dE P "WEFT_COLOUR" 583 (.str "b" 582),dR P "numbered_kinds" 592 307,dR P "kind_numbers" 598 312,dR P "kinds_of" 605 319,dR P "columns_of" 611 324,dR P "first_places" 617 329,dR P "fewest_shown" 624 336,dR P "tie_at" 630 341,dR P "need_at_most" 639 348,dR P "draft_for" 652 355,dR P "read_off" 658 360,dE P "MOST_LIFTED" 662 (.int 4 661),dR P "lies_within" 670 367,dR P "is_told" 676 372,dR P "ties_behind" 682 377,dR P "few_ties" 692 384,dR P "trodden_of" 698 389,dR P "fewest_treadles" 704 394,dR P "need_cloth" 712 399,dR P "Cloth" 787 456,dR P "lift_by" 795 465,dR P "lifts_of" 801 470,dR P "ends_through" 807 475,dR P "shaft_ends" 813 480,dR P "row_by" 819 485,dR P "woven" 825 490,dR P "_law_mixed" 835 497,dR P "_law_kinds" 841 502,dR P "_law_rows" 847 507,dR P "_law_columns" 853 512,dR P "_law_draft_good" 859 517,dR P "law" 876 524] 73
def o15:Ob:=λ P=>tu #[]
def o17:Ob:=λ P=>tu #[(.str "k" 190)]
def o18:Ob:=λ P=>tu #[]
noncomputable def o20:Ob:=λ P=>co "_wall" "_wall" 187 1 1 3 15 true 16 (.ref 17) (.ref 18) (.ref 19) 191 192
noncomputable def o21:Ob:=λ P=>fo "_wall" "_wall" (top 0) "__main__" 164 20
def o22:Ob:=λ P=>tu #[]
def o24:Ob:=λ P=>tu #[(.str "number" 199)]
def o25:Ob:=λ P=>tu #[]
noncomputable def o27:Ob:=λ P=>co "bit_of" "bit_of" 196 5 1 3 22 true 23 (.ref 24) (.ref 25) (.ref 26) 200 201
noncomputable def o28:Ob:=λ P=>fo "bit_of" "bit_of" (top 2) "loomwright.masks" 194 27
def o29:Ob:=λ P=>tu #[]
noncomputable def o31:Ob:=λ P=>tu #[(.str "numbers" 206),(.str "mask" 207),(.str "number" 208)]
def o32:Ob:=λ P=>tu #[]
noncomputable def o34:Ob:=λ P=>co "mask_of" "mask_of" 203 7 1 3 29 true 30 (.ref 31) (.ref 32) (.ref 33) 209 210
def o35:Ob:=λ P=>fo "mask_of" "mask_of" (top 3) "loomwright.masks" 194 34
def o36:Ob:=λ P=>tu #[]
def o38:Ob:=λ P=>tu #[(.str "most" 215)]
def o39:Ob:=λ P=>tu #[]
noncomputable def o41:Ob:=λ P=>co "mask_to" "mask_to" 212 12 1 3 36 true 37 (.ref 38) (.ref 39) (.ref 40) 216 217
def o42:Ob:=λ P=>fo "mask_to" "mask_to" (top 4) "loomwright.masks" 194 41
def o43:Ob:=λ P=>tu #[]
def o45:Ob:=λ P=>tu #[(.str "mask" 222),(.str "number" 223)]
def o46:Ob:=λ P=>tu #[]
noncomputable def o48:Ob:=λ P=>co "has_number" "has_number" 219 14 2 3 43 true 44 (.ref 45) (.ref 46) (.ref 47) 224 225
def o49:Ob:=λ P=>fo "has_number" "has_number" (top 5) "loomwright.masks" 194 48
def o50:Ob:=λ P=>tu #[]
noncomputable def o53:Ob:=λ P=>co "numbers_of" "numbers_of" 227 16 1 3 50 true 51 .none .none (.ref 52) 230 231
def o54:Ob:=λ P=>fo "numbers_of" "numbers_of" (top 6) "loomwright.masks" 194 53
def o55:Ob:=λ P=>tu #[]
noncomputable def o57:Ob:=λ P=>tu #[(.str "masks" 236),(.str "union" 237),(.str "mask" 238)]
def o58:Ob:=λ P=>tu #[]
noncomputable def o60:Ob:=λ P=>co "union_of" "union_of" 233 18 1 3 55 true 56 (.ref 57) (.ref 58) (.ref 59) 239 240
def o61:Ob:=λ P=>fo "union_of" "union_of" (top 7) "loomwright.masks" 194 60
def o62:Ob:=λ P=>tu #[(.type "ValueError")]
def o69:Ob:=λ P=>tu #[]
noncomputable def o70:Ob:=λ P=>di #[dE P "__module__" 259 (.str "loomwright.errors" 250),dE P "__firstlineno__" 263 (.int 28 262),dR P "__static_attributes__" 264 69,dR P "__weakref__" 266 72,dE P "__doc__" 267 .none] 3
noncomputable def o71:Ob:=λ P=>⟨(.type "type"),none,(.cls ⟨"LoomError",[(.type "ValueError")],[(.ref 71),(.type "ValueError"),(.type "Exception"),(.type "BaseException"),(.type "object")],70,"LoomError",true,[],[(.ref 91),(.ref 110),(.ref 129),(.ref 148),(.ref 167),(.ref 179),(.ref 191),(.ref 203)],false,none,false⟩), #[(some (.ref 62)),none,(some (.str "LoomError" 252)),(some (.str "LoomError" 260)),(some (.builtin "ValueError.__new__")),(some (.bool true))]⟩
def o72:Ob:=λ P=>⟨(.type "getset_descriptor"),none,(.fields #[(.str "__weakref__" 265),(.ref 71),(.builtin "ExceptionGroup.__weakref__"), .none]), #[]⟩
def o75:Ob:=λ P=>tu #[(.ref 71)]
def o82:Ob:=λ P=>tu #[]
noncomputable def o84:Ob:=λ P=>tu #[(.str "self" 285),(.str "row" 286),(.str "word" 287)]
def o85:Ob:=λ P=>tu #[]
noncomputable def o87:Ob:=λ P=>co "__init__" "BadRow.__init__" 282 32 3 3 82 true 83 (.ref 84) (.ref 85) (.ref 86) 288 289
noncomputable def o88:Ob:=λ P=>fo "__init__" "BadRow.__init__" (AA (top 14) 0) "loomwright.errors" 250 87
def o89:Ob:=λ P=>tu #[(.str "row" 291),(.str "word" 292)]
def o90:Ob:=λ P=>di #[dE P "__module__" 277 (.str "loomwright.errors" 250),dE P "__firstlineno__" 281 (.int 30 280),dR P "__init__" 290 88,dR P "__static_attributes__" 293 89,dE P "__doc__" 294 .none] 2
noncomputable def o91:Ob:=λ P=>⟨(.type "type"),none,(.cls ⟨"BadRow",[(.ref 71)],[(.ref 91),(.ref 71),(.type "ValueError"),(.type "Exception"),(.type "BaseException"),(.type "object")],90,"BadRow",true,[],[],false,none,false⟩), #[(some (.ref 75)),none,(some (.str "BadRow" 270)),(some (.str "BadRow" 278)),(some (.builtin "ValueError.__new__")),(some (.bool true))]⟩
def o94:Ob:=λ P=>tu #[(.ref 71)]
def VI:Ob:=λ P=>tu #[]
def Zt:Ob:=λ P=>tu #[(.str "self" 312),(.str "place" 313)]
def XM:Ob:=λ P=>tu #[]
noncomputable def US:Ob:=λ P=>co "__init__" "BadWord.__init__" 309 38 2 3 101 true 102 (.ref 103) (.ref 104) (.ref 105) 314 315
noncomputable def XN:Ob:=λ P=>fo "__init__" "BadWord.__init__" (AA (top 15) 0) "loomwright.errors" 250 106
def Zo:Ob:=λ P=>tu #[(.str "place" 317)]
noncomputable def U5:Ob:=λ P=>di #[dE P "__module__" 304 (.str "loomwright.errors" 250),dE P "__firstlineno__" 308 (.int 36 307),dR P "__init__" 316 107,dR P "__static_attributes__" 318 108,dE P "__doc__" 319 .none] 2
noncomputable def Yh:Ob:=λ P=>⟨(.type "type"),none,(.cls ⟨"BadWord",[(.ref 71)],[(.ref 110),(.ref 71),(.type "ValueError"),(.type "Exception"),(.type "BaseException"),(.type "object")],109,"BadWord",true,[],[],false,none,false⟩), #[(some (.ref 94)),none,(some (.str "BadWord" 297)),(some (.str "BadWord" 305)),(some (.builtin "ValueError.__new__")),(some (.bool true))]⟩
def VR:Ob:=λ P=>tu #[(.ref 71)]
def VT:Ob:=λ P=>tu #[]
noncomputable def VO:Ob:=λ P=>tu #[(.str "self" 337),(.str "what" 338),(.str "many" 339)]
def Vn:Ob:=λ P=>tu #[]
noncomputable def Ux:Ob:=λ P=>co "__init__" "TooMany.__init__" 334 43 3 3 120 true 121 (.ref 122) (.ref 123) (.ref 124) 340 341
noncomputable def VM:Ob:=λ P=>fo "__init__" "TooMany.__init__" (AA (top 16) 0) "loomwright.errors" 250 125
def Wl:Ob:=λ P=>tu #[(.str "many" 343),(.str "what" 344)]
def Wq:Ob:=λ P=>di #[dE P "__module__" 329 (.str "loomwright.errors" 250),dE P "__firstlineno__" 333 (.int 41 332),dR P "__init__" 342 126,dR P "__static_attributes__" 345 127,dE P "__doc__" 346 .none] 2
noncomputable def Va:Ob:=λ P=>⟨(.type "type"),none,(.cls ⟨"TooMany",[(.ref 71)],[(.ref 129),(.ref 71),(.type "ValueError"),(.type "Exception"),(.type "BaseException"),(.type "object")],128,"TooMany",true,[],[],false,none,false⟩), #[(some (.ref 113)),none,(some (.str "TooMany" 322)),(some (.str "TooMany" 330)),(some (.builtin "ValueError.__new__")),(some (.bool true))]⟩
def Xp:Ob:=λ P=>tu #[(.ref 71)]
def YN:Ob:=λ P=>tu #[]
def Xd:Ob:=λ P=>tu #[(.str "self" 364),(.str "what" 365),(.str "number" 366)]
def Wc:Ob:=λ P=>tu #[]
noncomputable def Yo:Ob:=λ P=>co "__init__" "NotPlain.__init__" 361 49 3 3 139 true 140 (.ref 141) (.ref 142) (.ref 143) 367 368
noncomputable def XR:Ob:=λ P=>fo "__init__" "NotPlain.__init__" (AA (top 17) 0) "loomwright.errors" 250 144
def Zm:Ob:=λ P=>tu #[(.str "number" 370),(.str "what" 371)]
noncomputable def W9:Ob:=λ P=>di #[dE P "__module__" 356 (.str "loomwright.errors" 250),dE P "__firstlineno__" 360 (.int 47 359),dR P "__init__" 369 145,dR P "__static_attributes__" 372 146,dE P "__doc__" 373 .none] 2
noncomputable def U3:Ob:=λ P=>⟨(.type "type"),none,(.cls ⟨"NotPlain",[(.ref 71)],[(.ref 148),(.ref 71),(.type "ValueError"),(.type "Exception"),(.type "BaseException"),(.type "object")],147,"NotPlain",true,[],[],false,none,false⟩), #[(some (.ref 132)),none,(some (.str "NotPlain" 349)),(some (.str "NotPlain" 357)),(some (.builtin "ValueError.__new__")),(some (.bool true))]⟩
def Zw:Ob:=λ P=>tu #[(.ref 71)]
def Zv:Ob:=λ P=>tu #[]
def Xx:Ob:=λ P=>tu #[(.str "self" 391),(.str "row" 392),(.str "column" 393)]
def XJ:Ob:=λ P=>tu #[]
noncomputable def XX:Ob:=λ P=>co "__init__" "NotGrown.__init__" 388 55 3 3 158 true 159 (.ref 160) (.ref 161) (.ref 162) 394 395
noncomputable def X0:Ob:=λ P=>fo "__init__" "NotGrown.__init__" (AA (top 18) 0) "loomwright.errors" 250 163
def YS:Ob:=λ P=>tu #[(.str "column" 397),(.str "row" 398)]
def WX:Ob:=λ P=>di #[dE P "__module__" 383 (.str "loomwright.errors" 250),dE P "__firstlineno__" 387 (.int 53 386),dR P "__init__" 396 164,dR P "__static_attributes__" 399 165,dE P "__doc__" 400 .none] 2
noncomputable def YJ:Ob:=λ P=>⟨(.type "type"),none,(.cls ⟨"NotGrown",[(.ref 71)],[(.ref 167),(.ref 71),(.type "ValueError"),(.type "Exception"),(.type "BaseException"),(.type "object")],166,"NotGrown",true,[],[],false,none,false⟩), #[(some (.ref 151)),none,(some (.str "NotGrown" 376)),(some (.str "NotGrown" 384)),(some (.builtin "ValueError.__new__")),(some (.bool true))]⟩
def Uo:Ob:=λ P=>tu #[(.ref 71)]
def Yr:Ob:=λ P=>tu #[]
def WQ:Ob:=λ P=>di #[dE P "__module__" 410 (.str "loomwright.errors" 250),dE P "__firstlineno__" 414 (.int 59 413),dR P "__static_attributes__" 415 177,dE P "__doc__" 416 .none] 2
noncomputable def VP:Ob:=λ P=>⟨(.type "type"),none,(.cls ⟨"BadDraft",[(.ref 71)],[(.ref 179),(.ref 71),(.type "ValueError"),(.type "Exception"),(.type "BaseException"),(.type "object")],178,"BadDraft",true,[],[],false,none,false⟩), #[(some (.ref 170)),none,(some (.str "BadDraft" 403)),(some (.str "BadDraft" 411)),(some (.builtin "ValueError.__new__")),(some (.bool true))]⟩
def V9:Ob:=λ P=>tu #[(.ref 71)]
def Vc:Ob:=λ P=>tu #[]
def VZ:Ob:=λ P=>di #[dE P "__module__" 426 (.str "loomwright.errors" 250),dE P "__firstlineno__" 430 (.int 61 429),dR P "__static_attributes__" 431 189,dE P "__doc__" 432 .none] 2
noncomputable def Ve:Ob:=λ P=>⟨(.type "type"),none,(.cls ⟨"BadCloth",[(.ref 71)],[(.ref 191),(.ref 71),(.type "ValueError"),(.type "Exception"),(.type "BaseException"),(.type "object")],190,"BadCloth",true,[],[],false,none,false⟩), #[(some (.ref 182)),none,(some (.str "BadCloth" 419)),(some (.str "BadCloth" 427)),(some (.builtin "ValueError.__new__")),(some (.bool true))]⟩
def VE:Ob:=λ P=>tu #[(.ref 71)]
def YT:Ob:=λ P=>tu #[]
def Xm:Ob:=λ P=>di #[dE P "__module__" 442 (.str "loomwright.errors" 250),dE P "__firstlineno__" 446 (.int 63 445),dR P "__static_attributes__" 447 201,dE P "__doc__" 448 .none] 2
noncomputable def Zn:Ob:=λ P=>⟨(.type "type"),none,(.cls ⟨"OutOfPlace",[(.ref 71)],[(.ref 203),(.ref 71),(.type "ValueError"),(.type "Exception"),(.type "BaseException"),(.type "object")],202,"OutOfPlace",true,[],[],false,none,false⟩), #[(some (.ref 194)),none,(some (.str "OutOfPlace" 435)),(some (.str "OutOfPlace" 443)),(some (.builtin "ValueError.__new__")),(some (.bool true))]⟩
def YC:Ob:=λ P=>tu #[]
def WS:Ob:=λ P=>tu #[(.str "thing" 458)]
def UL:Ob:=λ P=>tu #[]
noncomputable def U9:Ob:=λ P=>co "is_whole" "is_whole" 455 67 1 3 206 true 207 (.ref 208) (.ref 209) (.ref 210) 459 460
noncomputable def YM:Ob:=λ P=>fo "is_whole" "is_whole" (top 24) "loomwright.words" 451 211
def UR:Ob:=λ P=>tu #[]
def Wm:Ob:=λ P=>tu #[(.str "thing" 465),(.str "least" 466),(.str "most" 467)]
def ZH:Ob:=λ P=>tu #[]
noncomputable def XW:Ob:=λ P=>co "is_among" "is_among" 462 69 3 3 213 true 214 (.ref 215) (.ref 216) (.ref 217) 468 469
def Xe:Ob:=λ P=>fo "is_among" "is_among" (top 25) "loomwright.words" 451 218
def VF:Ob:=λ P=>tu #[]
def UM:Ob:=λ P=>tu #[(.str "thing" 474)]
def VD:Ob:=λ P=>tu #[]
noncomputable def ZG:Ob:=λ P=>co "is_colour" "is_colour" 471 71 1 3 220 true 221 (.ref 222) (.ref 223) (.ref 224) 475 476
def W3:Ob:=λ P=>fo "is_colour" "is_colour" (top 26) "loomwright.words" 451 225
def Y1:Ob:=λ P=>tu #[]
def Vr:Ob:=λ P=>tu #[(.str "holds" 483),(.str "words" 484)]
def YV:Ob:=λ P=>tu #[]
noncomputable def UK:Ob:=λ P=>co "need" "need" 480 74 2 3 227 true 228 (.ref 229) (.ref 230) (.ref 231) 485 486
noncomputable def YK:Ob:=λ P=>fo "need" "need" (top 28) "loomwright.draft" 478 232
def YL:Ob:=λ P=>tu #[]
def Uk:Ob:=λ P=>tu #[(.str "thing" 491),(.str "least" 492),(.str "most" 493)]
def Wf:Ob:=λ P=>tu #[]
noncomputable def XD:Ob:=λ P=>co "is_list" "is_list" 488 77 3 3 234 true 235 (.ref 236) (.ref 237) (.ref 238) 494 495
def WF:Ob:=λ P=>fo "is_list" "is_list" (top 29) "loomwright.draft" 478 239
def Y7:Ob:=λ P=>tu #[]
def Yb:Ob:=λ P=>tu #[(.str "thing" 500),(.str "most" 501),(.str "last" 502),(.str "number" 503)]
def XY:Ob:=λ P=>tu #[]
noncomputable def Zf:Ob:=λ P=>co "is_rising" "is_rising" 497 79 2 3 241 true 242 (.ref 243) (.ref 244) (.ref 245) 504 505
noncomputable def Yg:Ob:=λ P=>fo "is_rising" "is_rising" (top 30) "loomwright.draft" 478 246
def Xi:Ob:=λ P=>tu #[]
noncomputable def VA:Ob:=λ P=>co "are_rising" "are_rising" 507 88 2 3 248 true 249 .none .none (.ref 250) 510 511
noncomputable def XA:Ob:=λ P=>fo "are_rising" "are_rising" (top 31) "loomwright.draft" 478 251
def VJ:Ob:=λ P=>tu #[]
noncomputable def Zq:Ob:=λ P=>co "are_colours" "are_colours" 513 90 2 3 253 true 254 .none .none (.ref 255) 516 517
def X4:Ob:=λ P=>fo "are_colours" "are_colours" (top 32) "loomwright.draft" 478 256
def XS:Ob:=λ P=>tu #[]
noncomputable def X8:Ob:=λ P=>co "need_draft" "need_draft" 519 92 7 3 258 true 259 .none .none (.ref 260) 522 523
def Vg:Ob:=λ P=>fo "need_draft" "need_draft" (top 33) "loomwright.draft" 478 261
def Ye:Ob:=λ P=>tu #[]
noncomputable def V4:Ob:=λ P=>co "__init__" "Draft.__init__" 537 105 8 3 270 true 271 .none .none (.ref 272) 540 541
noncomputable def Y2:Ob:=λ P=>fo "__init__" "Draft.__init__" (AA (top 34) 0) "loomwright.draft" 478 273
def UF:Ob:=λ P=>tu #[]
noncomputable def YB:Ob:=λ P=>co "told" "Draft.told" 543 115 1 3 275 true 276 .none .none (.ref 277) 546 547
def Yq:Ob:=λ P=>fo "told" "Draft.told" (AA (top 34) 1) "loomwright.draft" 478 278
def Xg:Ob:=λ P=>tu #[]
def WC:Ob:=λ P=>tu #[(.str "self" 552)]
def Wi:Ob:=λ P=>tu #[]
noncomputable def Uq:Ob:=λ P=>co "ends" "Draft.ends" 549 118 1 3 280 true 281 (.ref 282) (.ref 283) (.ref 284) 553 554
noncomputable def Xj:Ob:=λ P=>fo "ends" "Draft.ends" (AA (top 34) 2) "loomwright.draft" 478 285
def Y3:Ob:=λ P=>tu #[]
def X5:Ob:=λ P=>tu #[(.str "self" 559)]
def Xr:Ob:=λ P=>tu #[]
noncomputable def U6:Ob:=λ P=>co "picks" "Draft.picks" 556 121 1 3 287 true 288 (.ref 289) (.ref 290) (.ref 291) 560 561
def Y9:Ob:=λ P=>fo "picks" "Draft.picks" (AA (top 34) 3) "loomwright.draft" 478 292
noncomputable def Us:Ob:=λ P=>tu #[(.str "shafts" 563),(.str "threading" 564),(.str "ties" 565),(.str "treading" 566),(.str "treadles" 567),(.str "warp" 568),(.str "weft" 569)]
noncomputable def Ww:Ob:=λ P=>di #[dE P "__module__" 532 (.str "loomwright.draft" 478),dE P "__firstlineno__" 536 (.int 103 535),dR P "__init__" 542 274,dR P "told" 548 279,dR P "ends" 555 286,dR P "picks" 562 293,dR P "__static_attributes__" 570 294,dR P "__dict__" 572 297,dR P "__weakref__" 574 298,dE P "__doc__" 575 .none] 4
noncomputable def Vf:Ob:=λ P=>⟨(.type "type"),none,(.cls ⟨"Draft",[(.type "object")],[(.ref 296),(.type "object")],295,"Draft",true,[],[],false,none,false⟩), #[none,none,(some (.str "Draft" 525)),(some (.str "Draft" 533)),(some (.builtin "object.__new__")),(some (.bool true))]⟩
def Xn:Ob:=λ P=>⟨(.type "getset_descriptor"),none,(.fields #[(.str "__dict__" 571),(.ref 296),(.builtin "function.__dict__"),(.builtin "function.__dict__#set")]), #[]⟩
def UN:Ob:=λ P=>⟨(.type "getset_descriptor"),none,(.fields #[(.str "__weakref__" 573),(.ref 296),(.builtin "ExceptionGroup.__weakref__"), .none]), #[]⟩
def Zl:Ob:=λ P=>tu #[]
def XZ:Ob:=λ P=>tu #[(.str "masks" 587),(.str "numbers" 588),(.str "mask" 589)]
def Uw:Ob:=λ P=>tu #[]
noncomputable def X6:Ob:=λ P=>co "numbered_kinds" "numbered_kinds" 584 126 1 3 301 true 302 (.ref 303) (.ref 304) (.ref 305) 590 591
noncomputable def V7:Ob:=λ P=>fo "numbered_kinds" "numbered_kinds" (top 38) "loomwright.readoff" 578 306
def We:Ob:=λ P=>tu #[]
noncomputable def UV:Ob:=λ P=>co "kind_numbers" "kind_numbers" 593 132 1 3 308 true 309 .none .none (.ref 310) 596 597
def UD:Ob:=λ P=>fo "kind_numbers" "kind_numbers" (top 39) "loomwright.readoff" 578 311
def Vm:Ob:=λ P=>tu #[]
def WJ:Ob:=λ P=>tu #[(.str "masks" 602)]
def Ut:Ob:=λ P=>tu #[]
noncomputable def Vb:Ob:=λ P=>co "kinds_of" "kinds_of" 599 135 1 3 313 true 314 (.ref 315) (.ref 316) (.ref 317) 603 604
def WZ:Ob:=λ P=>fo "kinds_of" "kinds_of" (top 40) "loomwright.readoff" 578 318
def Wk:Ob:=λ P=>tu #[]
noncomputable def Wa:Ob:=λ P=>co "columns_of" "columns_of" 606 137 1 3 320 true 321 .none .none (.ref 322) 609 610
noncomputable def Ws:Ob:=λ P=>fo "columns_of" "columns_of" (top 41) "loomwright.readoff" 578 323
def WB:Ob:=λ P=>tu #[]
noncomputable def ZC:Ob:=λ P=>co "first_places" "first_places" 612 139 1 3 325 true 326 .none .none (.ref 327) 615 616
def Y0:Ob:=λ P=>fo "first_places" "first_places" (top 42) "loomwright.readoff" 578 328
def ZF:Ob:=λ P=>tu #[]
def Wo:Ob:=λ P=>tu #[(.str "cloth" 621)]
def Vp:Ob:=λ P=>tu #[]
noncomputable def UU:Ob:=λ P=>co "fewest_shown" "fewest_shown" 618 141 1 3 330 true 331 (.ref 332) (.ref 333) (.ref 334) 622 623
def VQ:Ob:=λ P=>fo "fewest_shown" "fewest_shown" (top 43) "loomwright.readoff" 578 335
def WE:Ob:=λ P=>tu #[]
noncomputable def WA:Ob:=λ P=>co "tie_at" "tie_at" 625 143 3 3 337 true 338 .none .none (.ref 339) 628 629
noncomputable def Zi:Ob:=λ P=>fo "tie_at" "tie_at" (top 44) "loomwright.readoff" 578 340
def Wr:Ob:=λ P=>tu #[]
def Zu:Ob:=λ P=>tu #[(.str "most" 634),(.str "what" 635),(.str "many" 636)]
def Yy:Ob:=λ P=>tu #[]
noncomputable def ZA:Ob:=λ P=>co "need_at_most" "need_at_most" 631 145 3 3 342 true 343 (.ref 344) (.ref 345) (.ref 346) 637 638
def Vz:Ob:=λ P=>fo "need_at_most" "need_at_most" (top 45) "loomwright.readoff" 578 347
def Uj:Ob:=λ P=>tu #[]
noncomputable def Za:Ob:=λ P=>tu #[(.str "cloth" 643),(.str "ties" 644),(.str "treading" 645),(.str "threading" 646),(.str "told" 647),(.str "warp" 648),(.str "weft" 649)]
def WH:Ob:=λ P=>tu #[]
noncomputable def Yd:Ob:=λ P=>co "draft_for" "draft_for" 640 148 3 3 349 true 350 (.ref 351) (.ref 352) (.ref 353) 650 651
def Wn:Ob:=λ P=>fo "draft_for" "draft_for" (top 46) "loomwright.readoff" 578 354
def Xb:Ob:=λ P=>tu #[]
noncomputable def X9:Ob:=λ P=>co "read_off" "read_off" 653 154 1 3 356 true 357 .none .none (.ref 358) 656 657
def U2:Ob:=λ P=>fo "read_off" "read_off" (top 47) "loomwright.readoff" 578 359
def VG:Ob:=λ P=>tu #[]
def Yw:Ob:=λ P=>tu #[(.str "tie" 666),(.str "lift" 667)]
def W7:Ob:=λ P=>tu #[]
noncomputable def YI:Ob:=λ P=>co "lies_within" "lies_within" 663 163 2 3 361 true 362 (.ref 363) (.ref 364) (.ref 365) 668 669
noncomputable def Uu:Ob:=λ P=>fo "lies_within" "lies_within" (top 50) "loomwright.few" 659 366
def Vw:Ob:=λ P=>tu #[]
noncomputable def VN:Ob:=λ P=>co "is_told" "is_told" 671 165 2 3 368 true 369 .none .none (.ref 370) 674 675
noncomputable def VL:Ob:=λ P=>fo "is_told" "is_told" (top 51) "loomwright.few" 659 371
def Vl:Ob:=λ P=>tu #[]
noncomputable def Wg:Ob:=λ P=>co "ties_behind" "ties_behind" 677 167 3 3 373 true 374 .none .none (.ref 375) 680 681
def UB:Ob:=λ P=>fo "ties_behind" "ties_behind" (top 52) "loomwright.few" 659 376
def YR:Ob:=λ P=>tu #[]
noncomputable def Yc:Ob:=λ P=>tu #[(.str "lifts" 686),(.str "kinds" 687),(.str "many" 688),(.str "ties" 689)]
def Vy:Ob:=λ P=>tu #[]
noncomputable def Yz:Ob:=λ P=>co "few_ties" "few_ties" 683 180 1 3 378 true 379 (.ref 380) (.ref 381) (.ref 382) 690 691
noncomputable def YU:Ob:=λ P=>fo "few_ties" "few_ties" (top 53) "loomwright.few" 659 383
def YE:Ob:=λ P=>tu #[]
noncomputable def Yk:Ob:=λ P=>co "trodden_of" "trodden_of" 693 188 2 3 385 true 386 .none .none (.ref 387) 696 697
def UA:Ob:=λ P=>fo "trodden_of" "trodden_of" (top 54) "loomwright.few" 659 388
def Ui:Ob:=λ P=>tu #[]
noncomputable def Xz:Ob:=λ P=>co "fewest_treadles" "fewest_treadles" 699 190 1 3 390 true 391 .none .none (.ref 392) 702 703
def Wu:Ob:=λ P=>fo "fewest_treadles" "fewest_treadles" (top 55) "loomwright.few" 659 393
def W8:Ob:=λ P=>tu #[]
noncomputable def WG:Ob:=λ P=>co "need_cloth" "need_cloth" 707 198 2 3 395 true 396 .none .none (.ref 397) 710 711
noncomputable def XU:Ob:=λ P=>fo "need_cloth" "need_cloth" (top 57) "loomwright.cloth" 705 398
def Uy:Ob:=λ P=>tu #[]
def Wj:Ob:=λ P=>tu #[(.str "self" 728),(.str "ends" 729),(.str "rows" 730)]
def Xh:Ob:=λ P=>tu #[]
noncomputable def UE:Ob:=λ P=>co "__init__" "Cloth.__init__" 725 207 3 3 407 true 408 (.ref 409) (.ref 410) (.ref 411) 731 732
noncomputable def Wt:Ob:=λ P=>fo "__init__" "Cloth.__init__" (AA (top 58) 0) "loomwright.cloth" 705 412
def WI:Ob:=λ P=>tu #[]
def ZD:Ob:=λ P=>tu #[(.str "self" 737)]
def UQ:Ob:=λ P=>tu #[]
noncomputable def Xk:Ob:=λ P=>co "told" "Cloth.told" 734 212 1 3 414 true 415 (.ref 416) (.ref 417) (.ref 418) 738 739
def UX:Ob:=λ P=>fo "told" "Cloth.told" (AA (top 58) 1) "loomwright.cloth" 705 419
def Wd:Ob:=λ P=>tu #[]
def Vs:Ob:=λ P=>tu #[(.str "self" 744)]
def XI:Ob:=λ P=>tu #[]
noncomputable def XF:Ob:=λ P=>co "ends" "Cloth.ends" 741 215 1 3 421 true 422 (.ref 423) (.ref 424) (.ref 425) 745 746
def Yt:Ob:=λ P=>fo "ends" "Cloth.ends" (AA (top 58) 2) "loomwright.cloth" 705 426
def YG:Ob:=λ P=>tu #[]
def WN:Ob:=λ P=>tu #[(.str "self" 751)]
def XC:Ob:=λ P=>tu #[]
noncomputable def UC:Ob:=λ P=>co "picks" "Cloth.picks" 748 218 1 3 428 true 429 (.ref 430) (.ref 431) (.ref 432) 752 753
noncomputable def Wz:Ob:=λ P=>fo "picks" "Cloth.picks" (AA (top 58) 3) "loomwright.cloth" 705 433
def Vx:Ob:=λ P=>tu #[]
def Y4:Ob:=λ P=>tu #[(.str "self" 758),(.str "pick" 759)]
def Yv:Ob:=λ P=>tu #[]
noncomputable def Uz:Ob:=λ P=>co "row_at" "Cloth.row_at" 755 221 2 3 435 true 436 (.ref 437) (.ref 438) (.ref 439) 760 761
def Zk:Ob:=λ P=>fo "row_at" "Cloth.row_at" (AA (top 58) 4) "loomwright.cloth" 705 440
def Xo:Ob:=λ P=>tu #[]
noncomputable def Ur:Ob:=λ P=>co "column_at" "Cloth.column_at" 763 224 2 3 442 true 443 .none .none (.ref 444) 766 767
def V6:Ob:=λ P=>fo "column_at" "Cloth.column_at" (AA (top 58) 5) "loomwright.cloth" 705 445
def Zj:Ob:=λ P=>tu #[]
def Vk:Ob:=λ P=>tu #[(.str "self" 772),(.str "end" 773),(.str "pick" 774)]
def V1:Ob:=λ P=>tu #[]
noncomputable def V2:Ob:=λ P=>co "is_up" "Cloth.is_up" 769 227 3 3 447 true 448 (.ref 449) (.ref 450) (.ref 451) 775 776
def XT:Ob:=λ P=>fo "is_up" "Cloth.is_up" (AA (top 58) 6) "loomwright.cloth" 705 452
def Xy:Ob:=λ P=>tu #[(.str "rows" 778),(.str "width" 779)]
noncomputable def Ul:Ob:=λ P=>di #[dE P "__module__" 720 (.str "loomwright.cloth" 705),dE P "__firstlineno__" 724 (.int 205 723),dR P "__init__" 733 413,dR P "told" 740 420,dR P "ends" 747 427,dR P "picks" 754 434,dR P "row_at" 762 441,dR P "column_at" 768 446,dR P "is_up" 777 453,dR P "__static_attributes__" 780 454,dR P "__dict__" 782 457,dR P "__weakref__" 784 458,dE P "__doc__" 785 .none] 4
def U8:Ob:=λ P=>⟨(.type "type"),none,(.cls ⟨"Cloth",[(.type "object")],[(.ref 456),(.type "object")],455,"Cloth",true,[],[],false,none,false⟩), #[none,none,(some (.str "Cloth" 713)),(some (.str "Cloth" 721)),(some (.builtin "object.__new__")),(some (.bool true))]⟩
def W4:Ob:=λ P=>⟨(.type "getset_descriptor"),none,(.fields #[(.str "__dict__" 781),(.ref 456),(.builtin "function.__dict__"),(.builtin "function.__dict__#set")]), #[]⟩
def Zr:Ob:=λ P=>⟨(.type "getset_descriptor"),none,(.fields #[(.str "__weakref__" 783),(.ref 456),(.builtin "ExceptionGroup.__weakref__"), .none]), #[]⟩
def Xs:Ob:=λ P=>tu #[]
noncomputable def Yl:Ob:=λ P=>co "lift_by" "lift_by" 790 230 2 3 461 true 462 .none .none (.ref 463) 793 794
noncomputable def Ze:Ob:=λ P=>fo "lift_by" "lift_by" (top 60) "loomwright.weaving" 788 464
def X1:Ob:=λ P=>tu #[]
noncomputable def XQ:Ob:=λ P=>co "lifts_of" "lifts_of" 796 232 1 3 466 true 467 .none .none (.ref 468) 799 800
def UY:Ob:=λ P=>fo "lifts_of" "lifts_of" (top 61) "loomwright.weaving" 788 469
def UP:Ob:=λ P=>tu #[]
noncomputable def Zy:Ob:=λ P=>co "ends_through" "ends_through" 802 235 2 3 471 true 472 .none .none (.ref 473) 805 806
def YF:Ob:=λ P=>fo "ends_through" "ends_through" (top 62) "loomwright.weaving" 788 474
def XB:Ob:=λ P=>tu #[]
noncomputable def Vh:Ob:=λ P=>co "shaft_ends" "shaft_ends" 808 237 2 3 476 true 477 .none .none (.ref 478) 811 812
noncomputable def YW:Ob:=λ P=>fo "shaft_ends" "shaft_ends" (top 63) "loomwright.weaving" 788 479
def Xf:Ob:=λ P=>tu #[]
noncomputable def WU:Ob:=λ P=>co "row_by" "row_by" 814 239 2 3 481 true 482 .none .none (.ref 483) 817 818
def XO:Ob:=λ P=>fo "row_by" "row_by" (top 64) "loomwright.weaving" 788 484
def YX:Ob:=λ P=>tu #[]
noncomputable def VB:Ob:=λ P=>co "woven" "woven" 820 241 1 3 486 true 487 .none .none (.ref 488) 823 824
noncomputable def VU:Ob:=λ P=>fo "woven" "woven" (top 65) "loomwright.weaving" 788 489
def WM:Ob:=λ P=>tu #[]
def XH:Ob:=λ P=>tu #[(.str "_law_cell" 831),(.str "_law_k" 832)]
def V8:Ob:=λ P=>tu #[]
noncomputable def W1:Ob:=λ P=>co "_law_mixed" "_law_mixed" 828 245 2 3 491 true 492 (.ref 493) (.ref 494) (.ref 495) 833 834
noncomputable def Wh:Ob:=λ P=>fo "_law_mixed" "_law_mixed" (top 67) "law_loomwright_k08_whole_fewest_treadles" 826 496
def XG:Ob:=λ P=>tu #[]
noncomputable def Xc:Ob:=λ P=>co "_law_kinds" "_law_kinds" 836 248 1 3 498 true 499 .none .none (.ref 500) 839 840
def WL:Ob:=λ P=>fo "_law_kinds" "_law_kinds" (top 68) "law_loomwright_k08_whole_fewest_treadles" 826 501
def Zc:Ob:=λ P=>tu #[]
noncomputable def V3:Ob:=λ P=>co "_law_rows" "_law_rows" 842 255 2 3 503 true 504 .none .none (.ref 505) 845 846
def YH:Ob:=λ P=>fo "_law_rows" "_law_rows" (top 69) "law_loomwright_k08_whole_fewest_treadles" 826 506
def Zh:Ob:=λ P=>tu #[]
noncomputable def WW:Ob:=λ P=>co "_law_columns" "_law_columns" 848 269 2 3 508 true 509 .none .none (.ref 510) 851 852
def Yu:Ob:=λ P=>fo "_law_columns" "_law_columns" (top 70) "law_loomwright_k08_whole_fewest_treadles" 826 511
def VS:Ob:=λ P=>tu #[]
noncomputable def WT:Ob:=λ P=>co "_law_draft_good" "_law_draft_good" 854 276 4 3 513 true 514 .none .none (.ref 515) 857 858
def Xu:Ob:=λ P=>fo "_law_draft_good" "_law_draft_good" (top 71) "law_loomwright_k08_whole_fewest_treadles" 826 516
def Vu:Ob:=λ P=>tu #[]
noncomputable def Yx:Ob:=λ P=>tu #[(.str "_law_script" 863),(.str "_law_whole" 864),(.str "_law_ends" 865),(.str "_law_rows_here" 866),(.str "_law_kinds_here" 867),(.str "_law_cloth" 868),(.str "_law_tolds" 869),(.str "_law_turn" 870),(.str "_law_wrong" 871),(.str "_law_draft" 872),(.str "e" 873)]
def U7:Ob:=λ P=>tu #[]
noncomputable def U4:Ob:=λ P=>co "law" "law" 860 293 1 3 518 true 519 (.ref 520) (.ref 521) (.ref 522) 874 875
def V5:Ob:=λ P=>fo "law" "law" (top 72) "law_loomwright_k08_whole_fewest_treadles" 826 523
def Z6 (P:Params):List Obj:=YH P::Zh P::WW P::Yu P::VS P::WT P::Xu P::Vu P::Yx P::U7 P::U4 P::V5 P::[]
def Z7 (P:Params):List Obj:=VB P::VU P::WM P::XH P::V8 P::W1 P::Wh P::XG P::Xc P::WL P::Zc P::V3 P::Z6 P
def ZO (P:Params):List Obj:=XQ P::UY P::UP P::Zy P::YF P::XB P::Vh P::YW P::Xf P::WU P::XO P::YX P::Z7 P
def ZY (P:Params):List Obj:=V1 P::V2 P::XT P::Xy P::Ul P::U8 P::W4 P::Zr P::Xs P::Yl P::Ze P::X1 P::ZO P
def Z5 (P:Params):List Obj:=UC P::Wz P::Vx P::Y4 P::Yv P::Uz P::Zk P::Xo P::Ur P::V6 P::Zj P::Vk P::ZY P
def ZL (P:Params):List Obj:=ZD P::UQ P::Xk P::UX P::Wd P::Vs P::XI P::XF P::Yt P::YG P::WN P::XC P::Z5 P
def ZK (P:Params):List Obj:=Ui P::Xz P::Wu P::W8 P::WG P::XU P::Uy P::Wj P::Xh P::UE P::Wt P::WI P::ZL P
def ZV (P:Params):List Obj:=VL P::Vl P::Wg P::UB P::YR P::Yc P::Vy P::Yz P::YU P::YE P::Yk P::UA P::ZK P
def ZU (P:Params):List Obj:=Yd P::Wn P::Xb P::X9 P::U2 P::VG P::Yw P::W7 P::YI P::Uu P::Vw P::VN P::ZV P
def ZS (P:Params):List Obj:=VQ P::WE P::WA P::Zi P::Wr P::Zu P::Yy P::ZA P::Vz P::Uj P::Za P::WH P::ZU P
def ZJ (P:Params):List Obj:=Vb P::WZ P::Wk P::Wa P::Ws P::WB P::ZC P::Y0 P::ZF P::Wo P::Vp P::UU P::ZS P
def ag (P:Params):List Obj:=UN P::Zl P::XZ P::Uw P::X6 P::V7 P::We P::UV P::UD P::Vm P::WJ P::Ut P::ZJ P
def ZW (P:Params):List Obj:=Wi P::Uq P::Xj P::Y3 P::X5 P::Xr P::U6 P::Y9 P::Us P::Ww P::Vf P::Xn P::ag P
def ae (P:Params):List Obj:=X4 P::XS P::X8 P::Vg P::Ye P::V4 P::Y2 P::UF P::YB P::Yq P::Xg P::WC P::ZW P
def Z0 (P:Params):List Obj:=XD P::WF P::Y7 P::Yb P::XY P::Zf P::Yg P::Xi P::VA P::XA P::VJ P::Zq P::ae P
def ob9 (P:Params):List Obj:=UM P::VD P::ZG P::W3 P::Y1 P::Vr P::YV P::UK P::YK P::YL P::Uk P::Wf P::Z0 P
def ob8 (P:Params):List Obj:=Zn P::YC P::WS P::UL P::U9 P::YM P::UR P::Wm P::ZH P::XW P::Xe P::VF P::ob9 P
def ob7 (P:Params):List Obj:=YJ P::Uo P::Yr P::WQ P::VP P::V9 P::Vc P::VZ P::Ve P::VE P::YT P::Xm P::ob8 P
def ob6 (P:Params):List Obj:=XR P::Zm P::W9 P::U3 P::Zw P::Zv P::Xx P::XJ P::XX P::X0 P::YS P::WX P::ob7 P
def ob5 (P:Params):List Obj:=VO P::Vn P::Ux P::VM P::Wl P::Wq P::Va P::Xp P::YN P::Xd P::Wc P::Yo P::ob6 P
def ob4 (P:Params):List Obj:=o91 P::o94 P::VI P::Zt P::XM P::US P::XN P::Zo P::U5 P::Yh P::VR P::VT P::ob5 P
def ob3 (P:Params):List Obj:=o69 P::o70 P::o71 P::o72 P::o75 P::o82 P::o84 P::o85 P::o87 P::o88 P::o89 P::o90 P::ob4 P
def ob2 (P:Params):List Obj:=o46 P::o48 P::o49 P::o50 P::o53 P::o54 P::o55 P::o57 P::o58 P::o60 P::o61 P::o62 P::ob3 P
def ob1 (P:Params):List Obj:=o29 P::o31 P::o32 P::o34 P::o35 P::o36 P::o38 P::o39 P::o41 P::o42 P::o43 P::o45 P::ob2 P
def ob0 (P:Params):List Obj:=boot_o_2 P::o3 P::o15 P::o17 P::o18 P::o20 P::o21 P::o22 P::o24 P::o25 P::o27 P::o28 P::ob1 P
def frag (P:Params):Frag:=(nat_lit 2,boot_o_2 P)::(nat_lit 3,o3 P)::(nat_lit 15,o15 P)::(nat_lit 17,o17 P)::(nat_lit 18,o18 P)::(nat_lit 20,o20 P)::(nat_lit 21,o21 P)::(nat_lit 22,o22 P)::(nat_lit 24,o24 P)::(nat_lit 25,o25 P)::(nat_lit 27,o27 P)::(nat_lit 28,o28 P)::(nat_lit 29,o29 P)::(nat_lit 31,o31 P)::(nat_lit 32,o32 P)::(nat_lit 34,o34 P)::(nat_lit 35,o35 P)::(nat_lit 36,o36 P)::(nat_lit 38,o38 P)::(nat_lit 39,o39 P)::(nat_lit 41,o41 P)::(nat_lit 42,o42 P)::(nat_lit 43,o43 P)::(nat_lit 45,o45 P)::(nat_lit 46,o46 P)::(nat_lit 48,o48 P)::(nat_lit 49,o49 P)::(nat_lit 50,o50 P)::(nat_lit 53,o53 P)::(nat_lit 54,o54 P)::(nat_lit 55,o55 P)::(nat_lit 57,o57 P)::(nat_lit 58,o58 P)::(nat_lit 60,o60 P)::(nat_lit 61,o61 P)::(nat_lit 62,o62 P)::(nat_lit 69,o69 P)::(nat_lit 70,o70 P)::(nat_lit 71,o71 P)::(nat_lit 72,o72 P)::(nat_lit 75,o75 P)::(nat_lit 82,o82 P)::(nat_lit 84,o84 P)::(nat_lit 85,o85 P)::(nat_lit 87,o87 P)::(nat_lit 88,o88 P)::(nat_lit 89,o89 P)::(nat_lit 90,o90 P)::(nat_lit 91,o91 P)::(nat_lit 94,o94 P)::(nat_lit 101,VI P)::(nat_lit 103,Zt P)::(nat_lit 104,XM P)::(nat_lit 106,US P)::(nat_lit 107,XN P)::(nat_lit 108,Zo P)::(nat_lit 109,U5 P)::(nat_lit 110,Yh P)::(nat_lit 113,VR P)::(nat_lit 120,VT P)::(nat_lit 122,VO P)::(nat_lit 123,Vn P)::(nat_lit 125,Ux P)::(nat_lit 126,VM P)::(nat_lit 127,Wl P)::(nat_lit 128,Wq P)::(nat_lit 129,Va P)::(nat_lit 132,Xp P)::(nat_lit 139,YN P)::(nat_lit 141,Xd P)::(nat_lit 142,Wc P)::(nat_lit 144,Yo P)::(nat_lit 145,XR P)::(nat_lit 146,Zm P)::(nat_lit 147,W9 P)::(nat_lit 148,U3 P)::(nat_lit 151,Zw P)::(nat_lit 158,Zv P)::(nat_lit 160,Xx P)::(nat_lit 161,XJ P)::(nat_lit 163,XX P)::(nat_lit 164,X0 P)::(nat_lit 165,YS P)::(nat_lit 166,WX P)::(nat_lit 167,YJ P)::(nat_lit 170,Uo P)::(nat_lit 177,Yr P)::(nat_lit 178,WQ P)::(nat_lit 179,VP P)::(nat_lit 182,V9 P)::(nat_lit 189,Vc P)::(nat_lit 190,VZ P)::(nat_lit 191,Ve P)::(nat_lit 194,VE P)::(nat_lit 201,YT P)::(nat_lit 202,Xm P)::(nat_lit 203,Zn P)::(nat_lit 206,YC P)::(nat_lit 208,WS P)::(nat_lit 209,UL P)::(nat_lit 211,U9 P)::(nat_lit 212,YM P)::(nat_lit 213,UR P)::(nat_lit 215,Wm P)::(nat_lit 216,ZH P)::(nat_lit 218,XW P)::(nat_lit 219,Xe P)::(nat_lit 220,VF P)::(nat_lit 222,UM P)::(nat_lit 223,VD P)::(nat_lit 225,ZG P)::(nat_lit 226,W3 P)::(nat_lit 227,Y1 P)::(nat_lit 229,Vr P)::(nat_lit 230,YV P)::(nat_lit 232,UK P)::(nat_lit 233,YK P)::(nat_lit 234,YL P)::(nat_lit 236,Uk P)::(nat_lit 237,Wf P)::(nat_lit 239,XD P)::(nat_lit 240,WF P)::(nat_lit 241,Y7 P)::(nat_lit 243,Yb P)::(nat_lit 244,XY P)::(nat_lit 246,Zf P)::(nat_lit 247,Yg P)::(nat_lit 248,Xi P)::(nat_lit 251,VA P)::(nat_lit 252,XA P)::(nat_lit 253,VJ P)::(nat_lit 256,Zq P)::(nat_lit 257,X4 P)::(nat_lit 258,XS P)::(nat_lit 261,X8 P)::(nat_lit 262,Vg P)::(nat_lit 270,Ye P)::(nat_lit 273,V4 P)::(nat_lit 274,Y2 P)::(nat_lit 275,UF P)::(nat_lit 278,YB P)::(nat_lit 279,Yq P)::(nat_lit 280,Xg P)::(nat_lit 282,WC P)::(nat_lit 283,Wi P)::(nat_lit 285,Uq P)::(nat_lit 286,Xj P)::(nat_lit 287,Y3 P)::(nat_lit 289,X5 P)::(nat_lit 290,Xr P)::(nat_lit 292,U6 P)::(nat_lit 293,Y9 P)::(nat_lit 294,Us P)::(nat_lit 295,Ww P)::(nat_lit 296,Vf P)::(nat_lit 297,Xn P)::(nat_lit 298,UN P)::(nat_lit 301,Zl P)::(nat_lit 303,XZ P)::(nat_lit 304,Uw P)::(nat_lit 306,X6 P)::(nat_lit 307,V7 P)::(nat_lit 308,We P)::(nat_lit 311,UV P)::(nat_lit 312,UD P)::(nat_lit 313,Vm P)::(nat_lit 315,WJ P)::(nat_lit 316,Ut P)::(nat_lit 318,Vb P)::(nat_lit 319,WZ P)::(nat_lit 320,Wk P)::(nat_lit 323,Wa P)::(nat_lit 324,Ws P)::(nat_lit 325,WB P)::(nat_lit 328,ZC P)::(nat_lit 329,Y0 P)::(nat_lit 330,ZF P)::(nat_lit 332,Wo P)::(nat_lit 333,Vp P)::(nat_lit 335,UU P)::(nat_lit 336,VQ P)::(nat_lit 337,WE P)::(nat_lit 340,WA P)::(nat_lit 341,Zi P)::(nat_lit 342,Wr P)::(nat_lit 344,Zu P)::(nat_lit 345,Yy P)::(nat_lit 347,ZA P)::(nat_lit 348,Vz P)::(nat_lit 349,Uj P)::(nat_lit 351,Za P)::(nat_lit 352,WH P)::(nat_lit 354,Yd P)::(nat_lit 355,Wn P)::(nat_lit 356,Xb P)::(nat_lit 359,X9 P)::(nat_lit 360,U2 P)::(nat_lit 361,VG P)::(nat_lit 363,Yw P)::(nat_lit 364,W7 P)::(nat_lit 366,YI P)::(nat_lit 367,Uu P)::(nat_lit 368,Vw P)::(nat_lit 371,VN P)::(nat_lit 372,VL P)::(nat_lit 373,Vl P)::(nat_lit 376,Wg P)::(nat_lit 377,UB P)::(nat_lit 378,YR P)::(nat_lit 380,Yc P)::(nat_lit 381,Vy P)::(nat_lit 383,Yz P)::(nat_lit 384,YU P)::(nat_lit 385,YE P)::(nat_lit 388,Yk P)::(nat_lit 389,UA P)::(nat_lit 390,Ui P)::(nat_lit 393,Xz P)::(nat_lit 394,Wu P)::(nat_lit 395,W8 P)::(nat_lit 398,WG P)::(nat_lit 399,XU P)::(nat_lit 407,Uy P)::(nat_lit 409,Wj P)::(nat_lit 410,Xh P)::(nat_lit 412,UE P)::(nat_lit 413,Wt P)::(nat_lit 414,WI P)::(nat_lit 416,ZD P)::(nat_lit 417,UQ P)::(nat_lit 419,Xk P)::(nat_lit 420,UX P)::(nat_lit 421,Wd P)::(nat_lit 423,Vs P)::(nat_lit 424,XI P)::(nat_lit 426,XF P)::(nat_lit 427,Yt P)::(nat_lit 428,YG P)::(nat_lit 430,WN P)::(nat_lit 431,XC P)::(nat_lit 433,UC P)::(nat_lit 434,Wz P)::(nat_lit 435,Vx P)::(nat_lit 437,Y4 P)::(nat_lit 438,Yv P)::(nat_lit 440,Uz P)::(nat_lit 441,Zk P)::(nat_lit 442,Xo P)::(nat_lit 445,Ur P)::(nat_lit 446,V6 P)::(nat_lit 447,Zj P)::(nat_lit 449,Vk P)::(nat_lit 450,V1 P)::(nat_lit 452,V2 P)::(nat_lit 453,XT P)::(nat_lit 454,Xy P)::(nat_lit 455,Ul P)::(nat_lit 456,U8 P)::(nat_lit 457,W4 P)::(nat_lit 458,Zr P)::(nat_lit 461,Xs P)::(nat_lit 464,Yl P)::(nat_lit 465,Ze P)::(nat_lit 466,X1 P)::(nat_lit 469,XQ P)::(nat_lit 470,UY P)::(nat_lit 471,UP P)::(nat_lit 474,Zy P)::(nat_lit 475,YF P)::(nat_lit 476,XB P)::(nat_lit 479,Vh P)::(nat_lit 480,YW P)::(nat_lit 481,Xf P)::(nat_lit 484,WU P)::(nat_lit 485,XO P)::(nat_lit 486,YX P)::(nat_lit 489,VB P)::(nat_lit 490,VU P)::(nat_lit 491,WM P)::(nat_lit 493,XH P)::(nat_lit 494,V8 P)::(nat_lit 496,W1 P)::(nat_lit 497,Wh P)::(nat_lit 498,XG P)::(nat_lit 501,Xc P)::(nat_lit 502,WL P)::(nat_lit 503,Zc P)::(nat_lit 506,V3 P)::(nat_lit 507,YH P)::(nat_lit 508,Zh P)::(nat_lit 511,WW P)::(nat_lit 512,Yu P)::(nat_lit 513,VS P)::(nat_lit 516,WT P)::(nat_lit 517,Xu P)::(nat_lit 518,Vu P)::(nat_lit 520,Yx P)::(nat_lit 521,U7 P)::(nat_lit 523,U4 P)::(nat_lit 524,V5 P)::[]
noncomputable def addrs:List Addr:=[2,3,15,17,18,20,21,22,24,25,27,28,29,31,32,34,35,36,38,39,41,42,43,45,46,48,49,50,53,54,55,57,58,60,61,62,69,70,71,72,75,82,84,85,87,88,89,90,91,94,101,103,104,106,107,108,109,110,113,120,122,123,125,126,127,128,129,132,139,141,142,144,145,146,147,148,151,158,160,161,163,164,165,166,167,170,177,178,179,182,189,190,191,194,201,202,203,206,208,209,211,212,213,215,216,218,219,220,222,223,225,226,227,229,230,232,233,234,236,237,239,240,241,243,244,246,247,248,251,252,253,256,257,258,261,262,270,273,274,275,278,279,280,282,283,285,286,287,289,290,292,293,294,295,296,297,298,301,303,304,306,307,308,311,312,313,315,316,318,319,320,323,324,325,328,329,330,332,333,335,336,337,340,341,342,344,345,347,348,349,351,352,354,355,356,359,360,361,363,364,366,367,368,371,372,373,376,377,378,380,381,383,384,385,388,389,390,393,394,395,398,399,407,409,410,412,413,414,416,417,419,420,421,423,424,426,427,428,430,431,433,434,435,437,438,440,441,442,445,446,447,449,450,452,453,454,455,456,457,458,461,464,465,466,469,470,471,474,475,476,479,480,481,484,485,486,489,490,491,493,494,496,497,498,501,502,503,506,507,508,511,512,513,516,517,518,520,521,523,524]
def fr0 (P:Params):Frag:=addrs.zip (ob0 P)
theorem R3 (P:Params):frag P=fr0 P:=by kernel_rfl
noncomputable def view:Program:={ PySem.Challenge.pw_loomwright_k08_whole_fewest_treadles with main:={ PySem.Challenge.pw_loomwright_k08_whole_fewest_treadles.main with body:=[top 0,top 2,top 3,top 4,top 5,top 6,top 7,top 8,top 9,top 10,top 11,top 13,top 14,top 15,top 16,top 17,top 18,top 19,top 20,top 21,top 23,top 24,top 25,top 26,top 28,top 29,top 30,top 31,top 32,top 33,top 34,top 36,top 37,top 38,top 39,top 40,top 41,top 42,top 43,top 44,top 45,top 46,top 47,top 49,top 50,top 51,top 52,top 53,top 54,top 55,top 57,top 58,top 60,top 61,top 62,top 63,top 64,top 65,top 67,top 68,top 69,top 70,top 71,top 72] } }
abbrev Xt:Shared->Bool:=λ s=>xlAt view [] s&&recOk (RowW.records PySem.Challenge.rw_loomwright_k08_whole_fewest_treadles.row.toRowW) s
theorem addrs_eq:∀ P:Params,addrs=(frag P).map (·.1):=λ _=>by kernel_rfl
abbrev hook:Hook:=kHook frag addrs addrs_eq
abbrev fuel:Nat:=8538
theorem UJ:(λ _=>true) (HX.topT treeTable view (aWorld 1) 0 none,view,fr0,PySem.Challenge.rw_loomwright_k08_whole_fewest_treadles)=true:=by k_qdec
theorem ZP (w:World) (os:OsState):(HX.topT treeTable PySem.Challenge.pw_loomwright_k08_whole_fewest_treadles w 11 (some (.ref 6)) fuel ⟨HX.bootT w.params,11,{},Array.mk [],boot_drawn,boot_toks,os⟩ (topStub PySem.Challenge.pw_loomwright_k08_whole_fewest_treadles)).map (λ s=>((staticsOk (importedModules PySem.Challenge.pw_loomwright_k08_whole_fewest_treadles.main.body) (boot_heap w.params) s.abs.heap&&namesBound PySem.Challenge.pw_loomwright_k08_whole_fewest_treadles s.abs.heap&&gensDone s.abs&&laidKept (boot_heap w.params) s.abs.heap),addrs.map s.abs.heap.get?))=some (true,((fr0 w.params).map λ p=>some p.2)):=by
  have _tw:=UJ;rw [PySem.W.Fast.te5923862056798008813,PySem.W.Fast.te14519907693937028654,PySem.W.Fast.te14364793385576792824,PySem.W.Fast.te9621378704136392807,PySem.W.Fast.te18095418001802354194];kernel_rfl
theorem ZM (w:World) (os:OsState):(HX.topT treeTable PySem.Challenge.pw_loomwright_k08_whole_fewest_treadles w 11 (some (.ref 6)) fuel ⟨HX.bootT w.params,11,{},Array.mk [],boot_drawn,boot_toks,os⟩ (topStub PySem.Challenge.pw_loomwright_k08_whole_fewest_treadles)).map (λ s=>(openSeen view [] (importedModules PySem.Challenge.pw_loomwright_k08_whole_fewest_treadles.main.body) Xt true s.abs))=some (openGood view []):=by
  unfold Xt;rw [PySem.W.Fast.te5923862056798008813,PySem.W.Fast.te4187177175401517315,PySem.W.Fast.te2368527892694137696,PySem.W.Fast.te12393083826653732103,PySem.W.Fast.te3677157399066977219,PySem.W.Fast.te14364793385576792824,PySem.W.Fast.te9621378704136392807,PySem.W.Fast.te18095418001802354194];kernel_rfl
theorem left:LeftO PySem.Challenge.pw_loomwright_k08_whole_fewest_treadles view [] Xt hook.obs hook.val fuel:=HX.left_run (by kernel_rfl) (by decide) (λ s=>by kernel_rfl) HX.hb λ w os=>by
  obtain ⟨s,r,l⟩:=Option.map_eq_some_iff.mp (ZP w os);obtain ⟨s2,r2,l2⟩:=Option.map_eq_some_iff.mp (ZM w os);cases r.symm.trans r2;rw [<-R3] at l;exact ⟨s.abs,HX.topT_of r,HX.three l l2⟩
end K08
namespace L2
open PySem PySem.Spec PyProof.Rows
abbrev Key:=Sum Int Str
def Iv:Key->Value->Bool
  | .inl k,v=>Value.isInt k v
  | .inr x,v=>Value.isStrOf x v
def ZN (w:World):Key->Int
  | .inl k=>hashInt k
  | .inr x=>hashStr w x
theorem AT:∀ {k:Key} {v:Value},Iv k v=true->(∃ i t,k=Sum.inl i/\v=Value.int i t)\/(∃ x t,k=Sum.inr x/\v=Value.str x t)
  | .inl i,v,h=>by
    obtain ⟨t,e⟩:=Value.isInt_shape (k:=i) (v:=v) h;exact .inl ⟨i,t,rfl,e⟩
  | .inr x,v,h=>by
    obtain ⟨t,e⟩:=Value.isStrOf_shape (x:=x) (v:=v) h;exact .inr ⟨x,t,rfl,e⟩
theorem N0 (i:Int) (t:Tok):Iv (.inl i) (.int i t)=true:=by simp [Iv,Value.isInt]
theorem MX (x:Str) (t:Tok):Iv (.inr x) (.str x t)=true:=by simp [Iv,Value.isStrOf]
theorem T8 (a b:Int):decide ((Sum.inl a:Key)=Sum.inl b)=(a == b):=by
  by_cases e:a=b
  · subst e;simp
  · have h:¬ (Sum.inl a:Key)=Sum.inl b:=λ q=>e (Sum.inl.inj q);rw [decide_eq_false h];exact (beq_eq_false_iff_ne.mpr e).symm
theorem T6 (a b:Str):decide ((Sum.inr a:Key)=Sum.inr b)=decide (a=b):=by
  by_cases e:a=b
  · subst e;simp
  · have h:¬ (Sum.inr a:Key)=Sum.inr b:=λ q=>e (Sum.inr.inj q);rw [decide_eq_false h,decide_eq_false e]
theorem Uc (a:Int) (b:Str):decide ((Sum.inl a:Key)=Sum.inr b)=false:=decide_eq_false (λ q=>nomatch q)
theorem S9 (a:Str) (b:Int):decide ((Sum.inr a:Key)=Sum.inl b)=false:=decide_eq_false (λ q=>nomatch q)
def AR (prog:Program) (w:World):PySem.KeyKind prog w Key where
  is:=Iv
  hash:=ZN w
  inj:=λ v a b ha hb=>by
    rcases AT ha with ⟨i,t,rfl,rfl⟩ | ⟨x,t,rfl,rfl⟩
    · rcases AT hb with ⟨j,u,rfl,e⟩ | ⟨y,u,rfl,e⟩
      · injection e with e1 _;rw [e1]
      · exact nomatch e
    · rcases AT hb with ⟨j,u,rfl,e⟩ | ⟨y,u,rfl,e⟩
      · exact nomatch e
      · injection e with e1 _;rw [e1]
  byValue:=λ k v h=>by
    rcases AT h with ⟨i,t,rfl,rfl⟩ | ⟨x,t,rfl,rfl⟩ <;> rfl
  pyHash:=λ hv h=>by
    rcases AT hv with ⟨i,t,rfl,rfl⟩ | ⟨x,t,rfl,rfl⟩
    · exact wpAny_pyHash_int h
    · exact wpAny_pyHash_str h
  eqBool:=λ hu hv h=>by
    rcases AT hu with ⟨i,t,rfl,rfl⟩ | ⟨x,t,rfl,rfl⟩
    · rcases AT hv with ⟨j,u,rfl,rfl⟩ | ⟨y,u,rfl,rfl⟩
      · rw [T8] at h;exact wpAny_eqBool_int h
      · rw [Uc] at h;exact SeqAt.EqAt.int_str i t y u _ _ _ _ h
    · rcases AT hv with ⟨j,u,rfl,rfl⟩ | ⟨y,u,rfl,rfl⟩
      · rw [S9] at h;exact SeqAt.EqAt.str_int x t j u _ _ _ _ h
      · rw [T6] at h;exact wpAny_eqBool_str h
  «strs» := λ k x t v h=>by
    rcases AT h with ⟨i,u,rfl,e⟩ | ⟨y,u,rfl,e⟩
    · exact nomatch e
    · injection e with e1 _;subst e1;cases v <;> rfl
theorem KH (prog:Program) (w:World) (i:Int) (t:Tok):(AR prog w).is (.inl i) (.int i t)=true:=N0 i t
theorem KJ (prog:Program) (w:World) (x:Str) (t:Tok):(AR prog w).is (.inr x) (.str x t)=true:=MX x t
inductive V where
  | non | bl (b:Bool) | int (i:Int) | str (x:Str) | byt (b:Array UInt8) | flt (b:UInt64) | ref (a:Addr) | ty (n:String)
  deriving DecidableEq
def RelV:V->Value->Prop
  | .non,u=>u=Value.none
  | .bl b,u=>u=Value.bool b
  | .int i,u=>∃ t,u=Value.int i t
  | .str x,u=>∃ t,u=Value.str x t
  | .byt b,u=>∃ t,u=Value.bytes b t
  | .flt b,u=>∃ t,u=Value.float b t
  | .ref a,u=>u=Value.ref a
  | .ty n,u=>u=Value.type n
abbrev Vals:List V->List Value->Prop:=Paired RelV
theorem Vals.length {xs:List V} {us:List Value} (r:Vals xs us):xs.length=us.length:=Paired.length r
theorem Vals.get:∀ {xs:List V} {us:List Value} {i:Nat} {x:V},Vals xs us->xs[i]?=some x->∃ u,us[i]?=some u/\RelV x u
  | _,_,_,_, .nil,e=>by simp at e
  | _,_,0,_, .cons r _,e=>by simp at e;subst e;exact ⟨_,rfl,r⟩
  | _,_,i+1,x, .cons _ t,e=>by
    obtain ⟨u,h1,h2⟩:=Vals.get (i:=i) (x:=x) t (by simpa using e);exact ⟨u,by simpa using h1,h2⟩
theorem Vals.append:∀ {xs ys:List V} {us ws:List Value},Vals xs us->Vals ys ws->Vals (xs++ys) (us++ws)
  | _,_,_,_, .nil,s=>s
  | _,_,_,_, .cons r t,s=> .cons r (Vals.append t s)
theorem Vals.take:∀ {xs:List V} {us:List Value} (n:Nat),Vals xs us->Vals (xs.take n) (us.take n)
  | _,_,0,_=> .nil
  | _,_,_+1, .nil=> .nil
  | _,_,n+1, .cons r t=> .cons r (Vals.take n t)
theorem Vals.drop:∀ {xs:List V} {us:List Value} (n:Nat),Vals xs us->Vals (xs.drop n) (us.drop n)
  | _,_,0,r=>r
  | _,_,_+1, .nil=> .nil
  | _,_,n+1, .cons _ t=>Vals.drop n t
def RelO:Option V->Option Value->Prop
  | some v,some u=>RelV v u
  | none,none=>True
  | _,_=>False
def KV {κ:Type}:List (κ × V)->List (κ × Value)->Prop:=Paired λ (p:κ × V) (q:κ × Value)=>p.1=q.1/\RelV p.2 q.2
def kV:Key->V
  | .inl i=> .int i
  | .inr x=> .str x
inductive HO where
  | lst (xs:List V)
  | tup (xs:List V)
  | dK (kvs:List (Key × V)) | dT (kvs:List (List Key × V))
  | set (S:Int->Bool) (n:Nat)
  | ins (C dx:Addr) (fs:List (Str × V))
  | own (x:Addr)
  | xd (fs:List (Str × V))
  | met (f x:Addr)
  | rng (lo hi:Int)
  | frz (o:Obj) (u:HO)
  | tbl (ps:Array Value)
  | ext (φ:Heap->Prop)
abbrev Hp:=Addr->Option HO
def upd (H:Hp) (a:Addr) (o:HO):Hp:=λ b=>if b=a then some o else H b
theorem Ad {H:Hp} {a:Addr} {o:HO}:upd H a o a=some o:=by unfold upd;rw [if_pos rfl]
theorem Am {H:Hp} {a b:Addr} {o:HO} (h:b≠a):upd H a o b=H b:=by unfold upd;rw [if_neg h]
theorem RK {H:Hp} {a:Addr} {o u:HO}:upd (upd H a o) a u=upd H a u:=by
  funext b;unfold upd;split <;> rfl
theorem Fv {H:Hp} {a b:Addr} {o u:HO} (h:H a=some o) (h':H b=some u) (d:o≠u):a≠b:=by
  intro e;subst e;rw [h] at h';exact d (Option.some.inj h')
theorem AF {H:Hp} {a b:Addr} {o:HO} (h:H a=some o) (h':H b=none):a≠b:=by
  intro e;subst e;rw [h] at h';cases h'
section
variable (P:Program) (w:World)
def ObjOk (H:Hp) (h:Heap) (a:Addr):HO->Prop
  | .lst xs=>xs.length<=sizeLine/\∃ (its:List Value) (n:Nat),Vals xs its/\h.get? a=some { cls:= .type "list",data:= .seq its.toArray n }
  | .tup xs=>xs.length<=sizeLine/\∃ its:List Value,Vals xs its/\IsTup h a its.toArray
  | .dK kvs=>kvs.length<=sizeLine/\(a == sysModules)=false/\∃ vs,KV kvs vs/\h.DictOf (AR P w) a vs
  | .dT kvs=>kvs.length<=sizeLine/\(a == sysModules)=false/\∃ xs:List (List Key × Addr × Value),
      Paired (λ (p:List Key × V) (q:List Key × Addr × Value)=>p.1=q.1/\H q.2.1=some (.tup (p.1.map kV))/\RelV p.2 q.2.2) kvs xs/\
      ∃ o es ep,h.get? a=some o/\o.ExactDict/\o.data= .dict es ep/\es.toList=xs.map (entryOfKey (tupleKind (AR P w)))/\(xs.map (·.1)).Nodup
  | .set S n=>h.SetOf (intKind P w) a S n
  | .ins C dx fs=>H dx=some (.own a)/\fs.length<=1000/\dx≠a/\h.get? a=some (PySem.W.instObj C dx)/\
      ∃ mA,h.Ns1 dx mA/\(∀ f,RelO (fs.lookup f) (mA f))/\PySem.Within mA (fs.map (·.1))
  | .own _=>∃ o,h.get? a=some o
  | .xd fs=>∃ mA,h.Ns1 a mA/\∀ f,RelO (fs.lookup f) (mA f)
  | .rng lo hi=>∃ t u v,h.get? a=some { cls:= .type "range",data:= .fields #[.int lo t, .int hi u, .int 1 v] }
  | .frz o u=>h.get? a=some o/\ObjOk H h a u
  | .tbl ps=>h.get? a=some { cls:= .none,data:= .fields ps }
  | .met f x=>h.get? a=some (PySem.W.methodObj (.ref f) (.ref x))
  | .ext φ=>φ h/\(∃ o,h.get? a=some o)/\∀ h1 h2:Heap,φ h1->(∀ o,h1.get? a=some o->h2.get? a=some o)->φ h2
def HOk (H:Hp) (h:Heap):Prop:=∀ a o,H a=some o->ObjOk P w H h a o
end
section
variable {P:Program} {w:World} {H H':Hp} {h h':Heap} {a:Addr} {o:HO}
theorem ObjOk.lt (x:ObjOk P w H h a o):a<h.objs.size:=by
  cases o with
  | lst xs=>obtain ⟨_,_,_,_,e⟩:=x;exact Heap.lt_size e
  | tup xs=>obtain ⟨_,_,_,p⟩:=x;exact p.lt
  | dK kvs=>obtain ⟨_,_,_,_,o,_,_,e,_⟩:=x;exact Heap.lt_size e
  | dT kvs=>obtain ⟨_,_,_,_,o,_,_,e,_⟩:=x;exact Heap.lt_size e
  | set S n=>obtain ⟨o,_,_,_,e,_⟩:=x;exact Heap.lt_size e
  | ins C dx fs=>obtain ⟨_,_,_,e,_⟩:=x;exact Heap.lt_size e
  | own y=>obtain ⟨_,e⟩:=x;exact Heap.lt_size e
  | xd fs=>obtain ⟨_,⟨_,_,_,e,_⟩,_⟩:=x;exact Heap.lt_size e
  | rng lo hi=>obtain ⟨_,_,_,e⟩:=x;exact Heap.lt_size e
  | frz ob u=>obtain ⟨e,_⟩:=x;exact Heap.lt_size e
  | tbl ps=>exact Heap.lt_size (show h.get? a=some _ from x)
  | met f y=>exact Heap.lt_size (show h.get? a=some _ from x)
  | ext φ=>obtain ⟨_,⟨_,e⟩,_⟩:=x;exact Heap.lt_size e
theorem Paired.mapP {α β:Type} {F G:α->β->Prop}:∀ {l₁:List α} {l₂:List β},Paired F l₁ l₂->(∀ a b,F a b->G a b)->Paired G l₁ l₂
  | _,_, .nil,_=> .nil
  | _,_, .cons r t,f=> .cons (f _ _ r) (Paired.mapP t f)
theorem ObjOk.stay (x:ObjOk P w H h a o) (k:∀ b u,(b=a\/H b=some (.own a))->h.get? b=some u->h'.get? b=some u)
    (ho:∀ b,H b=some (.own a)->H' b=some (.own a)) (ht:∀ b xs,H b=some (.tup xs)->H' b=some (.tup xs)):ObjOk P w H' h' a o:=by
  induction o with
  | lst xs=>obtain ⟨z,its,n,r,e⟩:=x;exact ⟨z,its,n,r,k _ _ (.inl rfl) e⟩
  | tup xs=>obtain ⟨z,its,r,ob,e,c⟩:=x;exact ⟨z,its,r,ob,k _ _ (.inl rfl) e,c⟩
  | dK kvs=>obtain ⟨z,y,vs,r,ob,es,ep,e,c⟩:=x;exact ⟨z,y,vs,r,ob,es,ep,k _ _ (.inl rfl) e,c⟩
  | dT kvs=>
    obtain ⟨z,y,xs,r,ob,es,ep,e,c⟩:=x;exact ⟨z,y,xs,Paired.mapP r λ p q z=>⟨z.1,ht _ _ z.2.1,z.2.2⟩,ob,es,ep,k _ _ (.inl rfl) e,c⟩
  | set S n=>obtain ⟨ob,es,ep,t,e,c⟩:=x;exact ⟨ob,es,ep,t,k _ _ (.inl rfl) e,c⟩
  | ins C dx fs=>
    obtain ⟨d,z,ne,e,mA,⟨od,es,ep,e2,c⟩,r⟩:=x;exact ⟨ho _ d,z,ne,k _ _ (.inl rfl) e,mA,⟨od,es,ep,k _ _ (.inr d) e2,c⟩,r⟩
  | own y=>obtain ⟨ob,e⟩:=x;exact ⟨ob,k _ _ (.inl rfl) e⟩
  | xd fs=>obtain ⟨mA,⟨od,es,ep,e,c⟩,r⟩:=x;exact ⟨mA,⟨od,es,ep,k _ _ (.inl rfl) e,c⟩,r⟩
  | rng lo hi=>obtain ⟨t,u,v,e⟩:=x;exact ⟨t,u,v,k _ _ (.inl rfl) e⟩
  | frz ob u ih=>obtain ⟨e,q⟩:=x;exact ⟨k _ _ (.inl rfl) e,ih q⟩
  | tbl ps=>
    have e:h.get? a=some { cls:= .none,data:= .fields ps }:=x;show h'.get? a=some { cls:= .none,data:= .fields ps };exact k a _ (.inl rfl) e
  | met f y=>
    have e:h.get? a=some (PySem.W.methodObj (.ref f) (.ref y)):=x;show h'.get? a=some (PySem.W.methodObj (.ref f) (.ref y));exact k a _ (.inl rfl) e
  | ext φ=>obtain ⟨p,⟨o,e⟩,st⟩:=x;exact ⟨st _ _ p λ o q=>k _ _ (.inl rfl) q,⟨o,k _ _ (.inl rfl) e⟩,st⟩
theorem HOk.lt (x:HOk P w H h) (e:H a=some o):a<h.objs.size:=(x a o e).lt
theorem HOk.fresh (x:HOk P w H h) (e:h.objs.size<=a):H a=none:=by
  cases q:H a with
  | none=>rfl
  | some u=>exact absurd (Nat.lt_of_lt_of_le (x.lt q) e) (Nat.lt_irrefl _)
theorem HOk.kept (x:HOk P w H h) (k:∀ b u,h.get? b=some u->h'.get? b=some u):HOk P w H h':=λ a o e=>
  (x a o e).stay (λ b u _ q=>k b u q) (λ _ q=>q) λ _ _ q=>q
theorem HOk.laid (x:HOk P w H h) (k:∀ b u,h.get? b=some u->h'.get? b=some u) (hp:h.objs.size<=a) (new:ObjOk P w (upd H a o) h' a o):HOk P w (upd H a o) h':=λ b u e=>by
  have hn:=x.fresh hp;by_cases hb:b=a
  · subst hb;rw [Ad] at e;cases e;exact new
  · rw [Am hb] at e;exact (x b u e).stay (λ c v _ q=>k c v q) (λ c q=>by rw [Am (AF q hn)];exact q) λ c xs q=>by rw [Am (AF q hn)];exact q
end
def Rd (H:Hp) (a:Addr) (u:HO):Prop:=H a=some u\/∃ o,H a=some (.frz o u)
theorem Rd.of {H:Hp} {a:Addr} {u:HO} (h:H a=some u):Rd H a u:= .inl h
theorem Rd.ok {P:Program} {w:World} {H:Hp} {h:Heap} {a:Addr} {u:HO} (r:Rd H a u) (x:HOk P w H h):ObjOk P w H h a u:=by
  rcases r with r | ⟨o,r⟩
  · exact x a u r
  · obtain ⟨_,q⟩:=x a _ r;exact q
def Mut:Option HO->Prop
  | some (.lst _)=>True
  | some (.dK _)=>True
  | some (.dT _)=>True
  | some (.set _ _)=>True
  | some (.ins _ _ _)=>True
  | some (.ext _)=>True
  | _=>False
section
variable {P:Program} {w:World} {H:Hp} {h h':Heap} {x e:Addr} {o':HO}
theorem HOk.write (ok:HOk P w H h) (mu:Mut (H x)) (he:e=x\/H e=some (.own x)) (k:∀ b u,b≠e->h.get? b=some u->h'.get? b=some u) (heo:∃ u,h'.get? e=some u)
    (new:ObjOk P w (upd H x o') h' x o'):HOk P w (upd H x o') h':=λ b u q=>by
  have nown:∀ c y,H c=some (.own y)->c≠x:=λ c y r z=>by subst z;rw [r] at mu;exact mu
  have ntup:∀ c xs,H c=some (.tup xs)->c≠x:=λ c xs r z=>by subst z;rw [r] at mu;exact mu
  by_cases hb:b=x
  · subst hb;rw [Ad] at q;cases q;exact new
  · rw [Am hb] at q;by_cases hbe:b=e
    · have q':H b=some (.own x):=by
        rcases he with z | z
        · exact absurd (hbe.trans z) hb
        · rw [hbe];exact z
      rw [q] at q';cases q';obtain ⟨v,hv⟩:=heo;exact ⟨v,by rw [hbe];exact hv⟩
    · refine (ok b u q).stay (λ c v hc r=>k c v ?_ r) (λ c r=>by rw [Am (nown c b r)];exact r) λ c xs r=>by rw [Am (ntup c xs r)];exact r
      rcases hc with rfl | hc
      · exact hbe
      · rintro rfl;rcases he with z | z
        · exact nown c b hc z
        · rw [hc] at z;cases z;exact hb rfl
end
structure Un (fs ex:List Addr) (H H':Hp) (h h':Heap):Prop where
  keep:∀ b o,h.get? b=some o->H b=none->b∉fs->b∉ex->h'.get? b=some o
  slot:∀ b o,h.get? b=some o->H b=none->b∈fs->b∉ex->∃ sl,h'.get? b=some { o with slots:=sl }
  free:∀ b o,h.get? b=some o->H b=none->b∉ex->H' b=none
  there:∀ b o,h.get? b=some o->b∉ex->∃ o',h'.get? b=some o'
  tups:∀ b xs,H b=some (.tup xs)->H' b=some (.tup xs)
  frzs:∀ b o u,H b=some (.frz o u)->H' b=some (.frz o u)
  tbls:∀ b ps,H b=some (.tbl ps)->∃ more,H' b=some (.tbl (ps++more))
section
variable {fs fs' ex ex':List Addr} {H H1 H2:Hp} {h h1 h2 h':Heap} {a x e:Addr} {o:HO}
theorem Un.any (u:Un fs ex H H1 h h1) {b:Addr} {ob:Obj} (q:h.get? b=some ob) (n:H b=none) (hx:b∉ex):∃ sl,h1.get? b=some { ob with slots:=sl }:=by
  by_cases hb:b∈fs
  · exact u.slot b ob q n hb hx
  · exact ⟨ob.slots,u.keep b ob q n hb hx⟩
theorem Un.trans (a:Un fs ex H H1 h h1) (b:Un fs ex H1 H2 h1 h2):Un fs ex H H2 h h2 where
  keep:=λ c ob q n hc hx=>b.keep c ob (a.keep c ob q n hc hx) (a.free c ob q n hx) hc hx
  slot:=λ c ob q n hc hx=>by
    obtain ⟨sl,e1⟩:=a.slot c ob q n hc hx;obtain ⟨sl',e2⟩:=b.slot c _ e1 (a.free c ob q n hx) hc hx;exact ⟨sl',e2⟩
  free:=λ c ob q n hx=>by
    obtain ⟨o',e1⟩:=a.there c ob q hx;exact b.free c o' e1 (a.free c ob q n hx) hx
  there:=λ c ob q hx=>by
    obtain ⟨o',e1⟩:=a.there c ob q hx;exact b.there c o' e1 hx
  tups:=λ c xs q=>b.tups c xs (a.tups c xs q)
  frzs:=λ c ob xs q=>b.frzs c ob xs (a.frzs c ob xs q)
  tbls:=λ c ps q=>by
    obtain ⟨m1,e1⟩:=a.tbls c ps q;obtain ⟨m2,e2⟩:=b.tbls c _ e1;exact ⟨m1++m2,by rw [e2,Array.append_assoc]⟩
theorem Un.kept (k:∀ b u,h.get? b=some u->h'.get? b=some u):Un fs ex H H h h':=
  ⟨λ b ob q _ _ _=>k b ob q,λ b ob q _ _ _=>⟨ob.slots,k b ob q⟩,λ _ _ _ n _=>n,λ b ob q _=>⟨ob,k b ob q⟩,λ _ _ q=>q,λ _ _ _ q=>q,λ _ ps q=>⟨#[],by rw [q];simp⟩⟩
theorem Un.refl:Un fs ex H H h h:=Un.kept λ _ _ q=>q
theorem Un.laid (k:∀ b u,h.get? b=some u->h'.get? b=some u) (hp:h.objs.size<=a) (hn:H a=none):Un fs ex H (upd H a o) h h' where
  keep:=λ b u q _ _ _=>k b u q
  slot:=λ b u q _ _ _=>⟨u.slots,k b u q⟩
  free:=λ b u q n _=>by rw [Am (Nat.ne_of_lt (Nat.lt_of_lt_of_le (Heap.lt_size q) hp))];exact n
  there:=λ b u q _=>⟨u,k b u q⟩
  tups:=λ b xs q=>by rw [Am (AF q hn)];exact q
  frzs:=λ b u xs q=>by rw [Am (AF q hn)];exact q
  tbls:=λ b ps q=>⟨#[],by rw [Am (AF q hn),q];simp⟩
theorem Un.write (mu:Mut (H x)) (he:e=x\/H e=some (.own x)) (k:∀ b u,b≠e->h.get? b=some u->h'.get? b=some u) (heo:∃ u,h'.get? e=some u):Un fs ex H (upd H x o) h h':=by
  have hx:∀ b,H b=none->b≠x:=λ b n z=>by subst z;rw [n] at mu;exact mu
  have hb:∀ b,H b=none->b≠e:=λ b n z=>by
    subst z;rcases he with r | r
    · exact hx b n r
    · rw [n] at r;cases r
  have hm:∀ b u,H b=some u->¬ Mut (some u)->b≠x:=λ b u q nm z=>by subst z;rw [q] at mu;exact nm mu
  refine ⟨λ b u q n _ _=>k b u (hb b n) q,λ b u q n _ _=>⟨u.slots,k b u (hb b n) q⟩,λ b u q n _=>by rw [Am (hx b n)];exact n,λ b u q _=> ?_,
    λ b xs q=>by rw [Am (hm b _ q λ z=>z)];exact q,λ b u xs q=>by rw [Am (hm b _ q λ z=>z)];exact q,λ b ps q=>⟨#[],by rw [Am (hm b _ q λ z=>z),q];simp⟩⟩
  by_cases hbe:b=e
  · subst hbe;exact heo
  · exact ⟨u,k b u hbe q⟩
end
def trk (h:Heap) (H:Hp):List Addr:=(List.range h.objs.size).filter λ a=>(H a).isSome
def Js (h:Heap) (H:Hp):Heap:=PySem.W.hideAll h (trk h H)
theorem M9 (h:Heap) (H:Hp):(Js h H).objs.size=h.objs.size:=PySem.W.hideAll_size _ _
theorem P9 {h:Heap} {H:Hp} {b:Addr} {o:Obj} (e:h.get? b=some o) (n:H b=none):(Js h H).get? b=some o:=
  PySem.W.hideAll_get _ e λ hm=>by
    have q:(H b).isSome=true:=(List.mem_filter.mp hm).2;rw [n] at q;simp at q
theorem Rq {h:Heap} {H:Hp} {b:Addr} {o:Obj} (e:(Js h H).get? b=some o):h.get? b=some o/\H b=none:=by
  have e':h.get? b=some o:=PySem.W.of_hideAll (trk h H) e;refine ⟨e',?_⟩;cases q:H b with
  | none=>rfl
  | some x=>
    have hm:b∈trk h H:=List.mem_filter.mpr ⟨List.mem_range.mpr (Heap.lt_size e'),by simp [q]⟩;have z:(Js h H).get? b=none:=PySem.W.hideAll_none (trk h H) hm;rw [z] at e;cases e
def RO (g h:Heap) (L:Addr):List (Addr × Obj):=(List.range h.objs.size).filterMap λ a=>if a=L\/(g.get? a).isSome=true then none else (h.get? a).map λ o=>(a,o)
def rest (g h:Heap) (L d:Addr):List (Addr × Obj):=(RO g h L).filter λ p=>decide (p.1≠d)
structure Mod (K:PySem.W.Frag) (mg:Str->Option Value) (base:Heap):Prop where
  kin:K.In base
  glob:base.Ns mainGlobals mg
  blt:∃ mb,base.Ns builtinsNs mb/\∀ x:Str,x≠"__name__"->mb x=bootBuiltins x
  nolimit:base.NoLimit
structure Cx where
  prog:Program
  w:World
  K:PySem.W.Frag
  mg:Str->Option Value
  base:Heap
  A:Around
  N:List Str
  s₀:Shared
  H₀:Hp
  env:Env
  outer:List Env
  stack:List Env
  ex:List Addr
  fn:Str->Bool
  calm:Bool
  pn:List (Addr × Obj)
  xe:Value->Shared->Prop
def frs (l:List Env):List Addr:=l.filterMap (·.frame)
abbrev Cx.fs (X:Cx):List Addr:=frs X.outer
def Vis (sc:Scope) (x:Str):Prop:=sc.names.lookup x=some .local\/sc.names.lookup x=some .cell\/sc.names.lookup x=some .free
def Loc (sc:Scope) (x:Str):Prop:=sc.names.lookup x=some .local\/sc.names.lookup x=some .cell
def ZX (env:Env) (h:Heap) (m:Str->Option Value) (x:Str) (u:Value):Prop:=
  (env.kindOf x=some .local/\m x=some u)\/((env.kindOf x=some .cell\/env.kindOf x=some .free)/\∃ c,env.cells.lookup x=some c/\h.IsCell c (some u))
structure Cx.Ok (X:Cx):Prop where
  mod:Mod X.K X.mg X.base
  kind:X.env.scope.kind= .function
  glob:X.env.globals=mainGlobals
  blt:X.env.builtins=builtinsNs
  above:X.s₀.heap.objs.size<=X.env.locals
  inj:∀ x y c,X.env.cells.lookup x=some c->X.env.cells.lookup y=some c->x=y
  has:∀ x,(X.env.kindOf x=some .cell\/X.env.kindOf x=some .free)->∃ c,X.env.cells.lookup x=some c
  cab:∀ x c,X.fn x=true->X.env.cells.lookup x=some c->X.s₀.heap.objs.size<=c
  hd:X.calm=true->X.A.handled=none
  frames:X.A.frames=some X.stack
  stk:X.stack=X.outer\/(X.stack=X.env::X.outer/\X.env.frame=some X.env.locals)
  exf:∀ b∈X.ex,b≠X.env.locals/\∀ x c,X.env.cells.lookup x=some c->c≠b
  bs:∀ b o,X.base.get? b=some o->X.s₀.heap.get? b=some o/\X.H₀ b=none
  bsz:X.base.objs.size<=X.s₀.heap.objs.size
  noex:∀ b o,X.base.get? b=some o->b∉X.ex
  exfs:∀ b∈X.ex,b∉X.fs
  funs:X.s₀.heap.FunFrames X.base X.outer
  frf:∀ b∈X.fs,X.H₀ b=none
structure Inv (X:Cx) (pins:List (Addr × Obj)) (σ:List (Option V)) (H:Hp) (s:Shared):Prop where
  ok:X.Ok
  os:s.os=X.s₀.os
  bare:AllBare s.gens
  base:Un X.fs X.ex X.H₀ H X.s₀.heap s.heap
  loc:∃ m,s.heap.Ns X.env.locals m/\∀ (i:Nat) (x:Str) (v:V),X.N[i]?=some x->σ[i]?=some (some v)->Vis X.env.scope x->∃ u,RelV v u/\ZX X.env s.heap m x u
  cell:∀ x c,X.env.cells.lookup x=some c->∃ v,s.heap.IsCell c v
  free:H X.env.locals=none
  freeC:∀ x c,X.env.cells.lookup x=some c->H c=none
  pin:∀ p∈X.pn++pins,s.heap.get? p.1=some p.2/\H p.1=none/\p.1≠X.env.locals/\p.1∉X.fs/\∀ v,p.2.data≠ .cell v
  hok:HOk X.prog X.w H s.heap
  len:σ.length=X.N.length
section
variable {X:Cx} {pins:List (Addr × Obj)} {σ:List (Option V)} {H H':Hp} {s:Shared} {h':Heap}
theorem Cx.Ok.nofr (ok:X.Ok) {b:Addr} {o:Obj} (e:X.base.get? b=some o):b∉X.fs:=λ hb=>by
  have:=(ok.funs.mem hb).1;rw [e] at this;cases this
theorem Inv.bs (I:Inv X pins σ H s):∀ b o,X.base.get? b=some o->s.heap.get? b=some o/\H b=none:=λ b o e=>
  ⟨I.base.keep b o (I.ok.bs b o e).1 (I.ok.bs b o e).2 (I.ok.nofr e) (I.ok.noex b o e),I.base.free b o (I.ok.bs b o e).1 (I.ok.bs b o e).2 (I.ok.noex b o e)⟩
theorem Inv.bk (I:Inv X pins σ H s):∀ b o,X.base.get? b=some o->s.heap.get? b=some o:=λ b o e=>(I.bs b o e).1
theorem Inv.mod (I:Inv X pins σ H s):Mod X.K X.mg X.base:=I.ok.mod
theorem Inv.kIn (I:Inv X pins σ H s):X.K.In s.heap:=I.ok.mod.kin.keeps I.bk
theorem Inv.fr (I:Inv X pins σ H s):∃ m,Fr X.base X.env.locals s.heap m:=
  let ⟨m,hn,_⟩:=I.loc
  ⟨m,hn,I.bk,Nat.le_trans I.ok.bsz I.ok.above⟩
theorem Inv.lt (I:Inv X pins σ H s):X.env.locals<s.heap.objs.size:=let ⟨_,hn,_⟩:=I.loc;hn.lt
theorem Inv.sz (I:Inv X pins σ H s):X.s₀.heap.objs.size<=s.heap.objs.size:=Nat.le_trans I.ok.above (Nat.le_of_lt I.lt)
theorem Inv.nofs (I:Inv X pins σ H s) {a:Addr} (h:s.heap.objs.size<=a):a∉X.fs:=λ hb=>by
  obtain ⟨_,o,ho,_⟩:=I.ok.funs.mem hb;exact absurd (Nat.lt_of_lt_of_le (Heap.lt_size ho) (Nat.le_trans I.sz h)) (Nat.lt_irrefl _)
theorem Inv.cne (I:Inv X pins σ H s):∀ x c,X.env.cells.lookup x=some c->c≠X.env.locals:=λ x c e z=>by
  obtain ⟨v,o,ho,hd⟩:=I.cell x c e;obtain ⟨m,⟨o',es,ep,ho',hd',_⟩,_⟩:=I.loc;rw [z,ho'] at ho;cases ho;rw [hd'] at hd;cases hd
theorem Inv.funs (I:Inv X pins σ H s):s.heap.FunFrames X.base X.outer:=by
  have all:∀ (l:List Env),(∀ b∈frs l,b∈X.fs)->X.s₀.heap.FunFrames X.base l->s.heap.FunFrames X.base l:=by
    intro l
    induction l with
    | nil=>intro _ _;trivial
    | cons env r ih=>
      intro hs hl;obtain ⟨hk,⟨L,o,hf,hn,ho,hd⟩,hr⟩:=hl;have hL:L∈X.fs:=hs L (by unfold frs;rw [List.filterMap_cons,hf];exact List.mem_cons_self);obtain ⟨sl,e⟩:=I.base.slot L o ho (I.ok.frf L hL) hL λ z=>I.ok.exfs L z hL;exact ⟨hk,⟨L,_,hf,hn,e,hd⟩,ih (λ b hb=>hs b (by unfold frs;rw [List.filterMap_cons,hf];exact List.mem_cons_of_mem _ hb)) hr⟩
  exact all X.outer (λ _ hb=>hb) I.ok.funs
theorem Inv.stack (I:Inv X pins σ H s):s.heap.FunFrames X.base X.stack:=by
  rcases I.ok.stk with e | ⟨e,hf⟩
  · rw [e];exact I.funs
  · rw [e];obtain ⟨m,hn,_⟩:=I.loc;refine .cons (by rw [I.ok.kind];decide) hf hn ?_ I.funs;exact Heap.get?_none_of_le (Nat.le_trans I.ok.bsz I.ok.above)
theorem Inv.stkSub (I:Inv X pins σ H s):∀ b∈frs X.stack,b∈X.env.locals::X.fs:=λ b hb=>by
  rcases I.ok.stk with e | ⟨e,hf⟩
  · rw [e] at hb;exact List.mem_cons_of_mem _ hb
  · rw [e] at hb;unfold frs at hb;rw [List.filterMap_cons,hf] at hb;exact hb
theorem Inv.stkFree (I:Inv X pins σ H s):∀ b∈frs X.stack,H b=none:=λ b hb=>by
  rcases List.mem_cons.mp (I.stkSub b hb) with e | hb
  · rw [e];exact I.free
  · obtain ⟨_,o,ho,_⟩:=I.ok.funs.mem hb;exact I.base.free b o ho (I.ok.frf b hb) λ z=>I.ok.exfs b z hb
theorem Inv.step {g':Array GenState} {t':Nat} {d':Drawn} {ch:List Addr} (I:Inv X pins σ H s)
    (hch:∀ b∈ch,(b∈X.ex\/X.s₀.heap.objs.size<=b)/\b≠X.env.locals/\(∀ x c,X.env.cells.lookup x=some c->c≠b)/\∀ p∈X.pn++pins,p.1≠b)
    (keep:∀ b o,b≠X.env.locals->b∉X.fs->b∉ch->s.heap.get? b=some o->H b=none->h'.get? b=some o)
    (slot:∀ b o,b≠X.env.locals->b∈X.fs->b∉ch->s.heap.get? b=some o->H b=none->∃ sl,h'.get? b=some { o with slots:=sl }) (free:∀ b o,b∉ch->s.heap.get? b=some o->H b=none->H' b=none)
    (there:∀ b o,b∉ch->s.heap.get? b=some o->∃ o',h'.get? b=some o')
    (tups:∀ b xs,H b=some (.tup xs)->H' b=some (.tup xs)) (frzs:∀ b o u,H b=some (.frz o u)->H' b=some (.frz o u)) (tbls:∀ b ps,H b=some (.tbl ps)->∃ more,H' b=some (.tbl (ps++more)))
    (ns:∀ m,s.heap.Ns X.env.locals m->h'.Ns X.env.locals m) (hok:HOk X.prog X.w H' h') (hg:AllBare g'):
    Inv X pins σ H' { s with heap:=h',gens:=g',drawn:=d',toks:=t' }:=by
  have neL:∀ b o,X.s₀.heap.get? b=some o->b≠X.env.locals:=λ b o e=>Nat.ne_of_lt (Nat.lt_of_lt_of_le (Heap.lt_size e) I.ok.above);have neC:∀ b o,X.s₀.heap.get? b=some o->b∉X.ex->b∉ch:=λ b o e hx hb=>by
    rcases (hch b hb).1 with z | z
    · exact hx z
    · exact absurd (Nat.lt_of_lt_of_le (Heap.lt_size e) z) (Nat.lt_irrefl _)
  have cellK:∀ x c,X.env.cells.lookup x=some c->∀ v,s.heap.IsCell c v->h'.IsCell c v:=λ x c e v ⟨o,ho,hd⟩=>by
    have nch:c∉ch:=λ z=>(hch c z).2.2.1 x c e rfl;by_cases hc:c∈X.fs
    · obtain ⟨sl,q⟩:=slot c o (I.cne x c e) hc nch ho (I.freeC x c e);exact ⟨_,q,hd⟩
    · exact ⟨o,keep c o (I.cne x c e) hc nch ho (I.freeC x c e),hd⟩
  refine ⟨I.ok,I.os,hg,⟨λ b o e n hb hx=> ?_,λ b o e n hb hx=> ?_,λ b o e n hx=> ?_,λ b o e hx=> ?_,λ b xs e=>tups b xs (I.base.tups b xs e),λ b o xs e=>frzs b o xs (I.base.frzs b o xs e),λ b ps e=> ?_⟩,?_,λ x c e=> ?_,?_,λ x c e=> ?_,λ p hp=> ?_,hok,I.len⟩
  · exact keep b o (neL b o e) hb (neC b o e hx) (I.base.keep b o e n hb hx) (I.base.free b o e n hx)
  · obtain ⟨sl,e1⟩:=I.base.slot b o e n hb hx;obtain ⟨sl',e2⟩:=slot b _ (neL b o e) hb (neC b o e hx) e1 (I.base.free b o e n hx);exact ⟨sl',e2⟩
  · obtain ⟨o',e1⟩:=I.base.there b o e hx;exact free b o' (neC b o e hx) e1 (I.base.free b o e n hx)
  · obtain ⟨o',e1⟩:=I.base.there b o e hx;exact there b o' (neC b o e hx) e1
  · obtain ⟨m1,e1⟩:=I.base.tbls b ps e;obtain ⟨m2,e2⟩:=tbls b _ e1;exact ⟨m1++m2,by rw [e2,Array.append_assoc]⟩
  · obtain ⟨m,hn,hl⟩:=I.loc;refine ⟨m,ns m hn,λ i x v e1 e2 e3=> ?_⟩;obtain ⟨u,r,l⟩:=hl i x v e1 e2 e3;refine ⟨u,r,?_⟩;rcases l with l | ⟨k,c,e,z⟩
    · exact .inl l
    · exact .inr ⟨k,c,e,cellK x c e _ z⟩
  · obtain ⟨v,z⟩:=I.cell x c e;exact ⟨v,cellK x c e v z⟩
  · obtain ⟨m,⟨o,_,_,ho,_⟩,_⟩:=I.loc;exact free _ o (λ z=>(hch _ z).2.1 rfl) ho I.free
  · obtain ⟨v,o,ho,hd⟩:=I.cell x c e;exact free c o (λ z=>(hch c z).2.2.1 x c e rfl) ho (I.freeC x c e)
  · obtain ⟨e,n,ne,nf,d⟩:=I.pin p hp;have nch:p.1∉ch:=λ z=>(hch p.1 z).2.2.2 p hp rfl;exact ⟨keep p.1 p.2 ne nf nch e n,free p.1 p.2 nch e n,ne,nf,d⟩
theorem Inv.un {t':Nat} (I:Inv X pins σ H s) (u:Un X.fs [] H H' s.heap h') (hok:HOk X.prog X.w H' h'):Inv X pins σ H' { s with heap:=h',toks:=t' }:=by
  obtain ⟨m,⟨o,es,ep,ho,r⟩,_⟩:=id I.loc;obtain ⟨sl,hL⟩:=u.any ho I.free (by simp);exact I.step (g':=s.gens) (d':=s.drawn) (ch:=[]) (λ _ z=>nomatch z) (λ b o _ hb _ e n=>u.keep b o e n hb (by simp)) (λ b o _ hb _ e n=>u.slot b o e n hb (by simp)) (λ b o _ e n=>u.free b o e n (by simp)) (λ b o _ e=>u.there b o e (by simp)) u.tups u.frzs u.tbls (λ m' hm=>by
    obtain ⟨o',es',ep',ho',r'⟩:=hm;rw [ho] at ho';cases ho';exact ⟨_,es',ep',hL,r'⟩) hok I.bare
theorem Inv.call {g':Array GenState} {t':Nat} {d':Drawn} {ch:List Addr} (I:Inv X pins σ H s) (u:Un (frs X.stack) ch H H' s.heap h') (hok:HOk X.prog X.w H' h') (hg:AllBare g')
    (hch:∀ b∈ch,(b∈X.ex\/X.s₀.heap.objs.size<=b)/\b≠X.env.locals/\(∀ x c,X.env.cells.lookup x=some c->c≠b)/\∀ p∈X.pn++pins,p.1≠b):
    Inv X pins σ H' { s with heap:=h',gens:=g',drawn:=d',toks:=t' }:=by
  obtain ⟨m,⟨o,es,ep,ho,r⟩,_⟩:=id I.loc;obtain ⟨sl,hL⟩:=u.any ho I.free λ z=>(hch _ z).2.1 rfl;exact I.step (ch:=ch) hch (λ b o hL hb hc e n=>u.keep b o e n (λ z=>(List.mem_cons.mp (I.stkSub b z)).elim hL hb) hc) (λ b o _ _ hc e n=>u.any e n hc) (λ b o hc e n=>u.free b o e n hc) (λ b o hc e=>u.there b o e hc) u.tups u.frzs u.tbls (λ m' hm=>by
    obtain ⟨o',es',ep',ho',r'⟩:=hm;rw [ho] at ho';cases ho';exact ⟨_,es',ep',hL,r'⟩) hok hg
theorem Inv.turned {t':Nat} {it:Addr} (I:Inv X pins σ H s) (k:∀ b o,b≠it->s.heap.get? b=some o->h'.get? b=some o) (hn:H it=none) (hL:it≠X.env.locals)
    (h1:it∈X.ex\/X.s₀.heap.objs.size<=it) (h2:∀ x c,X.env.cells.lookup x=some c->c≠it) (h3:∀ p∈X.pn++pins,p.1≠it):Inv X pins σ H { s with heap:=h',toks:=t' }:=by
  have nit:∀ b u,H b=some u->b≠it:=λ b u e z=>by rw [z,hn] at e;cases e
  refine I.step (g':=s.gens) (d':=s.drawn) (ch:=[it]) (λ b hb=> ?_) (λ b o _ _ hc e _=>k b o (λ z=>hc (by simp [z])) e) (λ b o _ _ hc e _=>⟨o.slots,k b o (λ z=>hc (by simp [z])) e⟩) (λ _ _ _ _ n=>n)
    (λ b o hc e=>⟨o,k b o (λ z=>hc (by simp [z])) e⟩) (λ _ _ e=>e) (λ _ _ _ e=>e) (λ b ps e=>⟨#[],by rw [e];simp⟩) (λ m hm=> ?_) (λ b u e=> ?_) I.bare
  · have e:b=it:=by simpa using hb
    subst e;exact ⟨h1,hL,h2,h3⟩
  · obtain ⟨o,es,ep,ho,r⟩:=hm;exact ⟨o,es,ep,k _ o (Ne.symm hL) ho,r⟩
  · refine (I.hok b u e).stay (λ c v hc q=>k c v ?_ q) (λ _ q=>q) λ _ _ q=>q;rcases hc with z | z
    · rw [z];exact nit b u e
    · exact nit c _ z
theorem Inv.tok (I:Inv X pins σ H s) (t:Nat):Inv X pins σ H { s with toks:=t }:=I.un (h':=s.heap) (t':=t) Un.refl I.hok
theorem Inv.kept {t':Nat} (I:Inv X pins σ H s) (k:∀ b u,s.heap.get? b=some u->h'.get? b=some u):Inv X pins σ H { s with heap:=h',toks:=t' }:=I.un (Un.kept k) (I.hok.kept k)
theorem Inv.laid {a:Addr} {o:HO} {t':Nat} (I:Inv X pins σ H s) (k:∀ b u,s.heap.get? b=some u->h'.get? b=some u) (hp:s.heap.objs.size<=a) (new:ObjOk X.prog X.w (upd H a o) h' a o):
    Inv X pins σ (upd H a o) { s with heap:=h',toks:=t' }:=I.un (Un.laid k hp (I.hok.fresh hp)) (I.hok.laid k hp new)
theorem Inv.write {x e:Addr} {o:HO} {t':Nat} (I:Inv X pins σ H s) (mu:Mut (H x)) (he:e=x\/H e=some (.own x)) (k:∀ b u,b≠e->s.heap.get? b=some u->h'.get? b=some u) (heo:∃ u,h'.get? e=some u)
    (new:ObjOk X.prog X.w (upd H x o) h' x o):Inv X pins σ (upd H x o) { s with heap:=h',toks:=t' }:=I.un (Un.write mu he k heo) (I.hok.write mu he k heo new)
theorem Inv.weak {σ':List (Option V)} (I:Inv X pins σ H s) (hl:σ'.length=σ.length) (w:∀ (i:Nat) v,σ'[i]?=some (some v)->σ[i]?=some (some v)):Inv X pins σ' H s:=
  ⟨I.ok,I.os,I.bare,I.base,let ⟨m,hn,hl'⟩:=I.loc;⟨m,hn,λ i x v e1 e2 e3=>hl' i x v e1 (w i v e2) e3⟩,I.cell,I.free,I.freeC,I.pin,I.hok,hl.trans I.len⟩
theorem Inv.pins_of {pins':List (Addr × Obj)} (I:Inv X pins σ H s) (h:∀ p∈pins',s.heap.get? p.1=some p.2/\H p.1=none/\p.1≠X.env.locals/\p.1∉X.fs/\∀ v,p.2.data≠ .cell v):Inv X pins' σ H s:=
  ⟨I.ok,I.os,I.bare,I.base,I.loc,I.cell,I.free,I.freeC,λ p hp=>(List.mem_append.mp hp).elim (λ z=>I.pin p (List.mem_append_left _ z)) (h p),I.hok,I.len⟩
theorem G3 {N:List Str} (hN:N.Nodup) {i j:Nat} {x:Str} (a:N[i]?=some x) (b:N[j]?=some x):i=j:=by
  obtain ⟨h1,e1⟩:=List.getElem?_eq_some_iff.mp a;obtain ⟨h2,e2⟩:=List.getElem?_eq_some_iff.mp b;exact (List.getElem_inj hN).mp (e1.trans e2.symm)
theorem NM {M:Model} {A:Around} {E:Value->Shared->Prop} {i:Nat} {x:Str} {v:V} {u:Value} {Q:Unit->Shared->Prop} (I:Inv X pins σ H s) (hN:X.N.Nodup) (hi:X.N[i]?=some x) (hx:Loc X.env.scope x) (r:RelV v u)
    (h:∀ s',Inv X pins (σ.set i (some v)) H s'->(∃ a,Heap.SameBut a s.heap s'.heap/\(a=X.env.locals\/X.env.cells.lookup x=some a))->Q () s') (hf:X.fn x=true\/X.env.scope.names.lookup x=some .local:=by first | exact .inl rfl | exact .inr rfl | assumption):wpAny M A (storeName X.env x u) Q E s:=by
  obtain ⟨m,hn,hl⟩:=id I.loc;have hcls:(X.env.scope.kind == .class||(X.env.scope.kind == .module&&X.env.locals != X.env.globals))=false:=by rw [I.ok.kind];rfl
  have hiσ:i<σ.length:=by rw [I.len];exact (List.getElem?_eq_some_iff.mp hi).1
  have cne:=I.cne;have tracked:∀ {a:Addr} {h':Heap},(∃ o,s.heap.get? a=some o/\H a=none)->Heap.SameBut a s.heap h'->HOk X.prog X.w H h':=λ {a h'} ha hs b ob e=>by
    obtain ⟨_,_,hfree⟩:=ha;refine (I.hok b ob e).stay (λ c w' hc q=>(hs.2 c ?_).trans q) (λ _ q=>q) λ _ _ q=>q;rintro rfl;rcases hc with rfl | hc
    · rw [hfree] at e;cases e
    · rw [hfree] at hc;cases hc
  rcases hx with hk | hk
  · refine wpAny_storeName_local hk hn (λ h' hn' hs=> ?_) hcls;obtain ⟨oL,_,_,hoL,_⟩:=id hn;refine h _ ⟨I.ok,I.os,I.bare,⟨λ b o e n hb hx=> ?_,λ b o e n hb hx=> ?_,I.base.free,λ b o e hx=> ?_,I.base.tups,I.base.frzs,I.base.tbls⟩,⟨_,hn',λ j y v' e1 e2 e3=> ?_⟩,λ y c e=> ?_,I.free,I.freeC,λ p hp=> ?_,tracked ⟨oL,hoL,I.free⟩ hs,by simpa using I.len⟩ ⟨_,hs, .inl rfl⟩
    · exact (hs.2 b (Nat.ne_of_lt (Nat.lt_of_lt_of_le (Heap.lt_size e) I.ok.above))).trans (I.base.keep b o e n hb hx)
    · obtain ⟨sl,e1⟩:=I.base.slot b o e n hb hx;exact ⟨sl,(hs.2 b (Nat.ne_of_lt (Nat.lt_of_lt_of_le (Heap.lt_size e) I.ok.above))).trans e1⟩
    · obtain ⟨o',e1⟩:=I.base.there b o e hx;exact ⟨o',(hs.2 b (Nat.ne_of_lt (Nat.lt_of_lt_of_le (Heap.lt_size e) I.ok.above))).trans e1⟩
    · by_cases hj:j=i
      · subst hj;rw [hi] at e1;cases e1;rw [List.getElem?_set_self hiσ] at e2;cases e2;exact ⟨u,r, .inl ⟨hk,by simp⟩⟩
      · rw [List.getElem?_set_ne (Ne.symm hj)] at e2;obtain ⟨u',r',q⟩:=hl j y v' e1 e2 e3;refine ⟨u',r',?_⟩;rcases q with ⟨k,e⟩ | ⟨k,c,e,z⟩
        · refine .inl ⟨k,?_⟩;have:y≠x:=λ e=>hj (G3 hN e1 (e▸hi));simp [this,e]
        · exact .inr ⟨k,c,e,z.sameBut hs (cne y c e)⟩
    · obtain ⟨w',z⟩:=I.cell y c e;exact ⟨w',z.sameBut hs (cne y c e)⟩
    · obtain ⟨e,n,ne,nf,d⟩:=I.pin p hp;exact ⟨(hs.2 p.1 ne).trans e,n,ne,nf,d⟩
  · have hfn:X.fn x=true:=by
      rcases hf with z | z
      · exact z
      · rw [z] at hk;cases hk
    obtain ⟨c,hc⟩:=I.ok.has x (.inl hk);obtain ⟨w',z⟩:=I.cell x c hc;refine wpAny_storeName_cell I.ok.kind hk hc z (λ h' hc' hs=> ?_);obtain ⟨oc,hoc,hocd⟩:=id z;refine h { s with heap:=h' } ⟨I.ok,I.os,I.bare,⟨λ b o e n hb hx=> ?_,λ b o e n hb hx=> ?_,I.base.free,λ b o e hx=> ?_,I.base.tups,I.base.frzs,I.base.tbls⟩,⟨m,hn.sameBut hs (Ne.symm (cne x c hc)),λ j y v' e1 e2 e3=> ?_⟩,λ y c' e=> ?_,I.free,I.freeC,λ p hp=> ?_,tracked ⟨oc,hoc,I.freeC x c hc⟩ hs,by simpa using I.len⟩ ⟨c,hs, .inr hc⟩
    · exact (hs.2 b (Nat.ne_of_lt (Nat.lt_of_lt_of_le (Heap.lt_size e) (I.ok.cab x c hfn hc)))).trans (I.base.keep b o e n hb hx)
    · obtain ⟨sl,e1⟩:=I.base.slot b o e n hb hx;exact ⟨sl,(hs.2 b (Nat.ne_of_lt (Nat.lt_of_lt_of_le (Heap.lt_size e) (I.ok.cab x c hfn hc)))).trans e1⟩
    · obtain ⟨o',e1⟩:=I.base.there b o e hx;exact ⟨o',(hs.2 b (Nat.ne_of_lt (Nat.lt_of_lt_of_le (Heap.lt_size e) (I.ok.cab x c hfn hc)))).trans e1⟩
    · by_cases hj:j=i
      · subst hj;rw [hi] at e1;cases e1;rw [List.getElem?_set_self hiσ] at e2;cases e2;exact ⟨u,r, .inr ⟨.inl hk,c,hc,hc'⟩⟩
      · rw [List.getElem?_set_ne (Ne.symm hj)] at e2;obtain ⟨u',r',q⟩:=hl j y v' e1 e2 e3;refine ⟨u',r',?_⟩;rcases q with q | ⟨k,c',e,z'⟩
        · exact .inl q
        · refine .inr ⟨k,c',e,z'.sameBut hs ?_⟩;rintro rfl;exact hj (G3 hN e1 (I.ok.inj _ _ _ e hc▸hi))
    · by_cases hcc:c'=c
      · subst hcc;exact ⟨_,hc'⟩
      · obtain ⟨w2,z2⟩:=I.cell y c' e;exact ⟨w2,z2.sameBut hs hcc⟩
    · obtain ⟨e,n,ne,nf,d⟩:=I.pin p hp;refine ⟨(hs.2 p.1 ?_).trans e,n,ne,nf,d⟩;intro q;rw [q,hoc] at e;have q':oc=p.2:=Option.some.inj e;exact d w' (by rw [<-q'];exact hocd)
theorem BZ {M:Model} {A:Around} {E:Value->Shared->Prop} {i:Nat} {x:Str} {v:V} {u:Value} {Q:Unit->Shared->Prop} (I:Inv X pins σ H s) (hN:X.N.Nodup) (hi:X.N[i]?=some x) (hx:Loc X.env.scope x) (r:RelV v u)
    (h:∀ s',Inv X pins (σ.set i (some v)) H s'->Q () s') (hf:X.fn x=true\/X.env.scope.names.lookup x=some .local:=by first | exact .inl rfl | exact .inr rfl | assumption):wpAny M A (storeName X.env x u) Q E s:=
  NM I hN hi hx r (λ s' I' _=>h s' I') hf
theorem Inv.call' {s':Shared} {ch:List Addr} (I:Inv X pins σ H s) (ho:s'.os=s.os) (u:Un (frs X.stack) ch H H' s.heap s'.heap) (hok:HOk X.prog X.w H' s'.heap) (hg:AllBare s'.gens)
    (hch:∀ b∈ch,(b∈X.ex\/X.s₀.heap.objs.size<=b)/\b≠X.env.locals/\(∀ x c,X.env.cells.lookup x=some c->c≠b)/\∀ p∈X.pn++pins,p.1≠b):Inv X pins σ H' s':=by
  obtain ⟨h',g',d',t',o'⟩:=s';have e:o'=s.os:=ho;subst e;exact I.call (g':=g') (t':=t') (d':=d') u hok hg hch
end
abbrev XK:=Value->Option Addr->Hp->Prop
abbrev St:=List (Option V)
abbrev VK:=V->Hp->Prop
abbrev TE:=St->Hp->VK->Prop
abbrev TT:=St->Hp->(Bool->Hp->Prop)->Prop
abbrev TA:=St->Hp->(List V->Hp->Prop)->Prop
structure Ends where
  nx:St->Hp->Prop
  rt:VK
  bk:St->Hp->Prop:=λ _ _=>False
  ct:St->Hp->Prop:=λ _ _=>False
abbrev TS:=Ends->St->Hp->Prop
def EP (X:Cx) (pins:List (Addr × Obj)) (σ:St) (Q:VK) (u:Value) (s':Shared):Prop:=∃ v H',Inv X pins σ H' s'/\RelV v u/\Q v H'
def TP (X:Cx) (pins:List (Addr × Obj)) (σ:St) (Q:Bool->Hp->Prop) (b:Bool) (s':Shared):Prop:=∃ H',Inv X pins σ H' s'/\Q b H'
def AP (X:Cx) (pins:List (Addr × Obj)) (σ:St) (Q:List V->Hp->Prop) (us:List Value) (s':Shared):Prop:=∃ vs H',Inv X pins σ H' s'/\Vals vs us/\Q vs H'
def SP (X:Cx) (pins:List (Addr × Obj)) (D:Ends) (f:Flow) (s':Shared):Prop:=
  match f with
  | .next=>∃ σ' H',Inv X pins σ' H' s'/\D.nx σ' H'
  | .brk=>∃ σ' H',Inv X pins σ' H' s'/\D.bk σ' H'
  | .cont=>∃ σ' H',Inv X pins σ' H' s'/\D.ct σ' H'
  | .ret u=>∃ v σ' H',Inv X pins σ' H' s'/\RelV v u/\D.rt v H'
def PE (X:Cx) (e:Expr) (t:TE):Prop:=
  ∀ (pins:List (Addr × Obj)) (s:Shared) (σ:St) (H:Hp) (Q:VK),Inv X pins σ H s->t σ H Q->wpAny (model X.prog X.w) X.A (eval e X.env) (EP X pins σ Q) X.xe s
def PT (X:Cx) (e:Expr) (t:TT):Prop:=
  ∀ (pins:List (Addr × Obj)) (s:Shared) (σ:St) (H:Hp) (Q:Bool->Hp->Prop),Inv X pins σ H s->t σ H Q->wpAny (model X.prog X.w) X.A (isTrue e X.env (eval e X.env)) (TP X pins σ Q) X.xe s
def PW (X:Cx) (e:Expr) (t:TT):Prop:=
  ∀ (whole:Sem Value) (pins:List (Addr × Obj)) (s:Shared) (σ:St) (H:Hp) (Q:Bool->Hp->Prop),Inv X pins σ H s->t σ H Q->wpAny (model X.prog X.w) X.A (isTrue e X.env whole) (TP X pins σ Q) X.xe s
theorem PW.pt {X:Cx} {e:Expr} {t:TT} (h:PW X e t):PT X e t:=h _
def PA (X:Cx) (es:List Expr) (t:TA):Prop:=
  ∀ (pos:Pos) (pins:List (Addr × Obj)) (s:Shared) (σ:St) (H:Hp) (Q:List V->Hp->Prop),Inv X pins σ H s->t σ H Q->wpAny (model X.prog X.w) X.A (spliced (backTo pos (starEach es X.env))) (AP X pins σ Q) X.xe s
def PS (X:Cx) (st:Stmt) (t:TS):Prop:=
  ∀ (pins:List (Addr × Obj)) (s:Shared) (σ:St) (H:Hp) (D:Ends),Inv X pins σ H s->t D σ H->wpAny (model X.prog X.w) X.A (exec st X.env) (SP X pins D) X.xe s
def PSs (X:Cx) (st:List Stmt) (t:TS):Prop:=
  ∀ (pins:List (Addr × Obj)) (s:Shared) (σ:St) (H:Hp) (D:Ends),Inv X pins σ H s->t D σ H->wpAny (model X.prog X.w) X.A (execs st X.env) (SP X pins D) X.xe s
theorem thn {α:Type} {t:Sem α} {Q Q':α->Shared->Prop} {M:Model} {A:Around} {E:Value->Shared->Prop} {s:Shared} (h:wpAny M A t Q E s) (hQ:∀ a s,Q a s->Q' a s):wpAny M A t Q' E s:=wpAny_mono h hQ λ _ _ x=>x
section
variable {X:Cx}
theorem bin {a b:Expr} {ta tb:TE} (ha:PE X a ta) (hb:PE X b tb) {pins:List (Addr × Obj)} {s:Shared} {σ:St} {H:Hp} {R:V->V->Hp->Prop} (I:Inv X pins σ H s) (h:ta σ H λ x H1=>tb σ H1 λ y H2=>R x y H2)
    {α:Type} {Q:α->Shared->Prop} {f:Value->Value->Sem α}
    (hf:∀ v u s2 x y H2,Inv X pins σ H2 s2->RelV x v->RelV y u->R x y H2->wpAny (model X.prog X.w) X.A (f v u) Q X.xe s2):
    wpAny (model X.prog X.w) X.A (eval a X.env) (λ v s₁=>wpAny (model X.prog X.w) X.A (eval b X.env) (λ u s₂=>wpAny (model X.prog X.w) X.A (f v u) Q X.xe s₂) X.xe s₁) X.xe s:=by
  refine thn (ha pins s σ H _ I h) λ v s1 ⟨x,H1,I1,r1,q1⟩=> ?_;refine thn (hb pins s1 σ H1 _ I1 q1) λ u s2 ⟨y,H2,I2,r2,q2⟩=> ?_;exact hf v u s2 x y H2 I2 r1 r2 q2
def Tx (i:Nat):TE:=λ σ H Q=>∃ v,σ[i]?=some (some v)/\Q v H
def tC (v:V):TE:=λ _ H Q=>Q v H
theorem TN {i:Nat} {x:Str} {pos:Pos} (hN:X.N[i]?=some x) (hv:Vis X.env.scope x) (hd:(x == ("__debug__":Str))=false:=by decide) (hcd:(x == ("__classdict__":Str))=false:=by decide):PE X (.Name x pos) (Tx i):=by
  intro pins s σ H Q I h;obtain ⟨v,e,h⟩:=h;obtain ⟨m,hn,hl⟩:=I.loc;obtain ⟨u,r,l⟩:=hl i x v hN e hv;have fin:EP X pins σ Q u s:=⟨v,H,I,r,h⟩;rcases l with ⟨hk,hm⟩ | ⟨hk,c,hc,hcell⟩
  · exact wpAny_Name (wpAny_loadName_local I.ok.kind hk hn hm fin) hd
  · rcases hk with hk | hk
    · exact wpAny_Name (wpAny_loadName_cell I.ok.kind hk hc hcell fin) hd
    · exact wpAny_Name (wpAny_loadName_free I.ok.kind hk hc hcell fin hcd) hd
theorem Ag {i j pos}:PE X (.Constant (.int i) j pos) (tC (.int i)):=λ _ _ _ H _ I h=>wpAny_Constant_int ⟨.int i,H,I.tok _,⟨_,rfl⟩,h⟩
theorem E4 {b j pos}:PE X (.Constant (.bool b) j pos) (tC (.bl b)):=λ _ _ _ H _ I h=>Constant_bool ⟨.bl b,H,I,rfl,h⟩
theorem DH {j pos}:PE X (.Constant .none j pos) (tC .non):=λ _ _ _ H _ I h=>Constant_none ⟨.non,H,I,rfl,h⟩
theorem AE {x j pos}:PE X (.Constant (.str x) j pos) (tC (.str x)):=λ _ _ _ H _ I h=>Calls.Constant_str ⟨.str x,H,I.tok _,⟨_,rfl⟩,h⟩
def Gl (X:Cx) (x:Str):Prop:=X.env.kindOf x=some .globalImplicit
theorem CQ {E:Value->Shared->Prop} {pins:List (Addr × Obj)} {s:Shared} {σ:St} {H:Hp} {x:Str} {u:Value} {pos:Pos} {Q:Value->Shared->Prop} (I:Inv X pins σ H s) (hg:Gl X x) (hm:X.mg x=some u) (h:Q u s)
    (hd:(x == ("__debug__":Str))=false:=by decide):wpAny (model X.prog X.w) X.A (eval (.Name x pos) X.env) Q E s:=
  Calls.Name_function_global I.ok.kind hg (Calls.loadGlobal_global (by rw [I.ok.glob];exact I.mod.glob.keeps I.bk) hm h) hd
theorem CC {E:Value->Shared->Prop} {pins:List (Addr × Obj)} {s:Shared} {σ:St} {H:Hp} {x:Str} {u:Value} {pos:Pos} {Q:Value->Shared->Prop} (I:Inv X pins σ H s) (hg:Gl X x) (hm:X.mg x=none) (hv:bootBuiltins x=some u) (h:Q u s)
    (hn:x≠"__name__":=by decide) (hd:(x == ("__debug__":Str))=false:=by decide):wpAny (model X.prog X.w) X.A (eval (.Name x pos) X.env) Q E s:=by
  obtain ⟨mb,h1,h2⟩:=I.mod.blt;exact Calls.Name_function_global I.ok.kind hg (Calls.loadGlobal_builtin (by rw [I.ok.glob];exact I.mod.glob.keeps I.bk) hm (by rw [I.ok.blt];exact h1.keeps I.bk) ((h2 x hn).trans hv) h) hd
theorem Jj {x:Str} {v:V} {u:Value} {pos:Pos} (hg:Gl X x) (hm:X.mg x=some u) (r:RelV v u) (hd:(x == ("__debug__":Str))=false:=by decide):PE X (.Name x pos) (tC v):=
  λ _ _ _ H _ I h=>CQ I hg hm ⟨v,H,I,r,h⟩ hd
theorem Rb {x:Str} {v:V} {u:Value} {pos:Pos} (hg:Gl X x) (hm:X.mg x=none) (hv:bootBuiltins x=some u) (r:RelV v u) (hn:x≠"__name__":=by decide) (hd:(x == ("__debug__":Str))=false:=by decide):PE X (.Name x pos) (tC v):=
  λ _ _ _ H _ I h=>CC I hg hm hv ⟨v,H,I,r,h⟩ hn hd
variable {a b:Expr} {ta tb:TE} {pos:Pos}
def PC (X:Cx) (op:CmpOp) (a b:Expr) (t:TE):Prop:=
  ∀ (pins:List (Addr × Obj)) (s:Shared) (σ:St) (H:Hp) (Q:VK),Inv X pins σ H s->t σ H Q->
    wpAny (model X.prog X.w) X.A (eval a X.env) (λ v s₁=>wpAny (model X.prog X.w) X.A (eval b X.env) (λ u s₂=>wpAny (model X.prog X.w) X.A (compareOp op v u) (EP X pins σ Q) X.xe s₂) X.xe s₁) X.xe s
theorem Ph (b:Expr) {op:CmpOp} (h:op≠ .In) (h2:op≠ .NotIn):behindInMarks op b=false:=by
  have e1:(op == CmpOp.In)=false:=by cases op <;> first | rfl | exact absurd rfl h
  have e2:(op == CmpOp.NotIn)=false:=by cases op <;> first | rfl | exact absurd rfl h2
  cases b <;> simp [behindInMarks,e1,e2]
def tB (t:TE):TT:=λ σ H Q=>t σ H λ x H1=>∃ c,x= .bl c/\Q c H1
theorem TY {op:CmpOp} {t:TE} (h:PC X op a b t) (h1:behindInMarks op b=false:=by first | exact Ph _ (by decide) (by decide) | rfl):PT X (.Compare a [op] [b] pos) (tB t):=by
  intro pins s σ H Q I hw;refine wpAny_isTrue_Compare1 (thn (h pins s σ H _ I hw) λ v s1 h1=>thn h1 λ u s2 h2=>thn h2 λ c s3 ⟨x,H1,I1,r1,q1⟩=> ?_) h1;obtain ⟨d,rfl,q⟩:=q1;cases r1;exact wpAny_truthy_bool ⟨H1,I1,q⟩
theorem Bb {e:Expr} {t:TE} (h:PE X e t) (he:∀ whole,isTrue e X.env whole=(do let v <-whole;standAt e.pos;holding [v] (truthy v)):=by intro _;rfl):PT X e (tB t):=by
  intro pins s σ H Q I hw;refine isTrue_plain (thn (h pins s σ H _ I hw) λ v s1 ⟨x,H1,I1,r1,q1⟩=> ?_) (he _);obtain ⟨d,rfl,q⟩:=q1;cases r1;exact wpAny_truthy_bool ⟨H1,I1,q⟩
variable {tA tB':TT} {rest:List Expr}
def Zd (t u:TT):TT:=λ σ H Q=>t σ H λ c H1=>if c=true then u σ H1 Q else Q false H1
def tOr (t u:TT):TT:=λ σ H Q=>t σ H λ c H1=>if c=true then Q true H1 else u σ H1 Q
def Y6 (t:TT):TT:=λ σ H Q=>t σ H λ c H1=>Q (!c) H1
theorem L7 (ha:PT X a tA):PW X (.BoolOp .And [a] pos) tA:=by
  intro wh pins s σ H Q I h;refine isTrue_and (thn (ha pins s σ H Q I h) λ c s1 e=> ?_);cases c with
  | true=>exact isTrue_and_nil e
  | false=>exact e
theorem FV (ha:PT X a tA):PW X (.BoolOp .Or [a] pos) tA:=by
  intro wh pins s σ H Q I h;refine isTrue_or (thn (ha pins s σ H Q I h) λ c s1 e=> ?_);cases c with
  | false=>exact isTrue_or_nil e
  | true=>exact e
theorem Oz (ha:PT X a tA) (hb:PW X (.BoolOp .And (b::rest) pos) tB'):PW X (.BoolOp .And (a::b::rest) pos) (Zd tA tB'):=by
  intro wh pins s σ H Q I h;refine isTrue_and (thn (ha pins s σ H _ I h) λ c s1 ⟨H1,I1,q1⟩=> ?_);cases c with
  | true=>exact hb wh pins s1 σ H1 Q I1 q1
  | false=>exact ⟨H1,I1,q1⟩
theorem Fs (ha:PT X a tA) (hb:PW X (.BoolOp .Or (b::rest) pos) tB'):PW X (.BoolOp .Or (a::b::rest) pos) (tOr tA tB'):=by
  intro wh pins s σ H Q I h;refine isTrue_or (thn (ha pins s σ H _ I h) λ c s1 ⟨H1,I1,q1⟩=> ?_);cases c with
  | true=>exact ⟨H1,I1,q1⟩
  | false=>exact hb wh pins s1 σ H1 Q I1 q1
theorem Da (ha:PT X a tA):PT X (.UnaryOp .Not a pos) (Y6 tA):=by
  intro pins s σ H Q I h;exact isTrue_not (ha pins s σ H (λ c H1=>Q (!c) H1) I h)
def Sm (ta tb:TE):TE:=λ σ H Q=>ta σ H λ x H1=>∃ c,x= .bl c/\if c=true then tb σ H1 Q else Q (.bl false) H1
def R7 (ta:TE):TE:=λ σ H Q=>ta σ H λ x H1=>∃ c,x= .bl c/\Q (.bl (!c)) H1
theorem FQ {op} {t:TE} (h:PE X a t):PE X (.BoolOp op [a] pos) t:=λ pins s σ H Q I hw=>BoolOp_one (h pins s σ H Q I hw)
theorem EN (ha:PE X a ta) (hb:PE X (.BoolOp .And (b::rest) pos) tb):PE X (.BoolOp .And (a::b::rest) pos) (Sm ta tb):=by
  intro pins s σ H Q I h;refine BoolOp_and (thn (ha pins s σ H _ I h) λ v s1 ⟨x,H1,I1,r1,q1⟩=> ?_);obtain ⟨c,rfl,q1⟩:=q1;cases r1;refine wpAny_truthy_bool ?_;cases c with
  | true=>exact hb pins s1 σ H1 Q I1 q1
  | false=>exact ⟨.bl false,H1,I1,rfl,q1⟩
theorem Oj (ha:PE X a ta):PE X (.UnaryOp .Not a pos) (R7 ta):=by
  intro pins s σ H Q I h;refine UnaryOp_ (thn (ha pins s σ H _ I h) λ v s1 ⟨x,H1,I1,r1,q1⟩=> ?_);obtain ⟨c,rfl,q1⟩:=q1;cases r1;exact not_of (wpAny_truthy_bool ⟨.bl (!c),H1,I1,rfl,q1⟩)
def tIf (t:TT) (ta tb:TE):TE:=λ σ H Q=>t σ H λ c H1=>if c=true then ta σ H1 Q else tb σ H1 Q
theorem Fb {c:Expr} (hc:PT X c tA) (ha:PE X a ta) (hb:PE X b tb):PE X (.IfExp c a b pos) (tIf tA ta tb):=by
  intro pins s σ H Q I h;refine wpAny_IfExp (thn (hc pins s σ H _ I h) λ d s1 ⟨H1,I1,q1⟩=> ?_);cases d with
  | true=>exact ha pins s1 σ H1 Q I1 q1
  | false=>exact hb pins s1 σ H1 Q I1 q1
end
def SqL (K:PySem.W.Frag) (H:Hp) (a:Addr) (xs:List V):Prop:=
  Rd H a (.lst xs)\/
    ∃ (o:Obj) (its:Array Value) (n:Nat),K.lookup a=some o/\o.cls= .type "list"/\o.dict=none/\o.data= .seq its n/\its.size<=sizeLine/\Vals xs its.toList
def SqT (K:PySem.W.Frag) (H:Hp) (a:Addr) (xs:List V):Prop:=
  Rd H a (.tup xs)\/
    ∃ (o:Obj) (its:Array Value) (n:Nat),K.lookup a=some o/\o.cls= .type "tuple"/\o.data= .seq its n/\its.size<=sizeLine/\Vals xs its.toList
def Z2:Value->Option V
  | .none=>some .non
  | .bool b=>some (.bl b)
  | .int i _=>some (.int i)
  | .str x _=>some (.str x)
  | .bytes b _=>some (.byt b)
  | .float b _=>some (.flt b)
  | .ref a=>some (.ref a)
  | .type n=>some (.ty n)
  | _=>none
theorem RelV.abs {x:V} {u:Value} (r:RelV x u):Z2 u=some x:=by
  cases x with
  | non=>cases r;rfl
  | bl _=>cases r;rfl
  | int _=>obtain ⟨t,rfl⟩:=r;rfl
  | str _=>obtain ⟨t,rfl⟩:=r;rfl
  | byt _=>obtain ⟨t,rfl⟩:=r;rfl
  | flt _=>obtain ⟨t,rfl⟩:=r;rfl
  | ref _=>cases r;rfl
  | ty _=>cases r;rfl
theorem RelV.inj {x y:V} {u:Value} (r:RelV x u) (q:RelV y u):x=y:=Option.some.inj (r.abs.symm.trans q.abs)
theorem Vals.inj:∀ {xs ys:List V} {us:List Value},Vals xs us->Vals ys us->xs=ys
  | _,_,_, .nil, .nil=>rfl
  | _,_,_, .cons r t, .cons r' t'=>by rw [r.inj r',Vals.inj t t']
section
variable {X:Cx} {pins:List (Addr × Obj)} {σ:St} {H:Hp} {s:Shared} {a:Addr} {xs ys:List V}
theorem SqL.of {K:PySem.W.Frag} (h:H a=some (.lst xs)):SqL K H a xs:= .inl (.inl h)
theorem SqT.of {K:PySem.W.Frag} (h:H a=some (.tup xs)):SqT K H a xs:= .inl (.inl h)
theorem Inv.list (I:Inv X pins σ H s) (h:SqL X.K H a xs):∃ its:List Value,Vals xs its/\PlainL s.heap a its.toArray/\xs.length<=sizeLine:=by
  rcases h with h | ⟨o,its,n,hk,hc,hd,hs,hz,r⟩
  · obtain ⟨z,its,n,r,e⟩:=h.ok I.hok;exact ⟨its,r,⟨_,n,e,rfl,rfl,rfl⟩,z⟩
  · refine ⟨its.toList,r,⟨o,n,I.kIn a o hk,hc,hd,by simpa using hs⟩,?_⟩;have e:=r.length;simp only [Array.length_toList] at e;omega
theorem Inv.tuple (I:Inv X pins σ H s) (h:SqT X.K H a xs):∃ its:List Value,Vals xs its/\IsTup s.heap a its.toArray/\xs.length<=sizeLine:=by
  rcases h with h | ⟨o,its,n,hk,hc,hs,hz,r⟩
  · obtain ⟨z,its,r,p⟩:=h.ok I.hok;exact ⟨its,r,p,z⟩
  · refine ⟨its.toList,r,⟨o,I.kIn a o hk,hc,n,by simpa using hs⟩,?_⟩;have e:=r.length;simp only [Array.length_toList] at e;omega
theorem Inv.list_inj (I:Inv X pins σ H s) (h:SqL X.K H a xs) (h':SqL X.K H a ys):xs=ys:=by
  obtain ⟨its,r,⟨o,n,e,_,_,d⟩,_⟩:=I.list h;obtain ⟨its',r',⟨o',n',e',_,_,d'⟩,_⟩:=I.list h';rw [e] at e';cases e';rw [d] at d';injection d' with d1 _;have:its=its':=by simpa using congrArg Array.toList d1
  subst this;exact r.inj r'
theorem Inv.tuple_inj (I:Inv X pins σ H s) (h:SqT X.K H a xs) (h':SqT X.K H a ys):xs=ys:=by
  obtain ⟨its,r,⟨o,e,_,n,d⟩,_⟩:=I.tuple h;obtain ⟨its',r',⟨o',e',_,n',d'⟩,_⟩:=I.tuple h';rw [e] at e';cases e';rw [d] at d';injection d' with d1 _;have:its=its':=by simpa using congrArg Array.toList d1
  subst this;exact r.inj r'
end
abbrev Cx.wish (X:Cx) (E:Value->Shared->Prop):Cx:={ X with xe:=E }
abbrev Cx.nox (X:Cx):Cx:=X.wish λ _ _=>False
theorem Cx.Ok.wish {X:Cx} (ok:X.Ok) (E:Value->Shared->Prop):(X.wish E).Ok:=
  ⟨ok.mod,ok.kind,ok.glob,ok.blt,ok.above,ok.inj,ok.has,ok.cab,ok.hd,ok.frames,ok.stk,ok.exf,ok.bs,ok.bsz,ok.noex,ok.exfs,ok.funs,ok.frf⟩
theorem Cx.Ok.unwish {X:Cx} {E:Value->Shared->Prop} (ok:(X.wish E).Ok):X.Ok:=
  ⟨ok.mod,ok.kind,ok.glob,ok.blt,ok.above,ok.inj,ok.has,ok.cab,ok.hd,ok.frames,ok.stk,ok.exf,ok.bs,ok.bsz,ok.noex,ok.exfs,ok.funs,ok.frf⟩
section
variable {X:Cx} {pins:List (Addr × Obj)} {σ:St} {H:Hp} {s:Shared} {E:Value->Shared->Prop}
theorem Inv.wish (I:Inv X pins σ H s) (E:Value->Shared->Prop):Inv (X.wish E) pins σ H s:=⟨I.ok.wish E,I.os,I.bare,I.base,I.loc,I.cell,I.free,I.freeC,I.pin,I.hok,I.len⟩
theorem Inv.unwish (I:Inv (X.wish E) pins σ H s):Inv X pins σ H s:=⟨I.ok.unwish,I.os,I.bare,I.base,I.loc,I.cell,I.free,I.freeC,I.pin,I.hok,I.len⟩
theorem SP.unwish {D:Ends} {f:Flow} {s':Shared} (h:SP (X.wish E) pins D f s'):SP X pins D f s':=by
  cases f with
  | next=>obtain ⟨σ',H',I,q⟩:=h;exact ⟨σ',H',I.unwish,q⟩
  | brk=>obtain ⟨σ',H',I,q⟩:=h;exact ⟨σ',H',I.unwish,q⟩
  | cont=>obtain ⟨σ',H',I,q⟩:=h;exact ⟨σ',H',I.unwish,q⟩
  | ret u=>obtain ⟨v,σ',H',I,r,q⟩:=h;exact ⟨v,σ',H',I.unwish,r,q⟩
theorem PSs.nox {st:List Stmt} {t:TS} (h:PSs X.nox st t):PSs X st t:=λ pins s σ H D I hw=>
  wpAny_mono (h pins s σ H D (I.wish _) hw) (λ _ _ q=>q.unwish) λ _ _ z=>False.elim z
end
section
variable {X:Cx} {st:Stmt} {rest:List Stmt} {t u:TS} {e:Expr} {te:TE} {pos:Pos}
def SH:TS:=λ D σ H=>D.nx σ H
def W6 (t u:TS):TS:=λ D σ H=>t { D with nx:=u D } σ H
theorem AK:PSs X [] SH:=λ _ _ σ H _ I h=>wpAny_execs_nil ⟨σ,H,I,h⟩
theorem Ac (h1:PS X st t) (h2:PSs X rest u):PSs X (st::rest) (W6 t u):=by
  intro pins s σ H D I h;refine wpAny_execs_cons (thn (h1 pins s σ H { D with nx:=u D } I h) λ f s1 q=> ?_);cases f with
  | next=>
    obtain ⟨σ',H',I',q⟩:=q;exact h2 pins s1 σ' H' D I' q
  | ret v=>exact q
  | brk=>exact q
  | cont=>exact q
theorem Af (h1:PS X st t):PSs X [st] t:=by
  intro pins s σ H D I h;refine wpAny_execs_cons (thn (h1 pins s σ H D I h) λ f s1 q=> ?_);cases f with
  | next=>exact wpAny_execs_nil q
  | ret v=>exact q
  | brk=>exact q
  | cont=>exact q
theorem Inv.quiet {pins:List (Addr × Obj)} {σ:St} {H:Hp} {s:Shared} (I:Inv X pins σ H s):interactive X.env=false:=by simp [interactive,I.ok.kind]
def R5 (te:TE):TS:=λ D σ H=>te σ H λ _ H1=>D.nx σ H1
theorem AL (he:PE X e te) (hs:swapsWith e none pos.line X.env=pure false:=by rfl):PS X (.Expr e pos) (R5 te):=by
  intro pins s σ H D I h;exact wpAny_Expr_any (thn (he pins s σ H _ I h) λ v s1 ⟨x,H1,I1,r1,q1⟩=>⟨σ,H1,I1,q1⟩) I.quiet hs
def Vd (te:TE):TS:=λ D σ H=>te σ H D.rt
theorem Al (he:PE X e te):PS X (.Return (some e) pos) (Vd te):=by
  intro pins s σ H D I h;exact wpAny_Return_some (thn (he pins s σ H _ I h) λ v s1 ⟨x,H1,I1,r1,q1⟩=>⟨x,σ,H1,I1,r1,q1⟩)
def Xw (c:TT) (t u:TS):TS:=λ D σ H=>c σ H λ b H1=>if b=true then t D σ H1 else u D σ H1
theorem Bc {c:Expr} {a b:List Stmt} {tc:TT} (hc:PT X c tc) (ha:PSs X a t) (hb:PSs X b u):PS X (.If c a b pos) (Xw tc t u):=by
  intro pins s σ H D I h;refine wpAny_If (thn (hc pins s σ H _ I h) λ d s1 ⟨H1,I1,q1⟩=> ?_);cases d with
  | true=>exact ha pins s1 σ H1 D I1 q1
  | false=>exact hb pins s1 σ H1 D I1 q1
def T4:TS:=λ _ _ _=>False
theorem PU:PS X st T4:=λ _ _ _ _ _ _ h=>h.elim
end
abbrev TG:=V->St->Hp->(St->Hp->Prop)->Prop
abbrev TGs:=List V->St->Hp->(St->Hp->Prop)->Prop
def PG (X:Cx) (target:Expr) (t:TG):Prop:=
  ∀ (pins:List (Addr × Obj)) (s:Shared) (σ:St) (H:Hp) (v:V) (u:Value) (Q:St->Hp->Prop),Inv X pins σ H s->RelV v u->t v σ H Q->
    wpAny (model X.prog X.w) X.A (assign target X.env u) (λ _ s'=>∃ σ' H',Inv X pins σ' H' s'/\Q σ' H') X.xe s
def PGs (X:Cx) (ts:List Expr) (t:TGs):Prop:=
  ∀ (pins:List (Addr × Obj)) (s:Shared) (σ:St) (H:Hp) (vs:List V) (us:List Value) (Q:St->Hp->Prop),Inv X pins σ H s->Vals vs us->t vs σ H Q->
    wpAny (model X.prog X.w) X.A (assignInOrder ((assignEach ts X.env).map (·.2)) us) (λ _ s'=>∃ σ' H',Inv X pins σ' H' s'/\Q σ' H') X.xe s
abbrev TIp:=V->V->Hp->VK->Prop
def PIp (X:Cx) (op:Operator) (t:TIp):Prop:=
  ∀ (pins:List (Addr × Obj)) (s:Shared) (σ:St) (H:Hp) (x y:V) (v u:Value) (Q:VK),Inv X pins σ H s->RelV x v->RelV y u->t x y H Q->
    wpAny (model X.prog X.w) X.A (inplaceOp op v u) (EP X pins σ Q) X.xe s
section
variable {X:Cx} {pos:Pos}
def AM (i:Nat):TG:=λ v σ H Q=>Q (σ.set i (some v)) H
theorem Bd {i:Nat} {x:Str} (hN:X.N.Nodup) (hi:X.N[i]?=some x) (hx:Loc X.env.scope x) (hf:X.fn x=true\/X.env.scope.names.lookup x=some .local:=by first | exact .inl rfl | exact .inr rfl | assumption):PG X (.Name x pos) (AM i):=by
  intro pins s σ H v u Q I r h;exact wpAny_assign_Name (BZ I hN hi hx r (λ s' I'=>⟨_,H,I',h⟩) hf)
def JX:TGs:=λ vs σ H Q=>vs=[]/\Q σ H
def B0 (t:TG) (u:TGs):TGs:=λ vs σ H Q=>∃ v r,vs=v::r/\t v σ H λ σ' H'=>u r σ' H' Q
theorem MA:PGs X [] JX:=by
  intro pins s σ H vs us Q I r h;obtain ⟨e,h⟩:=h;subst e;cases r;exact assignInOrder_nil ⟨σ,H,I,h⟩
theorem Fd {e:Expr} {es:List Expr} {t:TG} {u:TGs} (h1:PG X e t) (h2:PGs X es u)
    (hs:(assignEach (e::es) X.env).map (·.2)=assign e X.env::(assignEach es X.env).map (·.2):=by rfl):PGs X (e::es) (B0 t u):=by
  intro pins s σ H vs us Q I r h;obtain ⟨v,vr,e1,h⟩:=h;subst e1;cases r with
  | cons r rr=>
    rw [hs];refine assignInOrder_cons (thn (h1 pins s σ H _ _ _ I r h) λ _ s1 ⟨σ1,H1,I1,q1⟩=> ?_);exact h2 pins s1 σ1 H1 _ _ Q I1 rr q1
def JE (K:PySem.W.Frag) (n:Nat) (t:TGs):TG:=λ v σ H Q=>∃ a xs,v= .ref a/\SqT K H a xs/\xs.length=n/\t xs σ H Q
theorem Oa {es:List Expr} {k:Nat} {t:TGs} {n:Nat} (hc:X.calm=true) (h:PGs X es t)
    (hn:(assignEach es X.env).length=n:=by rfl) (hst:(assignEach es X.env).findIdx? (·.1)=none:=by rfl):PG X (.Tuple es k pos) (JE X.K n t):=by
  intro pins s σ H v u Q I r hw;obtain ⟨a,xs,e1,hq,hl,hw⟩:=hw;subst e1;cases r;obtain ⟨its,rv,ht,hz⟩:=I.tuple hq;refine assign_Tuple_tuple (I.ok.hd hc) ht (by simp [hn, <-hl,rv.length]) hst λ h' hx=> ?_;have I1:Inv X pins σ H { s with heap:=h' }:=I.kept (t':=s.toks) λ b o e=>hx b o (Nat.ne_of_lt (Heap.lt_size e)) e;exact h pins _ σ H xs _ Q I1 (by simpa using rv) hw
def QH (te:TE) (g:TG):TS:=λ D σ H=>te σ H λ x H1=>g x σ H1 D.nx
theorem An {i:Nat} {x:Str} {e:Expr} {te:TE} {pos':Pos} (hN:X.N.Nodup) (hi:X.N[i]?=some x) (hx:Loc X.env.scope x) (he:PE X e te) (hs:swapsWith e (some (.Name x pos')) pos.line X.env=pure false:=by rfl) (hf:X.fn x=true\/X.env.scope.names.lookup x=some .local:=by first | exact .inl rfl | exact .inr rfl | assumption):
    PS X (.Assign [.Name x pos'] e pos) (QH te (AM i)):=by
  intro pins s σ H D I h;refine wpAny_Assign_Name (thn (he pins s σ H _ I h) λ v s1 ⟨y,H1,I1,r1,q1⟩=> ?_) hs;exact BZ I1 hN hi hx r1 (λ s2 I2=>⟨_,H1,I2,q1⟩) hf
def UG (i:Nat) (te:TE) (ti:TIp):TS:=λ D σ H=>∃ x,σ[i]?=some (some x)/\te σ H λ y H1=>ti x y H1 λ z H2=>D.nx (σ.set i (some z)) H2
theorem LD {i:Nat} {x:Str} {e:Expr} {te:TE} {op:Operator} {ti:TIp} {pos':Pos} (hN:X.N.Nodup) (hi:X.N[i]?=some x) (hx:Loc X.env.scope x) (he:PE X e te) (ho:PIp X op ti) (hf:X.fn x=true\/X.env.scope.names.lookup x=some .local:=by first | exact .inl rfl | exact .inr rfl | assumption):
    PS X (.AugAssign (.Name x pos') op e pos) (UG i te ti):=by
  intro pins s σ H D I h;obtain ⟨v,e1,h⟩:=h;obtain ⟨m,hn,hl⟩:=I.loc;have vis:Vis X.env.scope x:=by rcases hx with k | k;exact .inl k;exact .inr (.inl k)
  obtain ⟨u,r,l⟩:=hl i x v hi e1 vis;refine wpAny_AugAssign_Name ?_;have go:wpAny (model X.prog X.w) X.A (eval e X.env) (λ w s₂=>wpAny (model X.prog X.w) X.A (inplaceOp op u w) (λ r s₃=>wpAny (model X.prog X.w) X.A (storeName X.env x r) (λ _=>SP X pins D .next) X.xe s₃) X.xe s₂) X.xe s:=by
    refine thn (he pins s σ H _ I h) λ w s1 ⟨y,H1,I1,r1,q1⟩=> ?_;refine thn (ho pins s1 σ H1 v y u w _ I1 r r1 q1) λ z s2 ⟨zv,H2,I2,r2,q2⟩=> ?_;exact BZ I2 hN hi hx r2 (λ s3 I3=>⟨_,H2,I3,q2⟩) hf
  rcases l with ⟨hk,hm⟩ | ⟨hk,c,hc,hcell⟩
  · exact wpAny_loadName_local I.ok.kind hk hn hm go
  · rcases hk with hk | hk
    · exact wpAny_loadName_cell I.ok.kind hk hc hcell go
    · rcases hx with k | k
      · have:X.env.scope.names.lookup x=some .free:=hk;rw [k] at this;cases this
      · have:X.env.scope.names.lookup x=some .free:=hk;rw [k] at this;cases this
end
section
variable {X:Cx} {pos:Pos}
def Th (c:TT) (tb:TS):TS:=λ D σ H=>∃ W:Nat->St->Hp->Prop,(∃ m,W m σ H)/\∀ m σ H,W m σ H->
  c σ H λ b H1=>if b=true then ∃ N:St->Hp->Prop,(∀ σ' H',N σ' H'->∃ m',m'<m/\W m' σ' H')/\tb { D with nx:=N,ct:=N,bk:=D.nx } σ H1 else D.nx σ H1
theorem OO {c:Expr} {body:List Stmt} {tc:TT} {tb:TS} (hp:PassesOwn (model X.prog X.w) X.A X.env X.xe) (hc:PT X c tc) (hb:PSs X body tb):PS X (.While c body [] pos) (Th tc tb):=by
  intro pins s σ H D I h;obtain ⟨W,⟨m0,w0⟩,turn⟩:=h;refine wpAny_While (codeAny_whileLoop (λ n s'=>∃ σ' H',Inv X pins σ' H' s'/\W n σ' H') ?_ m0 ⟨σ,H,I,w0⟩);rintro n s1 ⟨σ1,H1,I1,w1⟩;refine wpAny_passesOwn hp (thn (hc pins s1 σ1 H1 _ I1 (turn n σ1 H1 w1)) λ b s2 ⟨H2,I2,q2⟩=> ?_);cases b with
  | true=>
    obtain ⟨N,hN,q2⟩:=q2;rw [if_pos rfl];refine wpAny_passesOwn hp (thn (hb pins s2 σ1 H2 _ I2 q2) λ f s3 q3=> ?_);cases f with
    | next=>
      obtain ⟨σ3,H3,I3,n3⟩:=q3;obtain ⟨m',hm,w3⟩:=hN σ3 H3 n3;exact ⟨m',hm,σ3,H3,I3,w3⟩
    | cont=>
      obtain ⟨σ3,H3,I3,n3⟩:=q3;obtain ⟨m',hm,w3⟩:=hN σ3 H3 n3;exact ⟨m',hm,σ3,H3,I3,w3⟩
    | brk=>exact q3
    | ret v=>exact q3
  | false=>
    rw [if_neg Bool.false_ne_true];exact wpAny_execs_nil ⟨σ1,H2,I2,q2⟩
end
structure It where
  go:Nat->Hp->Prop
  yld:Nat->Hp->V->Hp->Prop
  stop:Nat->Hp->Prop
def Dq (X:Cx) (pins:List (Addr × Obj)) (H:Hp) (b:Addr):Prop:=
  H b=none/\b≠X.env.locals/\b∉X.fs/\(b∈X.ex\/X.s₀.heap.objs.size<=b)/\(∀ x c,X.env.cells.lookup x=some c->c≠b)/\∀ p∈X.pn++pins,p.1≠b
theorem Inv.fpOk {X:Cx} {pins:List (Addr × Obj)} {σ:St} {H H':Hp} {s:Shared} {b:Addr} (I:Inv X pins σ H s) (hb:s.heap.objs.size<=b) (hn:H' b=none):Dq X pins H' b:=by
  refine ⟨hn,Nat.ne_of_gt (Nat.lt_of_lt_of_le I.lt hb),I.nofs hb, .inr (Nat.le_trans I.sz hb),λ x c e z=> ?_,λ p hp z=> ?_⟩
  · obtain ⟨v,q⟩:=I.cell x c e;exact absurd (Nat.lt_of_lt_of_le q.lt (by rw [z];exact hb)) (Nat.lt_irrefl _)
  · exact absurd (Nat.lt_of_lt_of_le (Heap.lt_size (I.pin p hp).1) (by rw [z];exact hb)) (Nat.lt_irrefl _)
structure Turn (P:Program) (w:World) (K:PySem.W.Frag) (tg:Expr) (J:It) (fp:List Addr) (it:Addr) (tn:Nat->Heap->Prop):Prop where
  mem:it∈fp
  obj:∀ i h,tn i h->∀ b∈fp,∃ o,h.get? b=some o/\∀ v,o.data≠ .cell v
  keep:∀ i h h',tn i h->(∀ b∈fp,∀ o,h.get? b=some o->h'.get? b=some o)->tn i h'
  item:∀ (X:Cx),X.prog=P->X.w=w->X.K=K->X.calm=true->∀ (i:Nat) (pins:List (Addr × Obj)) (s:Shared) (σ:St) (H:Hp) (E:Value->Shared->Prop),Inv X pins σ H s->(∀ b∈fp,Dq X pins H b)->tn i s.heap->J.go i H->
    wpAny (model P w) X.A (pyNext (.ref it)) (λ r s1=>∃ u,r=some u/\
      wpAny (model P w) X.A (letOwnedTupleGo tg (.ref it) u) (λ _ s2=>∃ x H',Inv X pins σ H' s2/\RelV x u/\J.yld i H x H'/\tn (i+1) s2.heap/\∀ b∈fp,H' b=none) E s1) E s
  done:∀ (X:Cx),X.prog=P->X.w=w->X.K=K->X.calm=true->∀ (i:Nat) (pins:List (Addr × Obj)) (s:Shared) (σ:St) (H:Hp) (E:Value->Shared->Prop),Inv X pins σ H s->(∀ b∈fp,Dq X pins H b)->tn i s.heap->J.stop i H->
    wpAny (model P w) X.A (pyNext (.ref it)) (λ r s1=>r=none/\Inv X pins σ H s1) E s
  self:∀ (A:Around) (i:Nat) (s:Shared) (Q:Value->Shared->Prop) (E:Value->Shared->Prop),tn i s.heap->Q (.ref it) s->wpAny (model P w) A (pyIter (.ref it)) Q E s
abbrev TI:=St->Hp->(It->Hp->Prop)->Prop
def PIE (X:Cx) (pins:List (Addr × Obj)) (σ:St) (tg:Expr) (R:It->Hp->Prop) (itv:Value) (s2:Shared):Prop:=
  ∃ (it:Addr) (fp:List Addr) (tn:Nat->Heap->Prop) (J:It) (H':Hp),itv= .ref it/\Inv X pins σ H' s2/\Turn X.prog X.w X.K tg J fp it tn/\tn 0 s2.heap/\(∀ b∈fp,Dq X pins H' b)/\R J H'
def PI (X:Cx) (tg iter:Expr) (wi:TI):Prop:=
  ∀ (pins:List (Addr × Obj)) (s:Shared) (σ:St) (H:Hp) (R:It->Hp->Prop),Inv X pins σ H s->wi σ H R->
    wpAny (model X.prog X.w) X.A (eval iter X.env) (λ v s1=>wpAny (model X.prog X.w) X.A (pyIter v) (PIE X pins σ tg R) X.xe s1) X.xe s
theorem Qh {M:Model} {A:Around} {E:Value->Shared->Prop} {s:Shared} {tg:Expr} {it:Addr} {u:Value} {o:Obj} {n:String} {vs:Array Value} {Q:Unit->Shared->Prop} (ho:s.heap.get? it=some o) (hc:o.cls= .type n) (hd:o.data= .fields vs)
    (hn:["enumerate","zip","dict_itemiterator","dict_reverseitemiterator","odict_iterator","itertools.zip_longest","itertools.pairwise"].contains n=false) (hQ:Q () s):wpAny M A (letOwnedTupleGo tg (.ref it) u) Q E s:=by
  unfold letOwnedTupleGo;cases tg <;> first
    | exact wpAny_pure hQ
    | (cases u <;> first
        | exact wpAny_pure hQ
        | (refine wpAny_bind (wpAny_load ho ?_)
           rw [hc,hd];show wpAny M A (if (["enumerate","zip","dict_itemiterator","dict_reverseitemiterator","odict_iterator","itertools.zip_longest","itertools.pairwise"].contains n&&vs[0]? == some (rawInt _))=true then _ else _) Q E s;rw [if_neg (by intro h;rw [hn,Bool.false_and] at h;cases h)];exact wpAny_pure hQ))
def Itl (K:PySem.W.Frag) (a:Addr):It:=
  ⟨λ i H=>∃ xs x,SqL K H a xs/\xs[i]?=some x,λ i H x H'=>H'=H/\∀ xs,SqL K H a xs->xs[i]?=some x,λ i H=>∃ xs,SqL K H a xs/\xs.length<=i⟩
def Itt (K:PySem.W.Frag) (a:Addr):It:=
  ⟨λ i H=>∃ xs x,SqT K H a xs/\xs[i]?=some x,λ i H x H'=>H'=H/\∀ xs,SqT K H a xs->xs[i]?=some x,λ i H=>∃ xs,SqT K H a xs/\xs.length<=i⟩
def Itr (lo:Int) (n:Nat):It:=⟨λ i _=>i<n,λ i H x H'=>H'=H/\x= .int (lo+i),λ i _=>n<=i⟩
theorem Ja {P:Program} {w:World} {K:PySem.W.Frag} {tg:Expr} (a it:Addr):Turn P w K tg (Itl K a) [it] it (λ i h=>h.IsListIter it a i) where
  mem:=by simp
  obj:=λ i h st b hb=>by
    have e:b=it:=by simpa using hb
    subst e;obtain ⟨o,e,c,d⟩:=st;exact ⟨o,e,λ v z=>by rw [d] at z;cases z⟩
  keep:=λ i h h' st k=>st.at λ o e=>k it (by simp) o e
  item:=by
    intro X hP hw hK hc i pins s σ H E I hf st hg;subst hP hw hK;obtain ⟨xs,x,hq,hx⟩:=hg;obtain ⟨its,rv,p,hz⟩:=I.list hq;obtain ⟨u,hu,ru⟩:=rv.get hx;obtain ⟨f0,f1,f2,f3,f4,f5⟩:=hf it (by simp);refine wpAny_pyNext_list_item st p.isList (x:=u) (by simpa using hu) λ h' st' sb=> ?_;have I1:Inv X pins σ H { s with heap:=h' }:=I.turned (t':=s.toks) (λ b o hb e=>(sb.2 b hb).trans e) f0 f1 f3 f4 f5;obtain ⟨o,e,c,d⟩:=id st';exact ⟨u,rfl,Qh (s:={ s with heap:=h' }) e c d (by decide) ⟨x,H,I1,ru,⟨rfl,λ ys hy=>by rw [I.list_inj hy hq];exact hx⟩,st',λ b hb=>(hf b hb).1⟩⟩
  done:=by
    intro X hP hw hK hc i pins s σ H E I hf st hg;subst hP hw hK;obtain ⟨xs,hq,hx⟩:=hg;obtain ⟨its,rv,p,hz⟩:=I.list hq;obtain ⟨f0,f1,f2,f3,f4,f5⟩:=hf it (by simp);have hl:=rv.length;exact wpAny_pyNext_list_end (I.ok.hd hc) st p.isList (by simp;omega) λ h' eb=>⟨rfl,I.turned (t':=s.toks) (λ b o hb e=>eb b o hb e) f0 f1 f3 f4 f5⟩
  self:=λ _ _ _ _ _ st h=>wpAny_pyIter_listiter st h
theorem Hr {P:Program} {w:World} {K:PySem.W.Frag} {tg:Expr} (a it:Addr):Turn P w K tg (Itt K a) [it] it (λ i h=>h.IsTupleIter it a i) where
  mem:=by simp
  obj:=λ i h st b hb=>by
    have e:b=it:=by simpa using hb
    subst e;obtain ⟨o,e,c,d⟩:=st;exact ⟨o,e,λ v z=>by rw [d] at z;cases z⟩
  keep:=λ i h h' st k=>st.at λ o e=>k it (by simp) o e
  item:=by
    intro X hP hw hK hc i pins s σ H E I hf st hg;subst hP hw hK;obtain ⟨xs,x,hq,hx⟩:=hg;obtain ⟨its,rv,p,hz⟩:=I.tuple hq;obtain ⟨u,hu,ru⟩:=rv.get hx;obtain ⟨f0,f1,f2,f3,f4,f5⟩:=hf it (by simp);refine wpAny_pyNext_tuple_item st (show s.heap.IsTuple a its.toArray from p) (x:=u) (by simpa using hu) λ h' st' sb=> ?_;have I1:Inv X pins σ H { s with heap:=h' }:=I.turned (t':=s.toks) (λ b o hb e=>(sb.2 b hb).trans e) f0 f1 f3 f4 f5;obtain ⟨o,e,c,d⟩:=id st';exact ⟨u,rfl,Qh (s:={ s with heap:=h' }) e c d (by decide) ⟨x,H,I1,ru,⟨rfl,λ ys hy=>by rw [I.tuple_inj hy hq];exact hx⟩,st',λ b hb=>(hf b hb).1⟩⟩
  done:=by
    intro X hP hw hK hc i pins s σ H E I hf st hg;subst hP hw hK;obtain ⟨xs,hq,hx⟩:=hg;obtain ⟨its,rv,p,hz⟩:=I.tuple hq;obtain ⟨f0,f1,f2,f3,f4,f5⟩:=hf it (by simp);have hl:=rv.length;exact wpAny_pyNext_tuple_end (I.ok.hd hc) st (show s.heap.IsTuple a its.toArray from p) (by simp;omega) λ h' eb=>⟨rfl,I.turned (t':=s.toks) (λ b o hb e=>eb b o hb e) f0 f1 f3 f4 f5⟩
  self:=λ _ _ _ _ _ st h=>wpAny_pyIter_tupleiter st h
theorem LO {P:Program} {w:World} {K:PySem.W.Frag} {tg:Expr} (it:Addr) (lo:Int) (n:Nat):Turn P w K tg (Itr lo n) [it] it (λ i h=>IsRangeIter h it (lo+(i:Nat)*1) ((n:Int) - (i:Nat)) 1) where
  mem:=by simp
  obj:=λ i h st b hb=>by
    have e:b=it:=by simpa using hb
    subst e;exact ⟨_,st,λ v z=>by
      have z':Data.fields _=Data.cell v:=z;cases z'⟩
  keep:=λ i h h' st k=>k it (by simp) _ st
  item:=by
    intro X hP hw hK hc i pins s σ H E I hf st hg;subst hP hw hK;obtain ⟨f0,f1,f2,f3,f4,f5⟩:=hf it (by simp);have W:=Walks.range (prog:=X.prog) (w:=X.w) (I.ok.hd hc) it lo 1 n;refine W.item i s _ _ hg st λ v h' tk hv st' kk=> ?_;obtain ⟨t,rfl⟩:=hv;have I1:Inv X pins σ H { s with heap:=h',toks:=tk }:=I.turned (λ b o hb e=>kk b o (by simpa using hb) e) f0 f1 f3 f4 f5;refine ⟨_,rfl,Qh (s:={ s with heap:=h',toks:=tk }) (n:="range_iterator") st' rfl rfl (by decide) ⟨.int (lo+i),H,I1,⟨t,?_⟩,⟨rfl,rfl⟩,st',λ b hb=>(hf b hb).1⟩⟩;rw [Int.mul_one]
  done:=by
    intro X hP hw hK hc i pins s σ H E I hf st hg;subst hP hw hK;obtain ⟨f0,f1,f2,f3,f4,f5⟩:=hf it (by simp);exact wpAny_pyNext_range_end (I.ok.hd hc) st (by have:n<=i:=hg;omega) λ h' eb=>⟨rfl,I.turned (t':=s.toks) (λ b o hb e=>eb b o hb e) f0 f1 f3 f4 f5⟩
  self:=λ _ _ _ _ _ st h=>wpAny_pyIter_rangeiter st h
section
variable {X:Cx} {tg:Expr}
def Oh (K:PySem.W.Frag) (tl:TE):TI:=λ σ H R=>tl σ H λ x H1=>∃ a,x= .ref a/\(∃ xs,SqL K H1 a xs)/\R (Itl K a) H1
def S6 (K:PySem.W.Frag) (tl:TE):TI:=λ σ H R=>tl σ H λ x H1=>∃ a,x= .ref a/\(∃ xs,SqT K H1 a xs)/\R (Itt K a) H1
theorem Qs {l:Expr} {tl:TE} (hl:PE X l tl):PI X tg l (Oh X.K tl):=by
  intro pins s σ H R I h;refine thn (hl pins s σ H _ I h) λ v s1 ⟨x,H1,I1,r1,q1⟩=> ?_;obtain ⟨a,e,⟨xs,hq⟩,q⟩:=q1;subst e;cases r1;obtain ⟨its,rv,p,hz⟩:=I1.list hq;refine wpAny_pyIter_list p.isList ?_;refine ⟨s1.heap.objs.size,[s1.heap.objs.size],_,_,H1,rfl,I1.kept (t':=s1.toks) λ b o e=>Heap.get?_push_of_some _ e,Ja a _,⟨_,Heap.get?_push_size _ rfl,rfl,rfl⟩,λ b hb=> ?_,q⟩;have e:b=s1.heap.objs.size:=by simpa using hb
  subst e;exact I1.fpOk (Nat.le_refl _) (I1.hok.fresh (Nat.le_refl _))
theorem Tc {l:Expr} {tl:TE} (hl:PE X l tl):PI X tg l (S6 X.K tl):=by
  intro pins s σ H R I h;refine thn (hl pins s σ H _ I h) λ v s1 ⟨x,H1,I1,r1,q1⟩=> ?_;obtain ⟨a,e,⟨xs,hq⟩,q⟩:=q1;subst e;cases r1;obtain ⟨its,rv,p,hz⟩:=I1.tuple hq;refine wpAny_pyIter_tuple (show s1.heap.IsTuple a its.toArray from p) ?_;refine ⟨s1.heap.objs.size,[s1.heap.objs.size],_,_,H1,rfl,I1.kept (t':=s1.toks) λ b o e=>Heap.get?_push_of_some _ e,Hr a _,⟨_,Heap.get?_push_size _ rfl,rfl,rfl⟩,λ b hb=> ?_,q⟩;have e:b=s1.heap.objs.size:=by simpa using hb
  subst e;exact I1.fpOk (Nat.le_refl _) (I1.hok.fresh (Nat.le_refl _))
theorem Ka {pins:List (Addr × Obj)} {σ:St} {H:Hp} {s:Shared} {R:It->Hp->Prop} {E:Value->Shared->Prop} {lo hi:Int} {t u v:Tok} {tk:Nat} (I:Inv X pins σ H s) (h1: -(2 ^ 62)<=lo) (h2:lo<2 ^ 62) (h3: -(2 ^ 62)<=hi) (h4:hi<2 ^ 62)
    (q:R (Itr lo (hi - lo).toNat) H):wpAny (model X.prog X.w) X.A (pyIter (.ref s.heap.objs.size)) (PIE X pins σ tg R) E { s with heap:=s.heap.push { cls:= .type "range",data:= .fields #[.int lo t, .int hi u, .int 1 v] },toks:=tk }:=by
  refine wpAny_pyIter_range (IsRange.new ..) (small_one h1 h2 h3 h4) ?_;have I1:Inv X pins σ H { s with heap:=s.heap.push { cls:= .type "range",data:= .fields #[.int lo t, .int hi u, .int 1 v] },toks:=tk }:=I.kept λ b o e=>Heap.get?_push_of_some _ e;refine ⟨(s.heap.push { cls:= .type "range",data:= .fields #[.int lo t, .int hi u, .int 1 v] }).objs.size,[(s.heap.push { cls:= .type "range",data:= .fields #[.int lo t, .int hi u, .int 1 v] }).objs.size],_,_,H,rfl,
    I1.kept (t':=tk) λ b o e=>Heap.get?_push_of_some _ e,LO _ lo (hi - lo).toNat,?_,λ b hb=> ?_,q⟩
  · have e1:lo+((0:Nat):Int)*1=lo:=by simp
    have e2:(((hi - lo).toNat:Nat):Int) - ((0:Nat):Int)=Builtin.Range.rangeSize lo hi 1:=by rw [rangeSize_one];split <;> omega
    show IsRangeIter _ _ (lo+((0:Nat):Int)*1) ((((hi - lo).toNat:Nat):Int) - ((0:Nat):Int)) 1;rw [e1,e2];exact Heap.get?_push_size _ rfl
  · have e:b=(s.heap.push { cls:= .type "range",data:= .fields #[.int lo t, .int hi u, .int 1 v] }).objs.size:=by simpa using hb
    subst e;exact I1.fpOk (Nat.le_refl _) (I1.hok.fresh (Nat.le_refl _))
def SG (ta:TA):TI:=λ σ H R=>ta σ H λ vs H1=>∃ j:Int,vs=[.int j]/\ -(2 ^ 62)<=j/\j<2 ^ 62/\R (Itr 0 j.toNat) H1
def Sf (ta:TA):TI:=λ σ H R=>ta σ H λ vs H1=>∃ i j:Int,vs=[.int i, .int j]/\(-(2 ^ 62)<=i/\i<2 ^ 62/\ -(2 ^ 62)<=j/\j<2 ^ 62)/\R (Itr i (j - i).toNat) H1
theorem Fx {a:Expr} {ta:TA} {p pos:Pos} (hg:Gl X "range") (hm:X.mg "range"=none) (ha:PA X [a] ta) (hs:starEach [a] X.env=[(false,eval a X.env)]:=by rfl):PI X tg (.Call (.Name "range" p) [a] [] pos) (SG ta):=by
  intro pins s σ H R I h;refine Call_ (CC I hg hm boot_range (PyProof.Rows.callWith_type1 (thn (ha pos pins s σ H _ I h) λ us s1 ⟨vs,H1,I1,r1,q1⟩=> ?_) hs rfl));obtain ⟨j,e,q1,q2,q⟩:=q1;subst e;cases r1 with
  | cons r rr=>
    cases rr;obtain ⟨t,rfl⟩:=r;exact call_range_1 (Ka I1 (by omega) (by omega) q1 q2 (by simpa using q))
theorem CK {a b:Expr} {ta:TA} {p pos:Pos} (hg:Gl X "range") (hm:X.mg "range"=none) (ha:PA X [a,b] ta) (hs:starEach [a,b] X.env=[(false,eval a X.env),(false,eval b X.env)]:=by rfl) (hs2:starEach [b] X.env=[(false,eval b X.env)]:=by rfl):
    PI X tg (.Call (.Name "range" p) [a,b] [] pos) (Sf ta):=by
  intro pins s σ H R I h;refine Call_ (CC I hg hm boot_range (PyProof.Rows.callWith_type1 (thn (ha pos pins s σ H _ I h) λ us s1 ⟨vs,H1,I1,r1,q1⟩=> ?_) (by rw [hs,hs2]) (by rw [hs2];rfl)));obtain ⟨i,j,e,⟨q1,q2,q3,q4⟩,q⟩:=q1;subst e;cases r1 with
  | cons r rr=>
    cases rr with
    | cons r' rr=>
      cases rr;obtain ⟨t,rfl⟩:=r;obtain ⟨t',rfl⟩:=r';exact call_range_2 (Ka I1 q1 q2 q3 q4 q)
def Yi (wi:TI) (g:TG) (tb:TS):TS:=λ D σ H=>wi σ H λ J H1=>∃ W:Nat->Nat->St->Hp->Prop,(∃ m,W 0 m σ H1)/\∀ i m σ H,W i m σ H->
  (J.stop i H/\D.nx σ H)\/(J.go i H/\∃ N:St->Hp->Prop,(∀ σ' H',N σ' H'->∃ m',m'<m/\W (i+1) m' σ' H')/\∀ x H',J.yld i H x H'->g x σ H' λ σ2 H2=>tb { D with nx:=N,ct:=N,bk:=D.nx } σ2 H2)
def GU (fp:List Addr) (h:Heap):List (Addr × Obj):=fp.filterMap λ b=>(h.get? b).map λ o=>(b,o)
theorem C1 {fp:List Addr} {h:Heap} {b:Addr} {o:Obj} (hb:b∈fp) (e:h.get? b=some o):(b,o)∈GU fp h:=List.mem_filterMap.mpr ⟨b,hb,by rw [e];rfl⟩
theorem NQ {fp:List Addr} {h:Heap} {p:Addr × Obj} (hp:p∈GU fp h):p.1∈fp/\h.get? p.1=some p.2:=by
  obtain ⟨b,hb,e⟩:=List.mem_filterMap.mp hp;cases q:h.get? b with
  | none=>rw [q] at e;cases e
  | some o=>
    rw [q] at e;have e':(b,o)=p:=Option.some.inj e;subst e';exact ⟨hb,q⟩
theorem Inv.pinned {pins:List (Addr × Obj)} {σ:St} {H:Hp} {s:Shared} {fp:List Addr} (I:Inv X pins σ H s) (hf:∀ b∈fp,Dq X pins H b) (ho:∀ b∈fp,∃ o,s.heap.get? b=some o/\∀ v,o.data≠ .cell v):Inv X (pins++GU fp s.heap) σ H s:=
  I.pins_of λ p hp=>(List.mem_append.mp hp).elim (λ z=>I.pin p (List.mem_append_right _ z)) λ z=>by
    obtain ⟨hb,e⟩:=NQ z;obtain ⟨f0,f1,f2,_⟩:=hf p.1 hb;obtain ⟨o,e',d⟩:=ho p.1 hb;rw [e] at e';cases e';exact ⟨e,f0,f1,f2,d⟩
theorem Inv.unpinned {pins pl:List (Addr × Obj)} {σ:St} {H:Hp} {s:Shared} (I:Inv X (pins++pl) σ H s):Inv X pins σ H s:=I.pins_of λ p hp=>I.pin p (List.mem_append_right _ (List.mem_append_left _ hp))
theorem Cp {iter:Expr} {body:List Stmt} {wi:TI} {g:TG} {tb:TS} {pos:Pos} (hp:PassesOwn (model X.prog X.w) X.A X.env X.xe) (hc:X.calm=true) (hi:PI X tg iter wi) (hg:PG X tg g) (hb:PSs X body tb)
    (hs:∀ x,foldedSetIterable iter X.env x=pure x:=by intro _;rfl):PS X (.For tg iter body [] pos) (Yi wi g tb):=by
  intro pins s σ H D I h;refine wpAny_For (thn (hi pins s σ H _ I h) λ v s1 h1=>thn h1 λ itv s2 h2=> ?_) hs;obtain ⟨it,fp,tn,J,H2,e,I2,T,st2,f2,W,⟨m0,w0⟩,turn⟩:=h2;subst e;have stat:∀ {H':Hp},(∀ b∈fp,H' b=none)->∀ b∈fp,Dq X pins H' b:=λ hn b hb=>⟨hn b hb,(f2 b hb).2⟩;refine codeAny_forLoop_any (λ n s'=>∃ i σ' H',Inv X pins σ' H' s'/\tn i s'.heap/\(∀ b∈fp,H' b=none)/\W i n σ' H') ?_ m0 ⟨0,σ,H2,I2,st2,λ b hb=>(f2 b hb).1,w0⟩;rintro n s3 ⟨i,σ3,H3,I3,st3,fr3,w3⟩;rcases turn i n σ3 H3 w3 with ⟨stop,qn⟩ | ⟨go,N,hN,step⟩
  · refine wpAny_passesOwn hp (thn (T.done X rfl rfl rfl hc i pins s3 σ3 H3 X.xe I3 (stat fr3) st3 stop) λ r s4 ⟨hr,I4⟩=> ?_);subst hr;exact wpAny_execs_nil ⟨σ3,H3,I4,qn⟩
  · refine wpAny_passesOwn hp (thn (T.item X rfl rfl rfl hc i pins s3 σ3 H3 X.xe I3 (stat fr3) st3 go) λ r s4 ⟨u,hr,h4⟩=> ?_);subst hr;refine wpAny_passesOwn hp (thn h4 λ _ s5 ⟨x,H5,I5,r5,y5,st5,fr5⟩=> ?_);have I5':=I5.pinned (stat fr5) (T.obj _ _ st5);refine wpAny_passesOwn hp (thn (hg _ s5 σ3 H5 x u _ I5' r5 (step x H5 y5)) λ _ s6 ⟨σ6,H6,I6,q6⟩=> ?_);refine wpAny_passesOwn hp (thn (hb _ s6 σ6 H6 _ I6 q6) λ f s7 q7=> ?_);have again:∀ {σ7:St} {H7:Hp},Inv X (pins++GU fp s5.heap) σ7 H7 s7->N σ7 H7->∃ m,m<n/\∃ i σ' H',Inv X pins σ' H' s7/\tn i s7.heap/\(∀ b∈fp,H' b=none)/\W i m σ' H':=λ {σ7 H7} I7 n7=>by
      obtain ⟨m',hm,w7⟩:=hN σ7 H7 n7;refine ⟨m',hm,i+1,σ7,H7,I7.unpinned,T.keep _ _ _ st5 λ b hb o e=>(I7.pin (b,o) (List.mem_append_right _ (List.mem_append_right _ (C1 hb e)))).1,λ b hb=> ?_,w7⟩;obtain ⟨o,e,d⟩:=T.obj _ _ st5 b hb;exact (I7.pin (b,o) (List.mem_append_right _ (List.mem_append_right _ (C1 hb e)))).2.1
    cases f with
    | next=>obtain ⟨σ7,H7,I7,n7⟩:=q7;exact again I7 n7
    | cont=>obtain ⟨σ7,H7,I7,n7⟩:=q7;exact again I7 n7
    | brk=>obtain ⟨σ7,H7,I7,q7⟩:=q7;exact ⟨σ7,H7,I7.unpinned,q7⟩
    | ret v=>obtain ⟨x7,σ7,H7,I7,r7,q7⟩:=q7;exact ⟨x7,σ7,H7,I7.unpinned,r7,q7⟩
end
abbrev R2:=V->V->Hp->VK->Prop
def OpR (X:Cx) (f:Value->Value->Sem Value) (r:R2):Prop:=
  ∀ (pins:List (Addr × Obj)) (s:Shared) (σ:St) (H:Hp) (x y:V) (v u:Value) (Q:VK),Inv X pins σ H s->RelV x v->RelV y u->r x y H Q->
    wpAny (model X.prog X.w) X.A (f v u) (EP X pins σ Q) X.xe s
def UnR (X:Cx) (f:Value->Sem Value) (r:V->Hp->VK->Prop):Prop:=
  ∀ (pins:List (Addr × Obj)) (s:Shared) (σ:St) (H:Hp) (x:V) (v:Value) (Q:VK),Inv X pins σ H s->RelV x v->r x H Q->
    wpAny (model X.prog X.w) X.A (f v) (EP X pins σ Q) X.xe s
def AU (X:Cx) (f:Value) (r:List V->Hp->VK->Prop):Prop:=
  ∀ (pins:List (Addr × Obj)) (s:Shared) (σ:St) (H:Hp) (xs:List V) (us:List Value) (Q:VK),Inv X pins σ H s->Vals xs us->r xs H Q->
    wpAny (model X.prog X.w) X.A (call f us) (EP X pins σ Q) X.xe s
def ZT (X:Cx) (r:V->Hp->(Bool->Hp->Prop)->Prop):Prop:=
  ∀ (pins:List (Addr × Obj)) (s:Shared) (σ:St) (H:Hp) (x:V) (v:Value) (Q:Bool->Hp->Prop),Inv X pins σ H s->RelV x v->r x H Q->
    wpAny (model X.prog X.w) X.A (truthy v) (TP X pins σ Q) X.xe s
def tOp (r:R2) (ta tb:TE):TE:=λ σ H Q=>ta σ H λ x H1=>tb σ H1 λ y H2=>r x y H2 Q
def tUn (r:V->Hp->VK->Prop) (ta:TE):TE:=λ σ H Q=>ta σ H λ x H1=>r x H1 Q
def rI (C:Int->Int->Prop) (g:Int->Int->V):R2:=λ x y H Q=>∃ i j,x= .int i/\y= .int j/\C i j/\Q (g i j) H
def rI0 (g:Int->Int->V):R2:=λ x y H Q=>∃ i j,x= .int i/\y= .int j/\Q (g i j) H
def rU (g:Int->V):V->Hp->VK->Prop:=λ x H Q=>∃ i,x= .int i/\Q (g i) H
section
variable {X:Cx} {a b c:Expr} {ta tb tc:TE} {pos:Pos}
theorem Ue (ha:PE X a ta) (hb:PE X b tb) {pins:List (Addr × Obj)} {s:Shared} {σ:St} {H:Hp} {R:V->V->Hp->Prop} (I:Inv X pins σ H s)
    (h:ta σ H λ x H1=>tb σ H1 λ y H2=>R x y H2) {Q:Value->Shared->Prop} {f:Value->Value->Sem Value}
    (hf:∀ v u s2 x y H2,Inv X pins σ H2 s2->RelV x v->RelV y u->R x y H2->wpAny (model X.prog X.w) X.A (f v u) Q X.xe s2):
    wpAny (model X.prog X.w) X.A (eval a X.env) (λ v s₁=>wpAny (model X.prog X.w) X.A (eval b X.env) (λ u s₂=>wpAny (model X.prog X.w) X.A (f v u) Q X.xe s₂) X.xe s₁) X.xe s:=by
  refine thn (ha pins s σ H _ I h) λ v s1 ⟨x,H1,I1,r1,q1⟩=> ?_;refine thn (hb pins s1 σ H1 _ I1 q1) λ u s2 ⟨y,H2,I2,r2,q2⟩=> ?_;exact hf v u s2 x y H2 I2 r1 r2 q2
theorem Ao {op:Operator} {r:R2} (ho:OpR X (binaryOp op) r) (ha:PE X a ta) (hb:PE X b tb):PE X (.BinOp a op b pos) (tOp r ta tb):=by
  intro pins s σ H Q I h;exact wpAny_BinOp (Ue ha hb I h λ v u s2 x y H2 I2 rx ry q=>ho pins s2 σ H2 x y v u Q I2 rx ry q)
theorem Vt {op:UnaryOp} {r:V->Hp->VK->Prop} (ho:UnR X (unaryOp op) r) (ha:PE X a ta):PE X (.UnaryOp op a pos) (tUn r ta):=by
  intro pins s σ H Q I h;exact UnaryOp_ (thn (ha pins s σ H _ I h) λ v s1 ⟨x,H1,I1,r1,q1⟩=>ho pins s1 σ H1 x v Q I1 r1 q1)
theorem opI {f:Value->Value->Sem Value} {C:Int->Int->Prop} {g:Int->Int->Int}
    (rule:∀ (i j:Int) (t u:Tok) (s:Shared) (Q:Value->Shared->Prop) (E:Value->Shared->Prop),C i j->Q (.int (g i j) s.toks) { s with toks:=s.toks+1 }->wpAny (model X.prog X.w) X.A (f (.int i t) (.int j u)) Q E s):
    OpR X f (rI C λ i j=> .int (g i j)):=by
  intro pins s σ H x y v u Q I rx ry h;obtain ⟨i,j,rfl,rfl,hc,q⟩:=h;obtain ⟨t,rfl⟩:=rx;obtain ⟨t',rfl⟩:=ry;exact rule i j t t' s _ _ hc ⟨.int (g i j),H,I.tok _,⟨_,rfl⟩,q⟩
theorem M7 {f:Value->Value->Sem Value} {g:Int->Int->Int}
    (rule:∀ (i j:Int) (t u:Tok) (s:Shared) (Q:Value->Shared->Prop) (E:Value->Shared->Prop),Q (.int (g i j) s.toks) { s with toks:=s.toks+1 }->wpAny (model X.prog X.w) X.A (f (.int i t) (.int j u)) Q E s):
    OpR X f (rI0 λ i j=> .int (g i j)):=by
  intro pins s σ H x y v u Q I rx ry h;obtain ⟨i,j,rfl,rfl,q⟩:=h;obtain ⟨t,rfl⟩:=rx;obtain ⟨t',rfl⟩:=ry;exact rule i j t t' s _ _ ⟨.int (g i j),H,I.tok _,⟨_,rfl⟩,q⟩
theorem SJ {f:Value->Value->Sem Value} {g:Int->Int->Bool}
    (rule:∀ (i j:Int) (t u:Tok) (s:Shared) (Q:Value->Shared->Prop) (E:Value->Shared->Prop),Q (.bool (g i j)) s->wpAny (model X.prog X.w) X.A (f (.int i t) (.int j u)) Q E s):
    OpR X f (rI0 λ i j=> .bl (g i j)):=by
  intro pins s σ H x y v u Q I rx ry h;obtain ⟨i,j,rfl,rfl,q⟩:=h;obtain ⟨t,rfl⟩:=rx;obtain ⟨t',rfl⟩:=ry;exact rule i j t t' s _ _ ⟨.bl (g i j),H,I,rfl,q⟩
def Z4 (i j:Int):Prop:=0<=j/\j<=1000000/\i.natAbs<2 ^ 64
def CMul (i j:Int):Prop:=(-(2 ^ 64)<i/\i<2 ^ 64)\/(-(2 ^ 64)<j/\j<2 ^ 64)
theorem CMul.ok {i j:Int} (h:CMul i j):IntMulOk i j:=by
  rcases h with ⟨h1,h2⟩ | ⟨h1,h2⟩
  · exact .of_left (intBits_le_64 h1 h2)
  · exact .of_right (intBits_le_64 h1 h2)
theorem LS (k:Nat):(0:Int)<=2 ^ k:=by
  rw [two_pow_cast];exact Int.natCast_nonneg _
theorem Ba:OpR X (binaryOp .Add) (rI0 λ i j=> .int (i+j)):=M7 λ _ _ _ _ _ _ _ q=>add_int q
theorem FO:OpR X (binaryOp .Sub) (rI0 λ i j=> .int (i - j)):=M7 λ _ _ _ _ _ _ _ q=>sub_int q
theorem Lj:OpR X (binaryOp .Mult) (rI CMul λ i j=> .int (i*j)):=opI λ _ _ _ _ _ _ _ hc q=>mul_int q hc.ok
theorem B1:OpR X (binaryOp .Mod) (rI (λ _ j=>0<j) λ i j=> .int (i%j)):=opI λ i j _ _ _ _ _ hc q=>by
  have h1:(0:Int)<j:=hc;exact mod_int' (by omega) (by rw [Int.fmod_eq_emod_of_nonneg i (by omega)];exact q)
theorem Ho:OpR X (binaryOp .LShift) (rI Z4 λ i j=> .int (i*2 ^ j.toNat)):=opI λ _ _ _ _ _ _ _ hc q=>lshift_int_small hc.1 hc.2.1 hc.2.2 q
theorem O5:OpR X (binaryOp .RShift) (rI (λ _ j=>0<=j) λ i j=> .int (i / 2 ^ j.toNat)):=opI λ i j _ _ _ _ _ hc q=>
  rshift_int hc (by rw [Int.fdiv_eq_ediv_of_nonneg i (LS _)];exact q)
theorem Lx:OpR X (binaryOp .BitAnd) (rI0 λ i j=> .int (Builtin.bitAnd i j)):=M7 λ _ _ _ _ _ _ _ q=>and_int q
theorem SA:OpR X (binaryOp .BitOr) (rI0 λ i j=> .int (Builtin.bitOr i j)):=M7 λ _ _ _ _ _ _ _ q=>or_int q
theorem Q1:OpR X (inplaceOp .Add) (rI0 λ i j=> .int (i+j)):=M7 λ _ _ _ _ _ _ _ q=>iadd_int q
theorem OM:OpR X (inplaceOp .BitOr) (rI0 λ i j=> .int (Builtin.bitOr i j)):=M7 λ _ _ _ _ _ _ _ q=>ior_int q
theorem unI {f:Value->Sem Value} {g:Int->Int}
    (rule:∀ (i:Int) (t:Tok) (s:Shared) (Q:Value->Shared->Prop) (E:Value->Shared->Prop),Q (.int (g i) s.toks) { s with toks:=s.toks+1 }->wpAny (model X.prog X.w) X.A (f (.int i t)) Q E s):
    UnR X f (rU λ i=> .int (g i)):=by
  intro pins s σ H x v Q I rx h;obtain ⟨i,rfl,q⟩:=h;obtain ⟨t,rfl⟩:=rx;exact rule i t s _ _ ⟨.int (g i),H,I.tok _,⟨_,rfl⟩,q⟩
theorem SO:UnR X (unaryOp .USub) (rU λ i=> .int (-i)):=unI λ _ _ _ _ _ q=>neg_int q
end
def U1:V->V->Bool
  | .non, .non=>true | .non, .int _=>true | .int _, .non=>true | .non, .bl _=>true | .bl _, .non=>true | .non, .str _=>true | .str _, .non=>true
  | .int _, .int _=>true | .bl _, .bl _=>true | .str _, .str _=>true | .byt _, .byt _=>true
  | .int _, .str _=>true | .str _, .int _=>true | .bl _, .str _=>true | .str _, .bl _=>true
  | _,_=>false
def rEq:R2:=λ x y H Q=>U1 x y=true/\Q (.bl (decide (x=y))) H
def rNe:R2:=λ x y H Q=>U1 x y=true/\Q (.bl (!decide (x=y))) H
theorem MH {i j:Int}:decide (V.int i=V.int j)=(i == j):=by
  rw [Bool.eq_iff_iff];simp
theorem P1 {i j:Bool}:decide (V.bl i=V.bl j)=(i == j):=by
  rw [Bool.eq_iff_iff];simp
theorem MC {i j:Str}:decide (V.str i=V.str j)=(i == j):=by
  rw [Bool.eq_iff_iff];simp
theorem L5 {i j:Array UInt8}:decide (V.byt i=V.byt j)=(i.toList == j.toList):=by
  rw [Bool.eq_iff_iff];cases i;cases j;simp
section
variable {X:Cx} {a b c:Expr} {ta tb tc:TE} {pos:Pos}
theorem Az {pins:List (Addr × Obj)} {σ:St} {H:Hp} {s:Shared} {Q:VK} {k k':Bool} (I:Inv X pins σ H s) (q:Q (.bl k) H) (e:k=k'):EP X pins σ Q (.bool k') s:=by
  subst e;exact ⟨.bl k,H,I,rfl,q⟩
theorem E7:OpR X (compareOp .Eq) rEq:=by
  intro pins s σ H x y v u Q I rx ry h;obtain ⟨hs,q⟩:=h;cases x with
  | non=>
    cases rx;cases y with
    | non=>cases ry;exact PySem.EqNone.eq_none_none (Az I q (by simp))
    | bl j=>cases ry;exact PySem.EqNone.eq_none_bool (Az I q (by simp))
    | int j=>obtain ⟨t',rfl⟩:=ry;exact PySem.EqNone.eq_none_int (Az I q (by simp))
    | str j=>obtain ⟨t',rfl⟩:=ry;exact PySem.EqNone.eq_none_str (Az I q (by simp))
    | _=>exact absurd (show false=true from hs) Bool.false_ne_true
  | bl i=>
    cases rx;cases y with
    | non=>cases ry;exact PySem.EqNone.eq_bool_none (Az I q (by simp))
    | bl j=>cases ry;exact eq_bool (Az I q P1)
    | str j=>obtain ⟨t',rfl⟩:=ry;exact PySem.EqMixed.eq_bool_str (Az I q (by simp))
    | _=>exact absurd (show false=true from hs) Bool.false_ne_true
  | int i=>
    obtain ⟨t,rfl⟩:=rx;cases y with
    | non=>cases ry;exact PySem.EqNone.eq_int_none (Az I q (by simp))
    | int j=>obtain ⟨t',rfl⟩:=ry;exact eq_int (Az I q MH)
    | str j=>obtain ⟨t',rfl⟩:=ry;exact PySem.EqMixed.eq_int_str (Az I q (by simp))
    | _=>exact absurd (show false=true from hs) Bool.false_ne_true
  | str i=>
    obtain ⟨t,rfl⟩:=rx;cases y with
    | non=>cases ry;exact PySem.EqNone.eq_str_none (Az I q (by simp))
    | bl j=>cases ry;exact PySem.EqMixed.eq_str_bool (Az I q (by simp))
    | int j=>obtain ⟨t',rfl⟩:=ry;exact PySem.EqMixed.eq_str_int (Az I q (by simp))
    | str j=>obtain ⟨t',rfl⟩:=ry;exact eq_str (Az I q MC)
    | _=>exact absurd (show false=true from hs) Bool.false_ne_true
  | byt i=>
    obtain ⟨t,rfl⟩:=rx;cases y with
    | byt j=>obtain ⟨t',rfl⟩:=ry;exact PySem.W.eq_bytes (Az I q L5)
    | _=>exact absurd (show false=true from hs) Bool.false_ne_true
  | _=>cases y <;> exact absurd (show false=true from hs) Bool.false_ne_true
theorem Kq:OpR X (compareOp .NotEq) rNe:=by
  intro pins s σ H x y v u Q I rx ry h;obtain ⟨hs,q⟩:=h;cases x with
  | non=>
    cases rx;cases y with
    | non=>cases ry;exact PySem.EqNone.ne_none_none (Az I q (by simp))
    | bl j=>cases ry;exact PySem.EqNone.ne_none_bool (Az I q (by simp))
    | int j=>obtain ⟨t',rfl⟩:=ry;exact PySem.EqNone.ne_none_int (Az I q (by simp))
    | str j=>obtain ⟨t',rfl⟩:=ry;exact PySem.EqNone.ne_none_str (Az I q (by simp))
    | _=>exact absurd (show false=true from hs) Bool.false_ne_true
  | bl i=>
    cases rx;cases y with
    | non=>cases ry;exact PySem.EqNone.ne_bool_none (Az I q (by simp))
    | bl j=>cases ry;exact ne_bool (Az I q (congrArg not P1))
    | str j=>obtain ⟨t',rfl⟩:=ry;exact PySem.EqMixed.ne_bool_str (Az I q (by simp))
    | _=>exact absurd (show false=true from hs) Bool.false_ne_true
  | int i=>
    obtain ⟨t,rfl⟩:=rx;cases y with
    | non=>cases ry;exact PySem.EqNone.ne_int_none (Az I q (by simp))
    | int j=>obtain ⟨t',rfl⟩:=ry;exact ne_int (Az I q (congrArg not MH))
    | str j=>obtain ⟨t',rfl⟩:=ry;exact PySem.EqMixed.ne_int_str (Az I q (by simp))
    | _=>exact absurd (show false=true from hs) Bool.false_ne_true
  | str i=>
    obtain ⟨t,rfl⟩:=rx;cases y with
    | non=>cases ry;exact PySem.EqNone.ne_str_none (Az I q (by simp))
    | bl j=>cases ry;exact PySem.EqMixed.ne_str_bool (Az I q (by simp))
    | int j=>obtain ⟨t',rfl⟩:=ry;exact PySem.EqMixed.ne_str_int (Az I q (by simp))
    | str j=>obtain ⟨t',rfl⟩:=ry;exact ne_str (Az I q (congrArg not MC))
    | _=>exact absurd (show false=true from hs) Bool.false_ne_true
  | byt i=>
    obtain ⟨t,rfl⟩:=rx;cases y with
    | byt j=>obtain ⟨t',rfl⟩:=ry;exact PySem.W.ne_bytes (Az I q (congrArg not L5))
    | _=>exact absurd (show false=true from hs) Bool.false_ne_true
  | _=>cases y <;> exact absurd (show false=true from hs) Bool.false_ne_true
theorem YZ:OpR X (compareOp .Lt) (rI0 λ i j=> .bl (decide (i<j))):=SJ λ _ _ _ _ _ _ _ q=>lt_int q
theorem OQ:OpR X (compareOp .LtE) (rI0 λ i j=> .bl (decide (i<=j))):=SJ λ _ _ _ _ _ _ _ q=>le_int q
theorem Hi:OpR X (compareOp .Gt) (rI0 λ i j=> .bl (decide (j<i))):=SJ λ _ _ _ _ _ _ _ q=>gt_int q
theorem M8:OpR X (compareOp .In) (λ x y H Q=>∃ i j,x= .str i/\y= .str j/\Q (.bl (!(Builtin.Str.occurrences j i 0 j.length 1).isEmpty)) H):=by
  intro pins s σ H x y v u Q I rx ry h;obtain ⟨i,j,rfl,rfl,q⟩:=h;obtain ⟨t,rfl⟩:=rx;obtain ⟨t',rfl⟩:=ry;exact in_str (Az I q rfl)
theorem O0:OpR X (compareOp .Is) (λ x y H Q=>y= .non/\Q (.bl (decide (x= .non))) H):=by
  intro pins s σ H x y v u Q I rx ry h;obtain ⟨rfl,q⟩:=h;cases ry;refine is_none_gen (Az I q ?_);cases x <;> first
    | (cases rx;rfl)
    | (obtain ⟨t,rfl⟩:=rx;rfl)
theorem Ml:OpR X (compareOp .IsNot) (λ x y H Q=>y= .non/\Q (.bl (!decide (x= .non))) H):=by
  intro pins s σ H x y v u Q I rx ry h;obtain ⟨rfl,q⟩:=h;cases ry;refine isnot_none_gen (Az I q ?_);cases x <;> first
    | (cases rx;rfl)
    | (obtain ⟨t,rfl⟩:=rx;rfl)
theorem Aw (b:Expr) {op:CmpOp} (h:op≠ .In:=by decide) (h2:op≠ .NotIn:=by decide):behindInMarks op b=false:=by
  have e1:(op == CmpOp.In)=false:=by cases op <;> first | rfl | exact absurd rfl h
  have e2:(op == CmpOp.NotIn)=false:=by cases op <;> first | rfl | exact absurd rfl h2
  cases b <;> simp [behindInMarks,e1,e2]
theorem BB {op:CmpOp} {r:R2} (ho:OpR X (compareOp op) r) (ha:PE X a ta) (hb:PE X b tb) (hm:behindInMarks op b=false):PE X (.Compare a [op] [b] pos) (tOp r ta tb):=by
  intro pins s σ H Q I h;exact wpAny_Compare1 (Ue ha hb I h λ v u s2 x y H2 I2 rx ry q=>ho pins s2 σ H2 x y v u Q I2 rx ry q) hm
def Sw (t:TE):TT:=λ σ H Q=>t σ H λ x H'=>∃ k,x= .bl k/\Q k H'
theorem As {op:CmpOp} {r:R2} (ho:OpR X (compareOp op) r) (ha:PE X a ta) (hb:PE X b tb) (hm:behindInMarks op b=false):PT X (.Compare a [op] [b] pos) (Sw (tOp r ta tb)):=by
  intro pins s σ H Q I h;refine wpAny_isTrue_Compare1 (thn (ha pins s σ H _ I h) λ v s1 ⟨x,H1,I1,r1,q1⟩=>thn (hb pins s1 σ H1 _ I1 q1) λ u s2 ⟨y,H2,I2,r2,q2⟩=>
    thn (ho pins s2 σ H2 x y v u _ I2 r1 r2 q2) λ c s3 ⟨z,H3,I3,r3,k,e,q3⟩=> ?_) hm
  subst e;cases r3;exact wpAny_truthy_bool ⟨H3,I3,q3⟩
def Qb (r r':R2) (ta tb tc:TE):TE:=λ σ H Q=>ta σ H λ x H1=>tb σ H1 λ y H2=>r x y H2 λ z H3=>∃ k,z= .bl k/\
  (if k=true then tc σ H3 λ w' H4=>r' y w' H4 Q else Q (.bl false) H3)
theorem OI {op op':CmpOp} {r r':R2} (ho:OpR X (compareOp op) r) (ho':OpR X (compareOp op') r') (ha:PE X a ta) (hb:PE X b tb) (hc:PE X c tc)
    (hm:lastMarks [op,op'] [b,c]=false:=by with_unfolding_all rfl):PE X (.Compare a [op,op'] [b,c] pos) (Qb r r' ta tb tc):=by
  intro pins s σ H Q I h;refine Compare_chain (thn (ha pins s σ H _ I h) λ v s1 ⟨x,H1,I1,r1,q1⟩=>chain_link (thn (hb pins s1 σ H1 _ I1 q1) λ u s2 ⟨y,H2,I2,r2,q2⟩=>
    thn (ho pins s2 σ H2 x y v u _ I2 r1 r2 q2) λ d s3 ⟨z,H3,I3,r3,k,e,q3⟩=> ?_)) hm
  subst e;cases r3;refine wpAny_truthy_bool ?_;cases k with
  | false=>exact ite_ff ⟨.bl false,H3,I3,rfl,q3⟩
  | true=>exact ite_tt (chain_last (thn (hc pins s3 σ H3 _ I3 q3) λ w' s4 ⟨z',H4,I4,r4,q4⟩=>ho' pins s4 σ H4 y z' u w' Q I4 r2 r4 q4))
def Z1 (K:PySem.W.Frag) (x:V) (H:Hp) (k:Bool):Prop:=
  match x with
  | .non=>k=false
  | .bl b=>k=b
  | .int i=>k=(i != 0)
  | .str y=>y.length<=sizeLine/\k=((y.length:Int) != 0)
  | .byt y=>y.size<=sizeLine/\k=((y.size:Int) != 0)
  | .ref p=>(∃ xs,SqL K H p xs/\k= !xs.isEmpty)\/(∃ xs,SqT K H p xs/\k= !xs.isEmpty)\/∃ kvs,H p=some (.dK kvs)/\k= !kvs.isEmpty
  | _=>False
theorem LF {κ:Type} {kvs:List (κ × V)} {vs:List (κ × Value)} (r:KV kvs vs):(!vs.isEmpty)= !kvs.isEmpty:=by
  cases r <;> rfl
theorem GK {xs:List V} {its:List Value} (r:Vals xs its):(!its.toArray.isEmpty)= !xs.isEmpty:=by
  cases r <;> simp
theorem JU:(sizeLine:Nat)<2 ^ 63:=by rw [sizeLine_eq];decide
theorem ZI:ZT X (λ x H Q=>∃ k,Z1 X.K x H k/\Q k H):=by
  intro pins s σ H x v Q I rx h;obtain ⟨k,e,q⟩:=h;have hl:=JU;have hs:sizeLine=16777216:=sizeLine_eq;cases x with
  | non=>
    cases rx;have e':k=false:=e;subst e';exact truthy_none ⟨H,I,q⟩
  | bl b=>
    cases rx;have e':k=b:=e;subst e';exact wpAny_truthy_bool ⟨H,I,q⟩
  | int i=>
    obtain ⟨t,rfl⟩:=rx;have e':k=(i != 0):=e;subst e';exact PySem.P.truthy_int ⟨H,I,q⟩
  | str y=>
    obtain ⟨t,rfl⟩:=rx;obtain ⟨hy,e'⟩:y.length<=sizeLine/\k=((y.length:Int) != 0):=e;subst e';exact PySem.P.truthy_str (by omega) ⟨H,I.tok _,q⟩
  | byt y=>
    obtain ⟨t,rfl⟩:=rx;obtain ⟨hy,e'⟩:y.size<=sizeLine/\k=((y.size:Int) != 0):=e;subst e';exact PySem.W.truthy_bytes (by omega) ⟨H,I.tok _,q⟩
  | ref p=>
    cases rx;have e':(∃ xs,SqL X.K H p xs/\k= !xs.isEmpty)\/(∃ xs,SqT X.K H p xs/\k= !xs.isEmpty)\/∃ kvs,H p=some (.dK kvs)/\k= !kvs.isEmpty:=e;rcases e' with ⟨xs,hx,e'⟩ | ⟨xs,hx,e'⟩ | ⟨kvs,hx,e'⟩
    · subst e';obtain ⟨its,r,pl,hz⟩:=I.list hx;have hlen:=r.length;exact wpAny_truthy_list pl.isList (by simp only [List.size_toArray];omega) ⟨H,I.tok _,by rw [GK r];exact q⟩
    · subst e';obtain ⟨its,r,pl,hz⟩:=I.tuple hx;have hlen:=r.length;exact truthy_tuple pl (by simp only [List.size_toArray];omega) ⟨H,I.tok _,by rw [GK r];exact q⟩
    · subst e';obtain ⟨hz,hS,vs,r,m⟩:kvs.length<=sizeLine/\(p == sysModules)=false/\∃ vs,KV kvs vs/\s.heap.DictOf (AR X.prog X.w) p vs:=I.hok p _ hx;have hlen:kvs.length=vs.length:=Paired.length r;exact wpAny_truthy_dict hS m (by omega) ⟨H,I.tok _,by rw [LF r];exact q⟩
  | _=>exact (show False from e).elim
theorem Cg {x:V} {us:List Value} (r:Vals [x] us):∃ u,us=[u]/\RelV x u:=by
  cases r with
  | cons r1 r2=>cases r2;exact ⟨_,rfl,r1⟩
theorem KQ {x y:V} {us:List Value} (r:Vals [x,y] us):∃ u w',us=[u,w']/\RelV x u/\RelV y w':=by
  cases r with
  | cons r1 r2=>
    cases r2 with
    | cons r3 r4=>cases r4;exact ⟨_,_,rfl,r1,r3⟩
theorem N6 (hc:X.calm=true):AU X (.builtin "max") (λ xs H Q=>∃ i j,xs=[.int i, .int j]/\Q (.int (if j>i then j else i)) H):=by
  intro pins s σ H xs us Q I r h;obtain ⟨i,j,rfl,q⟩:=h;obtain ⟨u,w',rfl,⟨t,rfl⟩,⟨t',rfl⟩⟩:=KQ r;refine max_two_ints (I.ok.hd hc) λ h' tk k=>⟨_,H,I.kept k,?_,q⟩;by_cases hj:j>i
  · rw [if_pos hj,if_pos hj];exact ⟨_,rfl⟩
  · rw [if_neg hj,if_neg hj];exact ⟨_,rfl⟩
theorem NN (hc:X.calm=true):AU X (.builtin "min") (λ xs H Q=>∃ i j,xs=[.int i, .int j]/\Q (.int (if j<i then j else i)) H):=by
  intro pins s σ H xs us Q I r h;obtain ⟨i,j,rfl,q⟩:=h;obtain ⟨u,w',rfl,⟨t,rfl⟩,⟨t',rfl⟩⟩:=KQ r;refine min_two_ints (I.ok.hd hc) λ h' tk k=>⟨_,H,I.kept k,?_,q⟩;by_cases hj:j<i
  · rw [if_pos hj,if_pos hj];exact ⟨_,rfl⟩
  · rw [if_neg hj,if_neg hj];exact ⟨_,rfl⟩
theorem Nf:AU X (.type "int") (λ xs H Q=>(∃ i,xs=[.int i]/\Q (.int i) H)\/∃ k,xs=[.bl k]/\Q (.int (if k then 1 else 0)) H):=by
  intro pins s σ H xs us Q I r h;rcases h with ⟨i,rfl,q⟩ | ⟨k,rfl,q⟩
  · obtain ⟨u,rfl,t,rfl⟩:=Cg r;exact call_int_int ⟨.int i,H,I,⟨_,rfl⟩,q⟩
  · obtain ⟨u,rfl,r1⟩:=Cg r;cases r1;exact call_int_bool ⟨.int (if k then 1 else 0),H,I.tok _,⟨_,rfl⟩,q⟩
def Y8 (K:PySem.W.Frag) (x:V) (H:Hp) (n:Nat):Prop:=
  match x with
  | .str y=>y.length<=sizeLine/\n=y.length
  | .byt y=>y.size<=sizeLine/\n=y.size
  | .ref p=>(∃ xs,SqL K H p xs/\n=xs.length)\/∃ xs,SqT K H p xs/\n=xs.length
  | _=>False
theorem P2:AU X (.builtin "len") (λ xs H Q=>∃ x n,xs=[x]/\Y8 X.K x H n/\Q (.int n) H):=by
  intro pins s σ H xs us Q I r h;obtain ⟨x,n,rfl,e,q⟩:=h;obtain ⟨u,rfl,rx⟩:=Cg r;have hl:=JU;have hs:sizeLine=16777216:=sizeLine_eq;cases x with
  | str y=>
    obtain ⟨t,rfl⟩:=rx;obtain ⟨hy,e'⟩:y.length<=sizeLine/\n=y.length:=e;subst e';exact len_str (by omega) ⟨.int _,H,I.tok _,⟨_,rfl⟩,q⟩
  | byt y=>
    obtain ⟨t,rfl⟩:=rx;obtain ⟨hy,e'⟩:y.size<=sizeLine/\n=y.size:=e;subst e';exact PySem.W.len_bytes (by omega) ⟨.int _,H,I.tok _,⟨_,rfl⟩,q⟩
  | ref p=>
    cases rx;have e':(∃ xs,SqL X.K H p xs/\n=xs.length)\/∃ xs,SqT X.K H p xs/\n=xs.length:=e;rcases e' with ⟨xs,hx,e'⟩ | ⟨xs,hx,e'⟩
    · subst e';obtain ⟨its,r',pl,hz⟩:=I.list hx;have hlen:=r'.length;exact Calls.call_len_list pl.isList (by simp only [List.size_toArray];omega) ⟨.int xs.length,H,I.tok _,⟨_,by simp only [List.size_toArray];rw [hlen]⟩,q⟩
    · subst e';obtain ⟨its,r',pl,hz⟩:=I.tuple hx;have hlen:=r'.length;exact len_tuple pl (by simp only [List.size_toArray];omega) ⟨.int xs.length,H,I.tok _,⟨_,by simp only [List.size_toArray];rw [hlen]⟩,q⟩
  | _=>exact (show False from e).elim
end
structure ObjM (h:Heap) (x dx C:Addr) (mA:Str->Option Value):Prop where
  obj:h.get? x=some (PySem.W.instObj C dx)
  ns:h.Ns1 dx mA
  ne:dx≠x
theorem NE {h:Heap} {dx:Addr} {mA:Str->Option Value} (n:h.Ns1 dx mA):∃ od,h.get? dx=some od/\∀ name,PySem.W.lookIn name od=some (mA name):=by
  obtain ⟨o,es,ep,ho,hd,hk,_,hm⟩:=n;refine ⟨o,ho,λ name=> ?_⟩;have e:=hm name;unfold nsFind findBy at e;rw [<-Array.find?_toList] at e;unfold PySem.W.lookIn;rw [hd];dsimp only;split
  · rename_i y q
    rw [q] at e;exact congrArg some e
  · rename_i q
    rw [q] at e;have a:es.toList.any (·.refKey)=false:=by
      rw [List.any_eq_false];intro y hy;obtain ⟨z,t,hkey⟩:=hk y (Array.mem_toList_iff.mp hy);simp [DictEntry.refKey,hkey]
    have a':¬ es.toList.any (·.refKey)=true:=by rw [a];exact Bool.false_ne_true
    rw [if_neg a'];exact congrArg some e
theorem ObjM.look {h:Heap} {x dx C:Addr} {mA:Str->Option Value} (I:ObjM h x dx C mA):∃ od,PySem.W.InstAt h x (PySem.W.instObj C dx) C (some od)/\∀ name,PySem.W.lookIn name od=some (mA name):=
  let ⟨od,ho,hl⟩:=NE I.ns
  ⟨od,⟨I.obj,rfl,rfl,ho⟩,hl⟩
section
variable {prog:Program} {w:World} {A:Around} {E:Value->Shared->Prop} {s:Shared} {K:PySem.W.Frag} {x dx C f:Addr} {mA:Str->Option Value} {name:Str} {v:Value}
theorem Rf {expr:Bool} {Q:Value->Shared->Prop} (X:K.In s.heap) (I:ObjM s.heap x dx C mA) (hg:PySem.W.plainGet K C name=true) (hh:PySem.W.hasDictIn K C=true)
    (ha:PySem.W.findIn K (.ref C) name=some none) (hv:mA name=some v) (hv':PySem.W.handedIn v=true) (h:Q v { s with toks:=s.toks+1 }):
    wpAny (model prog w) A (getAttr (.ref x) name expr) Q E s:=by
  obtain ⟨od,J,hl⟩:=I.look;exact PySem.W.get_value X J (PySem.W.plainGet_of hg).1 (PySem.W.findObj_own hh ha rfl (by rw [hl,hv])) hv' h
theorem Ps {pl:Sem Bool} {Q:Value × List Value->Shared->Prop} (X:K.In s.heap) (I:ObjM s.heap x dx C mA) (hg:PySem.W.plainGet K C name=true)
    (hf:PySem.W.findIn K (.ref C) name=some (some (.ref f))) (ht:PySem.W.isFn K (.ref f)=true) (hv:mA name=none) (h:Q (.ref f,[.ref x]) s):
    wpAny (model prog w) A (getMethod (.ref x) name pl) Q E s:=by
  obtain ⟨od,J,hl⟩:=I.look;exact PySem.W.method_fn X J (PySem.W.plainGet_of hg).1 (PySem.W.plainGet_of hg).2 hf (beq_iff_eq.mp ht) (by show (PySem.W.lookIn name od).map (·.isSome)=some false;rw [hl,hv];rfl) h
theorem Q9 {ns:List Str} {Q:Unit->Shared->Prop} (X:K.In s.heap) (I:ObjM s.heap x dx C mA)
    (hs:PySem.W.findIn K (.ref C) "__setattr__"=some (some (.builtin "object.__setattr__"))) (hp:PySem.W.plainOver K C=true) (ht:PySem.W.takerIn K C name=some none) (hh:PySem.W.hasDictIn K C=true)
    (hw:PySem.Within mA ns) (hsz:ns.length<=sizeLine)
    (h:∀ h',ObjM h' x dx C (λ y=>if y=name then some v else mA y)->Heap.SameBut dx s.heap h'->Q () { s with heap:=h',toks:=s.toks+2 }):
    wpAny (model prog w) A (setAttr (.ref x) name v) Q E s:=by
  obtain ⟨od,J,hl⟩:=I.look;refine PySem.W.set_plain X J hs (PySem.W.osa_open (s:={ s with toks:=s.toks+1 }) (r:=none) X J hp ht λ b=> ?_);obtain ⟨cd,hc,hd'⟩:=PySem.W.any_some hh;have hx:s.heap.get? x=some ⟨.ref C,some dx, .plain, #[]⟩:=I.obj;refine wpAny_bind (wpAny_pure (wpAny_bind (wpAny_bind (wpAny_loadPart hx (wpAny_bind (PySem.W.Looks.here (s:={ s with toks:=s.toks+1 }) (PySem.W.looks_clsIn X hc) ?_))))));rw [hd'];refine wpAny_pure (a:=some dx) (wpAny_bind (wpAny_pure (wpAny_bind ?_)));refine wpAny_nsSet1 (s:={ s with toks:=s.toks+1 }) I.ns λ h' hn2 hs2=> ?_;obtain ⟨oD,esD,epD,hoD,hdD,hcD⟩:=hn2.count (PySem.Within.cons name v hw);refine wpAny_bind (wpAny_lookBehind hoD (by rw [hdD];exact pastItsLine_dict (Nat.le_trans hcD (by rw [List.length_cons];omega))) ?_);exact wpAny_pure (h _ ⟨(hs2.2 _ (Ne.symm I.ne)).trans I.obj,hn2,I.ne⟩ hs2)
theorem PF {R:Result->Shared->Prop} {vs:List Value} {kw:List (Str × Value)} (X:K.In s.heap) (hm:PySem.W.makesIn K C=true)
    (hi:PySem.W.findIn K (.ref C) "__init__"=some (some (.ref f))) (hf:PySem.W.typeIn K (.ref f)=some (.type "function"))
    (h:codeAny (model prog w) (A.under (.builtin "type.__call__" ⟨.ref C::vs,kw⟩)) (.call (.ref f) ⟨.ref (s.heap.objs.size+1)::vs,kw⟩) (PySem.W.InitBack (s.heap.objs.size+1) R)
      { s with heap:=(s.heap.push PySem.W.emptyDict).push (PySem.W.instObj C s.heap.objs.size) }):
    codeAny (model prog w) A (.call (.ref C) ⟨vs,kw⟩) R s:=by
  obtain ⟨hh,g,d,t,os⟩:=s;exact PySem.W.make_core (PySem.W.makes_of X hm) (PySem.W.looks_findIn X hi) (λ self=>PySem.W.bind_fn X self hf) (.inl rfl) h
end
def AO (f:Str) (v:V):List (Str × V)->List (Str × V)
  | []=>[(f,v)]
  | (g,x)::r=>if g=f then (g,v)::r else (g,x)::AO f v r
theorem DQ (f g:Str) (v:V):∀ fs:List (Str × V),(AO f v fs).lookup g=if g=f then some v else fs.lookup g
  | []=>by
    show List.lookup g [(f,v)]=_;by_cases h:g=f
    · have hb:(g == f)=true:=beq_iff_eq.mpr h;simp only [List.lookup,hb,if_pos h]
    · have hb:(g == f)=false:=beq_eq_false_iff_ne.mpr h;simp only [List.lookup,hb,if_neg h]
  | (k,x)::r=>by
    have ih:=DQ f g v r;rw [show AO f v ((k,x)::r)=(if k=f then (k,v)::r else (k,x)::AO f v r) from rfl];by_cases hk:k=f
    · rw [if_pos hk];by_cases h:g=k
      · have hb:(g == k)=true:=beq_iff_eq.mpr h;simp only [List.lookup,hb,if_pos (h.trans hk)]
      · have hb:(g == k)=false:=beq_eq_false_iff_ne.mpr h;simp only [List.lookup,hb,if_neg (λ e:g=f=>h (e.trans hk.symm))]
    · rw [if_neg hk];by_cases h:g=k
      · have hb:(g == k)=true:=beq_iff_eq.mpr h;simp only [List.lookup,hb,if_neg (λ e:g=f=>hk (h.symm.trans e))]
      · have hb:(g == k)=false:=beq_eq_false_iff_ne.mpr h;simp only [List.lookup,hb];exact ih
theorem CG (f:Str) (v:V):∀ fs:List (Str × V),f∈(AO f v fs).map (·.1)/\∀ g,g∈fs.map (·.1)->g∈(AO f v fs).map (·.1)
  | []=>⟨by simp [AO],λ g h=>by simp at h⟩
  | (k,x)::r=>by
    obtain ⟨i1,i2⟩:=CG f v r;rw [show AO f v ((k,x)::r)=(if k=f then (k,v)::r else (k,x)::AO f v r) from rfl];by_cases hk:k=f
    · rw [if_pos hk];subst hk;exact ⟨by simp,λ g h=>by simpa using h⟩
    · rw [if_neg hk];refine ⟨?_,λ g h=> ?_⟩
      · rw [List.map_cons];exact List.mem_cons_of_mem _ i1
      · rw [List.map_cons] at h ⊢;rcases List.mem_cons.mp h with e | e
        · exact List.mem_cons.mpr (.inl e)
        · exact List.mem_cons_of_mem _ (i2 g e)
theorem F8 (f:Str) (v:V):∀ fs:List (Str × V),(AO f v fs).length<=fs.length+1
  | []=>by simp [AO]
  | (k,x)::r=>by
    have ih:=F8 f v r;rw [show AO f v ((k,x)::r)=(if k=f then (k,v)::r else (k,x)::AO f v r) from rfl];by_cases hk:k=f
    · rw [if_pos hk,List.length_cons,List.length_cons];omega
    · rw [if_neg hk,List.length_cons,List.length_cons];omega
theorem RelO.some_of {v:V} {o:Option Value} (r:RelO (some v) o):∃ u,o=some u/\RelV v u:=by
  cases o with
  | none=>exact (show False from r).elim
  | some u=>exact ⟨u,rfl,r⟩
theorem RelO.none_of {o:Option Value} (r:RelO none o):o=none:=by
  cases o with
  | none=>rfl
  | some u=>exact (show False from r).elim
theorem IQ {v:V} {u:Value} (r:RelV v u):PySem.W.handedIn u=true:=by
  cases v with
  | non=>cases (show u=Value.none from r);rfl
  | bl b=>cases (show u=Value.bool b from r);rfl
  | int i=>obtain ⟨t,e⟩:=(show ∃ t,u=Value.int i t from r);cases e;rfl
  | str x=>obtain ⟨t,e⟩:=(show ∃ t,u=Value.str x t from r);cases e;rfl
  | byt b=>obtain ⟨t,e⟩:=(show ∃ t,u=Value.bytes b t from r);cases e;rfl
  | flt b=>obtain ⟨t,e⟩:=(show ∃ t,u=Value.float b t from r);cases e;rfl
  | ref a=>cases (show u=Value.ref a from r);rfl
  | ty n=>cases (show u=Value.type n from r);rfl
section
variable {P:Program} {w:World} {H H':Hp} {h h':Heap} {a C dx:Addr} {fs fs':List (Str × V)}
theorem Gx (hok:HOk P w H h) (e:H a=some (.ins C dx fs)):∃ mA,ObjM h a dx C mA/\(∀ f,RelO (fs.lookup f) (mA f))/\PySem.Within mA (fs.map (·.1))/\fs.length<=1000/\H dx=some (.own a):=by
  obtain ⟨d,z,ne,ob,mA,n,r,q⟩:=(show ObjOk P w H h a (.ins C dx fs) from hok a _ e);exact ⟨mA,⟨ob,n,ne⟩,r,q,z,d⟩
end
structure Cls (K:PySem.W.Frag) (C:Addr):Prop where
  pg:PySem.W.plainGet K C Str.empty=true
  hd:PySem.W.hasDictIn K C=true
  po:PySem.W.plainOver K C=true
  sa:PySem.W.findIn K (.ref C) "__setattr__"=some (some (.builtin "object.__setattr__"))
theorem Cls.get {K:PySem.W.Frag} {C:Addr} (c:Cls K C) (f:Str):PySem.W.plainGet K C f=true:=c.pg
def NoAttr (K:PySem.W.Frag) (C:Addr) (f:Str):Prop:=PySem.W.findIn K (.ref C) f=some none
theorem NoAttr.taker {K:PySem.W.Frag} {C:Addr} {f:Str} (n:NoAttr K C f):PySem.W.takerIn K C f=some none:=by
  unfold PySem.W.takerIn;rw [show PySem.W.findIn K (.ref C) f=some none from n];rfl
structure Con (K:PySem.W.Frag) (C:Addr) (f:Str) (v:V) (u:Value):Prop where
  at_:PySem.W.findIn K (.ref C) f=some (some u)
  rel:RelV v u
  get:PySem.W.specialIn K u "__get__"=some none
  cp:PySem.W.copiedNames.contains f=false
structure Meth (K:PySem.W.Frag) (C:Addr) (m:Str) (f:Addr):Prop where
  at_:PySem.W.findIn K (.ref C) m=some (some (.ref f))
  fn:PySem.W.isFn K (.ref f)=true
  kp:PySem.W.keepIn K (.ref f)=true
section
variable {X:Cx} {pins:List (Addr × Obj)} {σ:St} {H:Hp} {s:Shared} {a C dx:Addr} {fs:List (Str × V)} {f:Str} {v:V} {A:Around} {E:Value->Shared->Prop}
theorem LA {b:Bool} {Q:Value->Shared->Prop} (I:Inv X pins σ H s) (e:H a=some (.ins C dx fs)) (c:Cls X.K C) (n:NoAttr X.K C f) (l:fs.lookup f=some v)
    (h:∀ u s',Inv X pins σ H s'->RelV v u->Q u s'):wpAny (model X.prog X.w) A (getAttr (.ref a) f b) Q E s:=by
  obtain ⟨mA,O,r,_,_,_⟩:=Gx I.hok e;obtain ⟨u,hu,ru⟩:=RelO.some_of (v:=v) (o:=mA f) (by rw [<-l];exact r f);exact Rf I.kIn O (c.get f) c.hd n hu (IQ ru) (h u _ (I.tok _) ru)
theorem EA {m:Str} {g:Addr} {pl:Sem Bool} {Q:Value × List Value->Shared->Prop} (I:Inv X pins σ H s) (e:H a=some (.ins C dx fs)) (c:Cls X.K C) (k:Meth X.K C m g) (l:fs.lookup m=none)
    (h:Q (.ref g,[.ref a]) s):wpAny (model X.prog X.w) A (getMethod (.ref a) m pl) Q E s:=by
  obtain ⟨mA,O,r,_,_,_⟩:=Gx I.hok e;have hn:mA m=none:=RelO.none_of (by rw [<-l];exact r m);exact Ps I.kIn O (c.get m) k.at_ k.fn hn h
theorem Lz {y:V} {u:Value} {Q:Unit->Shared->Prop} (I:Inv X pins σ H s) (e:H a=some (.ins C dx fs)) (c:Cls X.K C) (n:NoAttr X.K C f) (hl:fs.length<1000) (ry:RelV y u)
    (h:∀ s',Inv X pins σ (upd H a (.ins C dx (AO f y fs))) s'->Q () s'):wpAny (model X.prog X.w) A (setAttr (.ref a) f u) Q E s:=by
  obtain ⟨mA,O,r,wi,_,ho⟩:=Gx I.hok e;have hz:(fs.map (·.1)).length<=sizeLine:=by rw [List.length_map,sizeLine_eq];omega
  refine Q9 I.kIn O c.sa c.po n.taker c.hd wi hz λ h' O' sb=>h _ ?_;have hd:∃ o,h'.get? dx=some o:=let ⟨o,_,_,e',_⟩:=O'.ns;⟨o,e'⟩;refine I.write (x:=a) (e:=dx) (by rw [e];exact True.intro) (.inr ho) (λ b q hb z=>(sb.2 b hb).trans z) hd ?_;refine ⟨by rw [Am O.ne];exact ho,?_,O.ne,O'.obj,_,O'.ns,λ g=> ?_,λ g hg=> ?_⟩
  · have:=F8 f y fs;omega
  · show RelO ((AO f y fs).lookup g) (if g=f then some u else mA g);rw [DQ];by_cases q:g=f
    · rw [if_pos q,if_pos q];exact ry
    · rw [if_neg q,if_neg q];exact r g
  · by_cases q:g=f
    · rw [q];exact (CG f y fs).1
    · refine (CG f y fs).2 g (wi g λ z=>hg ?_);show (if g=f then some u else mA g)=none;rw [if_neg q];exact z
theorem Inv.made (I:Inv X pins σ H s):Inv X pins σ (upd (upd H s.heap.objs.size (.own (s.heap.objs.size+1))) (s.heap.objs.size+1) (.ins C s.heap.objs.size []))
    { s with heap:=(s.heap.push PySem.W.emptyDict).push (PySem.W.instObj C s.heap.objs.size) }:=by
  have e1:(s.heap.push PySem.W.emptyDict).get? s.heap.objs.size=some PySem.W.emptyDict:=Heap.get?_push_size s.heap rfl;have e2:((s.heap.push PySem.W.emptyDict).push (PySem.W.instObj C s.heap.objs.size)).get? (s.heap.objs.size+1)=some (PySem.W.instObj C s.heap.objs.size):=by
    have:=Heap.get?_push_size (s.heap.push PySem.W.emptyDict) (o:=PySem.W.instObj C s.heap.objs.size) rfl
    rwa [Heap.size_push] at this
  have e3:(s.heap.push PySem.W.emptyDict).Ns s.heap.objs.size (λ _=>none):=⟨PySem.W.emptyDict, #[],_,e1,rfl,(λ e he=>absurd he (by simp)),λ _=>rfl⟩;have I1:=I.laid (a:=s.heap.objs.size) (o:= .own (s.heap.objs.size+1)) (h':=s.heap.push PySem.W.emptyDict) (t':=s.toks) (λ b u q=>Heap.get?_push_of_some _ q) (Nat.le_refl _) ⟨_,e1⟩;refine I1.laid (a:=s.heap.objs.size+1) (o:= .ins C s.heap.objs.size []) (t':=s.toks) (λ b u q=>Heap.get?_push_of_some _ q) (Nat.le_of_eq (Heap.size_push _ _)) ?_;have ne:s.heap.objs.size≠s.heap.objs.size+1:=Nat.ne_of_lt (Nat.lt_succ_self _);refine ⟨by rw [Am ne,Ad],Nat.zero_le _,ne,e2,λ _=>none,(Heap.Ns1.of_empty e3).at λ o q=>Heap.get?_push_of_some _ q,λ _=>True.intro,λ y hy=>absurd rfl hy⟩
theorem MB {prog:Program} {w:World} {env:Env} {e:Expr} {f:Str} {pos:Pos} {s:Shared} {Q:Value->Shared->Prop} (hb:attributeBase e f env (eval e env)=eval e env)
    (h:wpAny (model prog w) A (eval e env) (λ o s₁=>wpAny (model prog w) A (getAttr o f true) Q E s₁) E s):wpAny (model prog w) A (eval (.Attribute e f pos) env) Q E s:=
  Attribute_any_ h (by rw [arm_eval_Attribute,hb])
end
def TJ (K:PySem.W.Frag) (ta:TE) (f:Str):TE:=λ σ H Q=>ta σ H λ x H1=>∃ a C dx fs v,x= .ref a/\H1 a=some (.ins C dx fs)/\Cls K C/\NoAttr K C f/\fs.lookup f=some v/\Q v H1
def Zb (K:PySem.W.Frag) (ta tv:TE) (f:Str):TS:=λ D σ H=>tv σ H λ y H1=>ta σ H1 λ x H2=>∃ a C dx fs,x= .ref a/\H2 a=some (.ins C dx fs)/\Cls K C/\NoAttr K C f/\fs.length<1000/\
  D.nx σ (upd H2 a (.ins C dx (AO f y fs)))
section
variable {X:Cx} {o e value:Expr} {f:Str} {pos pos' tpos:Pos} {ta tv:TE}
theorem S4 (he:PE X e ta) (hb:attributeBase e f X.env (eval e X.env)=eval e X.env):PE X (.Attribute e f pos) (TJ X.K ta f):=by
  intro pins s σ H Q I h;refine MB hb (thn (he pins s σ H _ I h) λ u s1 ⟨x,H1,I1,rx,a,C,dx,fs,v,ex,ea,c,n,l,q⟩=> ?_);subst ex;obtain rfl:u=Value.ref a:=rx;exact LA I1 ea c n l λ u' s2 I2 ru=>⟨v,H1,I2,ru,q⟩
theorem C6 (ha:PE X o ta) (hv:PE X value tv) (hs:swapsWith value (some (.Attribute o f pos')) pos.line X.env=pure false):PS X (.Assign [.Attribute o f pos'] value pos) (Zb X.K ta tv f):=by
  intro pins s σ H D I h;refine plainObj_wpAny_Assign_Attribute (thn (hv pins s σ H _ I h) λ u s1 ⟨y,H1,I1,ry,q⟩=>thn (ha pins s1 σ H1 _ I1 q) λ ov s2 ⟨x,H2,I2,rx,a,C,dx,fs,ex,ea,c,n,l,q2⟩=> ?_) hs;subst ex;obtain rfl:ov=Value.ref a:=rx;exact Lz I2 ea c n l ry λ s3 I3=>⟨σ,_,I3,q2⟩
theorem SE {pl:Sem Bool} {m:Str} {apos:Pos} {args:List Expr} {pins:List (Addr × Obj)} {s:Shared} {σ:St} {H:Hp} {Q:Value->Shared->Prop} {te:TE} (he:PE X e te) (I:Inv X pins σ H s)
    (h:te σ H λ x H1=>∃ a C dx fs g,x= .ref a/\H1 a=some (.ins C dx fs)/\Cls X.K C/\Meth X.K C m g/\fs.lookup m=none/\
      ∀ s1,Inv X pins σ H1 s1->wpAny (model X.prog X.w) X.A (callWith pos (.ref g) [.ref a] (backTo pos (starEach args X.env)) (backToKw pos (keywordEach [] X.env))) Q X.xe s1)
    (ht:eval (.Call (.Attribute e m apos) args [] pos) X.env=(do
      let ov <-eval e X.env
      standAt apos.atName
      let (f,first) <-holding [ov] (getMethod ov m pl)
      callWith pos f first (backTo pos (starEach args X.env)) (backToKw pos (keywordEach [] X.env)))):
    wpAny (model X.prog X.w) X.A (eval (.Call (.Attribute e m apos) args [] pos) X.env) Q X.xe s:=by
  refine PySem.W.methodCall_KW (pl:=pl) (thn (he pins s σ H _ I h) λ u s1 ⟨x,H1,I1,rx,a,C,dx,fs,g,ex,ea,c,k,l,q⟩=> ?_) ht;subst ex;obtain rfl:u=Value.ref a:=rx;exact EA I1 ea c k l (q s1 I1)
end
section
variable {X:Cx} {pins:List (Addr × Obj)} {σ:St} {H:Hp} {s:Shared} {A:Around} {E:Value->Shared->Prop} {Q:Value->Shared->Prop} {c:Value} {b:Bool}
inductive TyOf (K:PySem.W.Frag) (H:Hp):V->Value->Prop where
  | non:TyOf K H .non (.type "NoneType")
  | bl (x:Bool):TyOf K H (.bl x) (.type "bool")
  | int (i:Int):TyOf K H (.int i) (.type "int")
  | str (x:Str):TyOf K H (.str x) (.type "str")
  | flt (x:UInt64):TyOf K H (.flt x) (.type "float")
  | lst {a:Addr} {xs:List V} (e:H a=some (.lst xs)):TyOf K H (.ref a) (.type "list")
  | frz {a:Addr} {o:Obj} {xs:List V} (e:H a=some (.frz o (.lst xs))):TyOf K H (.ref a) (.type "list")
  | tup {a:Addr} {xs:List V} (e:H a=some (.tup xs)):TyOf K H (.ref a) (.type "tuple")
  | dK {a:Addr} {kvs:List (Key × V)} (e:H a=some (.dK kvs)):TyOf K H (.ref a) (.type "dict")
  | dT {a:Addr} {kvs:List (List Key × V)} (e:H a=some (.dT kvs)):TyOf K H (.ref a) (.type "dict")
  | ins {a C dx:Addr} {fs:List (Str × V)} (e:H a=some (.ins C dx fs)) (cl:Cls K C) (ha:PySem.W.findIn K (.ref C) "__class__"=some (some (.builtin "object.__class__")))
      (hn:PySem.W.specialIn K (.builtin "object.__class__") "__get__"=some (some (.builtin "getset_descriptor.__get__"))) (htk:PySem.W.takesIn K (.builtin "object.__class__")=some true)
      (hm:PySem.W.mroIn K C (.type "object")=some true):TyOf K H (.ref a) (.ref C)
theorem IH {x:V} {u t:Value} (I:Inv X pins σ H s) (rx:RelV x u) (ty:TyOf X.K H x t) (e:PySem.W.kitOne X.K t c=some b) (h:∀ tk,Q (.bool b) { s with toks:=tk }):
    wpAny (model X.prog X.w) A (call (.builtin "isinstance") [u,c]) Q E s:=by
  cases ty with
  | non=>cases (show u=Value.none from rx);exact PySem.W.kia_one PySem.W.kitx_none I.kIn True.intro e (λ z=>nomatch z) h
  | bl y=>cases (show u=Value.bool y from rx);exact PySem.W.kia_one PySem.W.kitx_bool I.kIn True.intro e (λ z=>nomatch z) h
  | int i=>obtain ⟨t,q⟩:=(show ∃ t,u=Value.int i t from rx);cases q;exact PySem.W.kia_one PySem.W.kitx_int I.kIn True.intro e (λ z=>nomatch z) h
  | str y=>obtain ⟨t,q⟩:=(show ∃ t,u=Value.str y t from rx);cases q;exact PySem.W.kia_one PySem.W.kitx_str I.kIn True.intro e (λ z=>nomatch z) h
  | flt y=>obtain ⟨t,q⟩:=(show ∃ t,u=Value.float y t from rx);cases q;exact PySem.W.kia_one PySem.W.kitx_float I.kIn True.intro e (λ z=>nomatch z) h
  | @lst a xs ea=>
    cases (show u=Value.ref a from rx);obtain ⟨_,_,n,_,h1⟩:=(show ObjOk X.prog X.w H s.heap a (.lst xs) from I.hok a _ ea);exact PySem.W.kia_one PySem.W.kitx_list I.kIn ⟨_,h1,rfl⟩ e (λ z=>nomatch z) h
  | @frz a ob xs ea=>
    cases (show u=Value.ref a from rx);obtain ⟨_,_,_,n,_,h1⟩:=(show ObjOk X.prog X.w H s.heap a (.frz ob (.lst xs)) from I.hok a _ ea);exact PySem.W.kia_one PySem.W.kitx_list I.kIn ⟨_,h1,rfl⟩ e (λ z=>nomatch z) h
  | @tup a xs ea=>
    cases (show u=Value.ref a from rx);obtain ⟨_,_,_,p⟩:=(show ObjOk X.prog X.w H s.heap a (.tup xs) from I.hok a _ ea);obtain ⟨o,h1,h2,_⟩:=p;exact PySem.W.kia_one PySem.W.kitx_tuple I.kIn ⟨o,h1,h2⟩ e (λ z=>nomatch z) h
  | @dK a kvs ea=>
    cases (show u=Value.ref a from rx);obtain ⟨_,_,vs,_,p⟩:=(show ObjOk X.prog X.w H s.heap a (.dK kvs) from I.hok a _ ea);obtain ⟨o,es,ep,h1,h2,_⟩:=p;exact PySem.W.kia_one PySem.W.kitx_dict I.kIn ⟨o,h1,h2.1⟩ e (λ z=>nomatch z) h
  | @dT a kvs ea=>
    cases (show u=Value.ref a from rx);obtain ⟨_,_,xs,_,o,es,ep,h1,h2,_⟩:=(show ObjOk X.prog X.w H s.heap a (.dT kvs) from I.hok a _ ea);exact PySem.W.kia_one PySem.W.kitx_dict I.kIn ⟨o,h1,h2.1⟩ e (λ z=>nomatch z) h
  | @ins a C dx fs ea cl ha hn htk hm=>
    cases (show u=Value.ref a from rx);obtain ⟨mA,O,_⟩:=Gx I.hok ea;obtain ⟨od,J,_⟩:=O.look;exact PySem.W.kia_one (PySem.W.kitx_own (cl.get _) cl.hd ha hn htk hm) I.kIn J e (λ z=>nomatch z) h
end
structure Room (k:Nat) (A:Around):Prop where
  hd:A.handled=none
  dp:A.depth+3*k+5<recursionLimit
  un:A.units+16*k+200<cLine
theorem Room.mono {j k:Nat} {A:Around} (r:Room k A) (h:j<=k):Room j A:=⟨r.hd,by have:=r.dp;omega,by have:=r.un;omega⟩
theorem Room.deeper {k:Nat} {A:Around} (r:Room (k+1) A) (env:Env):Room k (A.deeper env):=
  ⟨r.hd,by have:=r.dp;show A.depth+1+3*k+5<_;omega,by have:=r.un;show A.units+3+16*k+200<_;omega⟩
theorem LB {A:Around} {C:Addr} {us:List Value} {kw:List (Str × Value)}:(A.under (.builtin "type.__call__" ⟨.ref C::us,kw⟩)).depth=A.depth+1:=by
  first | rfl | simp [Around.under,Code.weight,Code.isCreation,Code.isGuard,Code.isCaller,Code.frames,Code.isFrame,guardIds]
theorem LW {A:Around} {C:Addr} {us:List Value} {kw:List (Str × Value)}:(A.under (.builtin "type.__call__" ⟨.ref C::us,kw⟩)).units=A.units+1:=by
  first | rfl | simp [Around.under,Code.cUnits,Code.frames,Code.isFrame]
theorem Room.make {k:Nat} {A:Around} (r:Room (k+1) A) (C:Addr) (us:List Value) (kw:List (Str × Value)):Room k (A.under (.builtin "type.__call__" ⟨.ref C::us,kw⟩)):=
  ⟨r.hd,by have:=r.dp;rw [LB];omega,by have:=r.un;rw [LW];omega⟩
theorem Room.depth {k:Nat} {A:Around} (r:Room k A):A.depth<recursionLimit:=by have:=r.dp;omega
theorem Room.units {k:Nat} {A:Around} (r:Room k A):A.units+64<cLine:=by have:=r.un;omega
theorem Room.units0 {k:Nat} {A:Around} (r:Room k A):A.units<cLine:=by have:=r.un;omega
def QU:TA:=λ _ H Q=>Q [] H
def R6 (ta:TE) (tr:TA):TA:=λ σ H Q=>ta σ H λ x H1=>tr σ H1 λ xs H2=>Q (x::xs) H2
section
variable {X:Cx} {e:Expr} {es:List Expr} {te:TE} {t:TA} {pos:Pos}
theorem Ab:PA X [] QU:=λ _ _ _ _ H Q I h=>Calls.spliced_nil ⟨[],H,I, .nil,h⟩
theorem Aa (ha:PE X e te) (hr:PA X es t) (hs:starEach (e::es) X.env=(false,eval e X.env)::starEach es X.env:=by rfl):PA X (e::es) (R6 te t):=by
  intro pos pins s σ H Q I h;rw [hs];show wpAny _ _ (spliced ((false,eval e X.env)::backTo pos (starEach es X.env))) _ _ s;refine Calls.spliced_cons (thn (ha pins s σ H _ I h) λ u s1 ⟨x,H1,I1,r1,q1⟩=> ?_);exact thn (hr pos pins s1 σ H1 _ I1 q1) λ us s2 ⟨xs,H2,I2,r2,q2⟩=>⟨x::xs,H2,I2, .cons r1 r2,q2⟩
def WY (t:TA):TE:=λ σ H Q=>t σ H λ xs H1=>xs.length<=sizeLine/\∀ p,H1 p=none->Q (.ref p) (upd H1 p (.tup xs))
def WD (t:TA):TE:=λ σ H Q=>t σ H λ xs H1=>xs.length<=sizeLine/\∀ p,H1 p=none->Q (.ref p) (upd H1 p (.lst xs))
theorem AX {x1} (h:PA X es t):PE X (.Tuple es x1 pos) (WY t):=by
  intro pins s σ H Q I hq;refine wpAny_Tuple_spliced (thn (h pos pins s σ H _ I hq) λ us s1 ⟨xs,H1,I1,r,z,q⟩=>⟨by rw [<-r.length];exact z,?_⟩);have hf:H1 s1.heap.objs.size=none:=I1.hok.fresh (Nat.le_refl _);refine ⟨.ref s1.heap.objs.size,upd H1 s1.heap.objs.size (.tup xs),I1.laid (t':=s1.toks) (λ b u e=>Heap.get?_push_of_some _ e) (Nat.le_refl _) ?_,rfl,q _ hf⟩;exact ⟨z,us,r,⟨_,Heap.get?_push_size _ rfl,rfl,_,rfl⟩⟩
theorem AI (h:PA X es t):PE X (.List es pos) (WD t):=by
  intro pins s σ H Q I hq;refine wpAny_List_spliced (thn (h pos pins s σ H _ I hq) λ us s1 ⟨xs,H1,I1,r,z,q⟩=>⟨by rw [<-r.length];exact z,?_⟩);have hf:H1 s1.heap.objs.size=none:=I1.hok.fresh (Nat.le_refl _);refine ⟨.ref s1.heap.objs.size,upd H1 s1.heap.objs.size (.lst xs),I1.laid (t':=s1.toks) (λ b u e=>Heap.get?_push_of_some _ e) (Nat.le_refl _) ?_,rfl,q _ hf⟩;exact ⟨z,us,0,r,Heap.get?_push_size _ rfl⟩
end
abbrev Sp:=List V->Hp->VK->XK->Prop
abbrev CXT:=List Env->Hp->Shared->XK->Value->Shared->Prop
structure Env0 (P:Program) (w:World) (K:PySem.W.Frag) (mg:Str->Option Value) (base:Heap) (A:Around) (outer:List Env) (s:Shared) (H:Hp):Prop where
  frames:A.frames=some outer
  mod:Mod K mg base
  bs:∀ b o,base.get? b=some o->s.heap.get? b=some o/\H b=none
  bsz:base.objs.size<=s.heap.objs.size
  funs:s.heap.FunFrames base outer
  frf:∀ b∈frs outer,H b=none
  hok:HOk P w H s.heap
  bare:AllBare s.gens
def CE (outer:List Env) (P:Program) (w:World) (H:Hp) (s:Shared) (Q:VK) (u:Value) (s':Shared):Prop:=
  ∃ v H',s'.os=s.os/\AllBare s'.gens/\Un (frs outer) [] H H' s.heap s'.heap/\HOk P w H' s'.heap/\RelV v u/\Q v H'
def CR (CX:CXT) (outer:List Env) (P:Program) (w:World) (H:Hp) (s:Shared) (Q:VK) (E:XK) (r:Result) (s':Shared):Prop:=
  match r with
  | .ok (.ret u)=>CE outer P w H s Q u s'
  | .ok _=>False
  | .error e=>CX outer H s E e s'
structure FnOk (P:Program) (w:World) (K:PySem.W.Frag) (mg:Str->Option Value) (base:Heap) (CX:CXT) (k:Nat) (f:Addr) (fd:FuncData) (ps:List Str) (sp:Sp):Prop where
  len:∀ vs H Q E,sp vs H Q E->vs.length=ps.length
  run:∀ (A:Around) (outer:List Env) (s:Shared) (H:Hp) (args:Args) (us:List Value) (vs:List V) (Q:VK) (E:XK),Room k A->Env0 P w K mg base A outer s H->BindsTo s fd args (ps.zip us)->Vals vs us->sp vs H Q E->
    codeAny (model P w) A (.call (.ref f) args) (CR CX outer P w H s Q E) s
theorem FnOk.imp {P:Program} {w:World} {K:PySem.W.Frag} {mg:Str->Option Value} {base:Heap} {CX:CXT} {k:Nat} {f:Addr} {fd:FuncData} {ps:List Str} {sp sp':Sp} (F:FnOk P w K mg base CX k f fd ps sp)
    (h:∀ vs H Q E,sp' vs H Q E->sp vs H Q E):FnOk P w K mg base CX k f fd ps sp':=
  ⟨λ vs H Q E q=>F.len vs H Q E (h _ _ _ _ q),λ A outer s H args us vs Q E hr he hb hv hs=>F.run A outer s H args us vs Q E hr he hb hv (h _ _ _ _ hs)⟩
theorem Env0.make {P:Program} {w:World} {K:PySem.W.Frag} {mg:Str->Option Value} {base:Heap} {A:Around} {outer:List Env} {s:Shared} {H:Hp} (e:Env0 P w K mg base A outer s H) (C:Addr) (us:List Value) (kw:List (Str × Value)):
    Env0 P w K mg base (A.under (.builtin "type.__call__" ⟨.ref C::us,kw⟩)) outer s H:=⟨by first | exact e.frames | (simpa [Around.under,Code.envs,Code.isFrame,pushEnvs] using e.frames),e.mod,e.bs,e.bsz,e.funs,e.frf,e.hok,e.bare⟩
section
variable {X:Cx} {pins:List (Addr × Obj)} {σ:St} {H:Hp} {s s':Shared}
theorem Inv.env0 (I:Inv X pins σ H s):Env0 X.prog X.w X.K X.mg X.base X.A X.stack s H:=
  ⟨I.ok.frames,I.ok.mod,I.bs,Nat.le_trans I.ok.bsz I.sz,I.stack,I.stkFree,I.hok,I.bare⟩
theorem Inv.after {Q:VK} {u:Value} (I:Inv X pins σ H s) (h:CE X.stack X.prog X.w H s Q u s'):EP X pins σ Q u s':=by
  obtain ⟨v,H',os,bare,un,hok,r,q⟩:=h;obtain ⟨hh,g,d,t,os'⟩:=s';obtain rfl:os'=s.os:=os;exact ⟨v,H',I.call (h':=hh) (g':=g) (d':=d) (t':=t) (ch:=[]) un hok bare (λ b z=>absurd z (by simp)),r,q⟩
end
def Ky (sp:Sp) (dvs:List V) (E:XK) (t:TA):TE:=λ σ H Q=>t σ H λ vs H1=>sp (vs++dvs) H1 Q E
def IW (C:Addr) (m:Str) (sp:Sp) (dvs:List V) (E:XK) (ta:TE) (t:TA):TE:=λ σ H Q=>ta σ H λ x H1=>∃ a dx fs,x= .ref a/\H1 a=some (.ins C dx fs)/\fs.lookup m=none/\
  t σ H1 λ vs H2=>sp (x::(vs++dvs)) H2 Q E
def Kx (C:Addr) (sp:Sp) (dvs:List V) (E:XK) (t:TA):TE:=λ σ H Q=>t σ H λ vs H1=>∀ x dx,H1 x=none->H1 dx=none->dx≠x->
  sp (.ref x::(vs++dvs)) (upd (upd H1 dx (.own x)) x (.ins C dx [])) (λ v H2=>v= .non/\Q (.ref x) H2) E
def Binds (K:PySem.W.Frag) (fd:FuncData) (ps:List Str) (ds:List Value):Prop:=
  ∀ (s:Shared) (us:List Value),K.In s.heap->(us++ds).length=ps.length->BindsTo s fd ⟨us,[]⟩ (ps.zip (us++ds))
theorem Binds.all {K:PySem.W.Frag} {fd:FuncData} {ps:List Str} (h:∀ us:List Value,us.length=ps.length->bindArgs fd ⟨us,[]⟩=pure (ps.zip us)):Binds K fd ps []:=λ s us _ hl=>by
  rw [List.append_nil] at hl ⊢;exact .of_eq (h us hl)
def BL (CX:CXT) (X:Cx) (E:XK):Prop:=∀ (pins:List (Addr × Obj)) (σ:St) (H:Hp) (s:Shared) (e:Value) (s':Shared),Inv X pins σ H s->CX X.stack H s E e s'->X.xe e s'
section
variable {X:Cx} {CX:CXT} {k:Nat} {f C:Addr} {fd:FuncData} {ps:List Str} {sp:Sp} {dvs:List V} {ds:List Value} {E:XK} {x m:Str} {p pos apos:Pos} {e o:Expr} {es:List Expr} {ta:TE} {t:TA}
theorem Lp {pins:List (Addr × Obj)} {σ:St} {H:Hp} {s:Shared} {Q:VK} {us:List Value} {vs:List V} (F:FnOk X.prog X.w X.K X.mg X.base CX k f fd ps sp) (hr:Room k X.A) (hb:Binds X.K fd ps ds) (hd:Vals dvs ds) (hx:BL CX X E)
    (I:Inv X pins σ H s) (r:Vals vs us) (h:sp (vs++dvs) H Q E):wpAny (model X.prog X.w) X.A (call (.ref f) us) (EP X pins σ Q) X.xe s:=by
  have r2:Vals (vs++dvs) (us++ds):=r.append hd;have hl:(us++ds).length=ps.length:=by rw [<-r2.length];exact F.len _ _ _ _ h
  refine wpAny_call (codeAny_mono (F.run X.A X.stack s H ⟨us,[]⟩ (us++ds) (vs++dvs) Q E hr I.env0 (hb s us I.kIn hl) r2 h) λ r s' hq=> ?_);cases r with
  | error e=>exact hx pins σ H s e s' I hq
  | ok fl=>
    cases fl with
    | ret u=>exact I.after hq
    | next=>exact False.elim hq
    | brk=>exact False.elim hq
    | cont=>exact False.elim hq
theorem L6 (F:FnOk X.prog X.w X.K X.mg X.base CX k f fd ps sp) (hr:Room k X.A) (hg:Gl X x) (hm:X.mg x=some (.ref f)) (hk:PySem.W.keepIn X.K (.ref f)=true) (hb:Binds X.K fd ps ds) (hd:Vals dvs ds) (hx:BL CX X E)
    (ha:PA X (e::es) t) (hdb:(x == ("__debug__":Str))=false:=by decide) (he:starEach (e::es) X.env=(false,eval e X.env)::starEach es X.env:=by rfl) (hpl:(backTo pos (starEach es X.env)).any (·.1)=false:=by rfl):
    PE X (.Call (.Name x p) (e::es) [] pos) (Ky sp dvs E t):=by
  intro pins s σ H Q I h;refine wpAny_Call_Name_kw (CQ I hg hm ?_ hdb);refine PySem.W.callWith_K (h₀:=X.base) I.ok.mod.kin hk (thn (ha pos pins s σ H _ I h) λ us s1 ⟨vs,H1,I1,r,q⟩=>⟨I1.kIn,?_⟩) he hpl;exact Lp F hr hb hd hx I1 r q
theorem RN {pl:Sem Bool} (he:PE X o ta) (c:Cls X.K C) (hm:Meth X.K C m f) (F:FnOk X.prog X.w X.K X.mg X.base CX k f fd ps sp) (hr:Room k X.A) (hb:Binds X.K fd ps ds) (hd:Vals dvs ds) (hx:BL CX X E) (ha:PA X (e::es) t)
    (hst:starEach (e::es) X.env=(false,eval e X.env)::starEach es X.env:=by rfl) (hpl:(backTo pos (starEach es X.env)).any (·.1)=false:=by rfl)
    (ht:eval (.Call (.Attribute o m apos) (e::es) [] pos) X.env=(do
      let ov <-eval o X.env
      standAt apos.atName
      let (f,first) <-holding [ov] (getMethod ov m pl)
      callWith pos f first (backTo pos (starEach (e::es) X.env)) (backToKw pos (keywordEach [] X.env))):=by rfl):
    PE X (.Call (.Attribute o m apos) (e::es) [] pos) (IW C m sp dvs E ta t):=by
  intro pins s σ H Q I h;refine PySem.W.methodCall_KW (pl:=pl) (thn (he pins s σ H _ I h) λ u s1 ⟨x,H1,I1,rx,a,dx,fs,ex,ea,l,q⟩=> ?_) ht;subst ex;obtain rfl:u=Value.ref a:=rx;refine EA I1 ea c hm l ?_;refine PySem.W.callWith_K (first:=[.ref a]) (h₀:=X.base) I.ok.mod.kin hm.kp (thn (ha pos pins s1 σ H1 _ I1 q) λ us s2 ⟨vs,H2,I2,r,q2⟩=>⟨I2.kIn,?_⟩) hst hpl;exact Lp (us:= .ref a::us) (vs:= .ref a::vs) F hr hb hd hx I2 (.cons rfl r) q2
theorem Ol {pl:Sem Bool} (he:PE X o ta) (c:Cls X.K C) (hm:Meth X.K C m f) (F:FnOk X.prog X.w X.K X.mg X.base CX k f fd ps sp) (hr:Room k X.A) (hb:Binds X.K fd ps ds) (hd:Vals dvs ds) (hx:BL CX X E)
    (ht:eval (.Call (.Attribute o m apos) [] [] pos) X.env=(do
      let ov <-eval o X.env
      standAt apos.atName
      let (f,first) <-holding [ov] (getMethod ov m pl)
      callWith pos f first (backTo pos (starEach [] X.env)) (backToKw pos (keywordEach [] X.env))):=by rfl):
    PE X (.Call (.Attribute o m apos) [] [] pos) (IW C m sp dvs E ta QU):=by
  intro pins s σ H Q I h;refine PySem.W.methodCall_KW (pl:=pl) (thn (he pins s σ H _ I h) λ u s1 ⟨x,H1,I1,rx,a,dx,fs,ex,ea,l,q⟩=> ?_) ht;subst ex;obtain rfl:u=Value.ref a:=rx;refine EA I1 ea c hm l ?_;exact PySem.W.callWith_K0 (first:=[.ref a]) I1.kIn hm.kp (Lp (us:=[.ref a]) (vs:=[.ref a]) F hr hb hd hx I1 (.cons rfl .nil) q)
structure Mk (K:PySem.W.Frag) (C f:Addr):Prop where
  makes:PySem.W.makesIn K C=true
  init:PySem.W.findIn K (.ref C) "__init__"=some (some (.ref f))
  fn:PySem.W.isFn K (.ref f)=true
  kp:PySem.W.keepIn K (.ref C)=true
theorem Qa {pins:List (Addr × Obj)} {σ:St} {H:Hp} {s:Shared} {Q:VK} {us:List Value} {vs:List V} (M:Mk X.K C f) (F:FnOk X.prog X.w X.K X.mg X.base CX k f fd ps sp) (hr:Room (k+1) X.A) (hb:Binds X.K fd ps ds) (hd:Vals dvs ds)
    (hx:BL CX X E) (I:Inv X pins σ H s) (r:Vals vs us)
    (h:∀ x dx,H x=none->H dx=none->dx≠x->sp (.ref x::(vs++dvs)) (upd (upd H dx (.own x)) x (.ins C dx [])) (λ v H2=>v= .non/\Q (.ref x) H2) E):
    wpAny (model X.prog X.w) X.A (call (.ref C) us) (EP X pins σ Q) X.xe s:=by
  have hq:=h (s.heap.objs.size+1) s.heap.objs.size (I.hok.fresh (Nat.le_succ _)) (I.hok.fresh (Nat.le_refl _)) (Nat.ne_of_lt (Nat.lt_succ_self _));have I2:=Inv.made (C:=C) I;have r2:Vals (V.ref (s.heap.objs.size+1)::(vs++dvs)) (Value.ref (s.heap.objs.size+1)::(us++ds)):= .cons rfl (r.append hd);have hl:(Value.ref (s.heap.objs.size+1)::us++ds).length=ps.length:=by
    have e:=r2.length;rw [F.len _ _ _ _ hq] at e;exact e.symm
  refine wpAny_call (PF (f:=f) I.kIn M.makes M.init (beq_iff_eq.mp M.fn) (codeAny_mono (F.run _ X.stack _ _ ⟨Value.ref (s.heap.objs.size+1)::us,[]⟩ (Value.ref (s.heap.objs.size+1)::(us++ds)) _ _ E (hr.make C us [])
    (I2.env0.make C us []) (hb _ (Value.ref (s.heap.objs.size+1)::us) I2.kIn hl) r2 hq) λ r s' hq'=> ?_))
  cases r with
  | error e=>exact hx pins σ _ _ e s' I2 hq'
  | ok fl=>
    cases fl with
    | ret u=>
      obtain ⟨v,H',I3,rv,ev,q3⟩:=I2.after hq';subst ev;exact ⟨rv,⟨V.ref (s.heap.objs.size+1),H',I3,rfl,q3⟩⟩
    | next=>exact False.elim hq'
    | brk=>exact False.elim hq'
    | cont=>exact False.elim hq'
theorem L8 (M:Mk X.K C f) (F:FnOk X.prog X.w X.K X.mg X.base CX k f fd ps sp) (hr:Room (k+1) X.A) (hg:Gl X x) (hm:X.mg x=some (.ref C)) (hb:Binds X.K fd ps ds) (hd:Vals dvs ds) (hx:BL CX X E)
    (ha:PA X (e::es) t) (hdb:(x == ("__debug__":Str))=false:=by decide) (he:starEach (e::es) X.env=(false,eval e X.env)::starEach es X.env:=by rfl) (hpl:(backTo pos (starEach es X.env)).any (·.1)=false:=by rfl):
    PE X (.Call (.Name x p) (e::es) [] pos) (Kx C sp dvs E t):=by
  intro pins s σ H Q I h;refine wpAny_Call_Name_kw (CQ I hg hm ?_ hdb);refine PySem.W.callWith_K (h₀:=X.base) I.ok.mod.kin M.kp (thn (ha pos pins s σ H _ I h) λ us s1 ⟨vs,H1,I1,r,q⟩=>⟨I1.kIn,?_⟩) he hpl;exact Qa M F hr hb hd hx I1 r q
end
section
variable {X:Cx} {CX:CXT} {k:Nat} {f C:Addr} {fd:FuncData} {ps ks:List Str} {sp:Sp} {E:XK} {x m:Str} {p pos apos kpos:Pos} {e o:Expr} {es:List Expr} {kws:List Keyword} {te ta:TE} {t tk:TA} {nm:Option Str}
structure KBinds (K:PySem.W.Frag) (fd:FuncData) (ps ks:List Str) (g:List Value->List Value->List Value) (gV:List V->List V->List V):Prop where
  to:∀ (s:Shared) (us ws:List Value),K.In s.heap->(g us ws).length=ps.length->BindsTo s fd ⟨us,ks.zip ws⟩ (ps.zip (g us ws))
  rel:∀ {vs:List V} {us:List Value} {zs:List V} {ws:List Value},Vals vs us->Vals zs ws->Vals (gV vs zs) (g us ws)
variable {g:List Value->List Value->List Value} {gV:List V->List V->List V}
end
structure FnScope (N P:List Str) (sc:Scope):Prop where
  kind:sc.kind= .function
  co:sc.isCoroutine=false
  gen:sc.isGenerator=false
  nd:N.Nodup
  pre:N.take P.length=P
  par:∀ x∈P,sc.names.lookup x=some .local\/sc.names.lookup x=some .cell
  nofree:∀ y∈sc.names,y.2≠ .free
theorem IZ {kindOf:Str->Option NameKind} {x:Str}:∀ {binds:List (Str × Value)} {m:Str->Option Value},(∀ v,(x,v)∉binds)->bindL kindOf binds m x=m x
  | [],_,_=>rfl
  | (n,v)::r,m,h=>by
    unfold bindL;rw [IZ λ w hw=>h w (List.mem_cons_of_mem _ hw)];split
    · have:x≠n:=by rintro rfl;exact h v List.mem_cons_self
      simp [this]
    · rfl
theorem IF {kindOf:Str->Option NameKind} {x:Str}:∀ {binds:List (Str × Value)} {m:Str->Option Value},(∀ v,(x,v)∉binds)->bindC kindOf binds m x=m x
  | [],_,_=>rfl
  | (n,v)::r,m,h=>by
    unfold bindC;rw [IF λ w hw=>h w (List.mem_cons_of_mem _ hw)];split
    · rfl
    · have:x≠n:=by rintro rfl;exact h v List.mem_cons_self
      simp [this]
theorem IX {kindOf:Str->Option NameKind} {x:Str} {v:Value}:∀ {P:List Str} {vs:List Value} {i:Nat} {m:Str->Option Value},P.Nodup->P[i]?=some x->vs[i]?=some v->kindOf x=some .local->
    bindL kindOf (P.zip vs) m x=some v
  | [],_,_,_,_,h,_,_=>by simp at h
  | _::_,[],_,_,_,_,h,_=>by simp at h
  | p::P,w::vs,0,m,nd,h1,h2,hk=>by
    simp at h1 h2;subst h1;subst h2;show bindL kindOf ((p,w)::P.zip vs) m p=_;unfold bindL;rw [IZ λ v hv=>(List.nodup_cons.mp nd).1 (List.of_mem_zip hv).1,if_pos hk];simp
  | p::P,w::vs,i+1,m,nd,h1,h2,hk=>by
    show bindL kindOf ((p,w)::P.zip vs) m x=_;unfold bindL;exact IX (i:=i) (List.nodup_cons.mp nd).2 (by simpa using h1) (by simpa using h2) hk
theorem II {kindOf:Str->Option NameKind} {x:Str} {v:Value}:∀ {P:List Str} {vs:List Value} {i:Nat} {m:Str->Option Value},P.Nodup->P[i]?=some x->vs[i]?=some v->kindOf x≠some .local->
    bindC kindOf (P.zip vs) m x=some v
  | [],_,_,_,_,h,_,_=>by simp at h
  | _::_,[],_,_,_,_,h,_=>by simp at h
  | p::P,w::vs,0,m,nd,h1,h2,hk=>by
    simp at h1 h2;subst h1;subst h2;show bindC kindOf ((p,w)::P.zip vs) m p=_;unfold bindC;rw [IF λ v hv=>(List.nodup_cons.mp nd).1 (List.of_mem_zip hv).1,if_neg hk];simp
  | p::P,w::vs,i+1,m,nd,h1,h2,hk=>by
    show bindC kindOf ((p,w)::P.zip vs) m x=_;unfold bindC;exact II (i:=i) (List.nodup_cons.mp nd).2 (by simpa using h1) (by simpa using h2) hk
def start (N:List Str) (vs:List V):St:=vs.map some++List.replicate (N.length - vs.length) none
def Bw (CX:CXT) (P:Program) (w:World) (K:PySem.W.Frag) (mg:Str->Option Value) (base:Heap) (N:List Str) (qual:Str) (scope:Scope) (f:Addr) (cd:Value) (A:Around) (outer:List Env) (s:Shared) (H:Hp) (E:XK):Cx where
  prog:=P
  w:=w
  K:=K
  mg:=mg
  base:=base
  A:=A.deeper (envOfC qual scope s.heap.objs.size f cd)
  N:=N
  s₀:=s
  H₀:=H
  env:=envOfC qual scope s.heap.objs.size f cd
  outer:=outer
  stack:=envOfC qual scope s.heap.objs.size f cd::outer
  ex:=[]
  calm:=true
  fn:=λ _=>true
  pn:=[]
  xe:=λ e s'=>wpAny (model P w) (A.deeper (envOfC qual scope s.heap.objs.size f cd)) (leaving (envOfC qual scope s.heap.objs.size f cd) e) (λ _ s''=>CX outer H s E e s'') (λ e' s''=>CX outer H s E e' s'') s'
theorem Ko {sc:Scope} {n:Nat} {x:Str} (h:sc.names.lookup x=some .cell):∃ c,(cellsFrom n sc.names []).lookup x=some c:=by
  have q:=PySem.W.cellsFrom_some sc.names n [] (.inl h);exact Option.isSome_iff_exists.mp q
theorem Nh {CX:CXT} {P:Program} {w:World} {K:PySem.W.Frag} {mg:Str->Option Value} {base:Heap} {N ps:List Str} {qual:Str} {scope:Scope} {f:Addr} {cd:Value} {A:Around} {outer:List Env} {s s1:Shared} {H:Hp} {E:XK} {us:List Value} {vs:List V}
    (S:FnScope N ps scope) (hd:A.handled=none) (e0:Env0 P w K mg base A outer s H) (hl:vs.length=ps.length) (r:Vals vs us)
    (x:InCallC s s.heap.objs.size (bindL (envOfC qual scope s.heap.objs.size f cd).kindOf (ps.zip us) λ _=>none) (cellsFrom (s.heap.objs.size+1) scope.names []) (bindC (envOfC qual scope s.heap.objs.size f cd).kindOf (ps.zip us) λ _=>none) s1):
    Inv (Bw CX P w K mg base N qual scope f cd A outer s H E) [] (start N vs) H s1:=by
  have hpl:ps.length<=N.length:=by have:=congrArg List.length S.pre;rw [List.length_take] at this;omega
  obtain ⟨h1,tk,rfl,hk⟩:=x.done;have noA:∀ b:Addr,b∉(Bw CX P w K mg base N qual scope f cd A outer s H E).ex:=λ b z=>absurd (show b∈([]:List Addr) from z) (by simp);refine ⟨⟨e0.mod,S.kind,rfl,rfl,Nat.le_refl _,λ y z c h1 h2=> ?_,λ y hy=> ?_,λ y c _ h=> ?_,λ _=>hd,Around.frames_deeper e0.frames, .inr ⟨rfl,rfl⟩,λ b z=>absurd z (noA b),e0.bs,e0.bsz,λ b _ _=>noA b,λ b z=>absurd z (noA b),e0.funs,e0.frf⟩,
    rfl,e0.bare,Un.kept hk,⟨_,x.toInCall.ns,λ i y v h1 h2 h3=> ?_⟩,λ y c h=>⟨_,x.cell y c h⟩,e0.hok.fresh (Nat.le_refl _),λ y c h=> ?_,λ p hp=>absurd (show p∈([]:List (Addr × Obj)) from hp) (by simp),e0.hok.kept hk,?_⟩
  · exact name_of_addr x.apart (PySem.mem_of_lookup h1) (PySem.mem_of_lookup h2)
  · have hy:scope.names.lookup y=some .cell\/scope.names.lookup y=some .free:=hy;rcases hy with hy | hy
    · exact Ko hy
    · exact absurd rfl (S.nofree _ (PySem.mem_of_lookup hy))
  · exact Nat.le_of_lt (x.above y c (PySem.mem_of_lookup h))
  · have hi:i<vs.length:=by
      unfold start at h2;by_cases hi:i<vs.length
      · exact hi
      · rw [List.getElem?_append_right (by simpa using hi)] at h2;rw [List.getElem?_replicate] at h2;split at h2 <;> cases h2
    have ha:vs[i]?=some v:=by
      unfold start at h2;rw [List.getElem?_append_left (by simpa using hi),List.getElem?_map] at h2;cases e:vs[i]? with
      | none=>rw [e] at h2;cases h2
      | some a=>rw [e] at h2;cases h2;rfl
    obtain ⟨u,hu,rv⟩:=r.get ha;have hp:ps[i]?=some y:=by
      rw [<-S.pre,List.getElem?_take_of_lt (by omega)];exact h1
    have ndP:ps.Nodup:=by rw [<-S.pre];exact S.nd.sublist (List.take_sublist _ _)
    refine ⟨u,rv,?_⟩;rcases S.par y (List.mem_of_getElem? hp) with k | k
    · exact .inl ⟨k,IX ndP hp hu k⟩
    · obtain ⟨c,e⟩:=Ko (n:=s.heap.objs.size+1) k;refine .inr ⟨.inl k,c,e,?_⟩;have q:=x.cell y c e;rw [II ndP hp hu (by show scope.names.lookup y≠_;rw [k];decide)] at q;exact q
  · exact e0.hok.fresh (Nat.le_of_lt (x.above y c (PySem.mem_of_lookup h)))
  · unfold start;show _=N.length;rw [List.length_append,List.length_map,List.length_replicate];omega
theorem Oc {CX:CXT} {P:Program} {w:World} {K:PySem.W.Frag} {mg:Str->Option Value} {base:Heap} {k:Nat} {f:Addr} {name qual:Str} {params:Arguments} {body:List Stmt} {scope:Scope} {dV kV doc pm cdv ct oc:Value} {an od:Option Addr}
    {osl:Array (Option Value)} {N ps:List Str} {sp:Sp} (lk:K.lookup f=some ⟨oc,od, .func (PySem.W.fnOf name qual params body scope dV kV doc pm an cdv ct),osl⟩) (hcd:PySem.W.codeIn K cdv qual=true) (S:FnScope N ps scope)
    (len:∀ vs H Q E,sp vs H Q E->vs.length=ps.length)
    (hbody:∀ (A:Around) (outer:List Env) (s:Shared) (H:Hp) (vs:List V) (Q:VK) (E:XK),Room k (A.deeper (envOfC qual scope s.heap.objs.size f cdv))->sp vs H Q E->
      ∃ t,PSs (Bw CX P w K mg base N qual scope f cdv A outer s H E) body t/\t { nx:=λ _ H'=>Q .non H',rt:=Q } (start N vs) H):
    FnOk P w K mg base CX (k+1) f (PySem.W.fnOf name qual params body scope dV kV doc pm an cdv ct) ps sp:=by
  refine ⟨len,λ A outer s H args us vs Q E hr e0 hb r hsp=> ?_⟩;have hl:=len _ _ _ _ hsp;have KX:K.In s.heap:=e0.mod.kin.keeps λ b o e=>(e0.bs b o e).1;have lim:s.heap.NoLimit:=e0.mod.nolimit.keeps λ b o e=>(e0.bs b o e).1;have hkind:∀ y∈ps.zip us,scope.names.lookup y.1=some .local\/(scope.names.lookup y.1=some .cell/\((cellsFrom (s.heap.objs.size+1) scope.names []).lookup y.1).isSome=true):=λ ⟨n,v⟩ hy=>by
    rcases S.par n (List.of_mem_zip hy).1 with q | q
    · exact .inl q
    · exact .inr ⟨q,PySem.W.cellsFrom_some _ _ _ (.inl q)⟩
  refine codeAny_call_function hr.depth (KX _ _ lk) rfl S.co S.gen rfl (PySem.W.codeRec_of KX hcd) (hb _ _ _ _ ?_);refine wpAny_newFunctionEnv_cells S.kind hkind λ env he s1 x=> ?_;subst he;refine ⟨lim.keeps x.toInCall.keep,codeAny_func ?_⟩;obtain ⟨t,ht,hq⟩:=hbody A outer s H vs Q E (hr.deeper _) hsp;have I:Inv (Bw CX P w K mg base N qual scope f cdv A outer s H E) [] (start N vs) H s1:=Nh S hr.hd e0 hl r x;refine wpAny_mono (ht [] s1 (start N vs) H _ I hq) (λ fl s' hs=> ?_) λ e s' hs=>hs;have fin:∀ {σ':St} {H':Hp} {v:V} {u:Value},Inv (Bw CX P w K mg base N qual scope f cdv A outer s H E) [] σ' H' s'->RelV v u->Q v H'->CE outer P w H s Q u s':=
    λ {σ' H' v u} J rv q=>⟨v,H',J.os,J.bare,J.base,J.hok,rv,q⟩
  cases fl with
  | ret u=>
    obtain ⟨v,σ',H',J,rv,q⟩:=hs;exact fin J rv q
  | next=>
    obtain ⟨σ',H',J,q⟩:=hs;exact fin (v:=V.non) (u:=Value.none) J rfl q
  | brk=>
    obtain ⟨_,_,_,q⟩:=hs;exact False.elim q
  | cont=>
    obtain ⟨_,_,_,q⟩:=hs;exact False.elim q
section
variable {X:Cx} {x:Str} {p pos:Pos} {e:Expr} {es:List Expr} {t:TA} {id T:String} {r:List V->Hp->VK->Prop}
def tCB (r:List V->Hp->VK->Prop) (t:TA):TE:=λ σ H Q=>t σ H λ vs H1=>r vs H1 Q
theorem Aj (hc:AU X (.builtin id) r) (hg:Gl X x) (hm:X.mg x=none) (hv:bootBuiltins x=some (.builtin id)) (ha:PA X (e::es) t) (hn:x≠"__name__":=by decide) (hdb:(x == ("__debug__":Str))=false:=by decide)
    (he:starEach (e::es) X.env=(false,eval e X.env)::starEach es X.env:=by rfl) (hpl:(backTo pos (starEach es X.env)).any (·.1)=false:=by rfl):PE X (.Call (.Name x p) (e::es) [] pos) (tCB r t):=by
  intro pins s σ H Q I h;refine wpAny_Call_Name_kw (CC I hg hm hv ?_ hn hdb);exact PyProof.Rows.callWith_builtin1 (thn (ha pos pins s σ H _ I h) λ us s1 ⟨vs,H1,I1,r1,q1⟩=>hc pins s1 σ H1 vs us Q I1 r1 q1) he hpl
theorem Ap (hc:AU X (.type T) r) (hg:Gl X x) (hm:X.mg x=none) (hv:bootBuiltins x=some (.type T)) (ha:PA X (e::es) t) (hn:x≠"__name__":=by decide) (hdb:(x == ("__debug__":Str))=false:=by decide)
    (he:starEach (e::es) X.env=(false,eval e X.env)::starEach es X.env:=by rfl) (hpl:(backTo pos (starEach es X.env)).any (·.1)=false:=by rfl):PE X (.Call (.Name x p) (e::es) [] pos) (tCB r t):=by
  intro pins s σ H Q I h;refine wpAny_Call_Name_kw (CC I hg hm hv ?_ hn hdb);exact PyProof.Rows.callWith_type1 (thn (ha pos pins s σ H _ I h) λ us s1 ⟨vs,H1,I1,r1,q1⟩=>hc pins s1 σ H1 vs us Q I1 r1 q1) he hpl
end
end L2
namespace HT
open PySem PyProof.Rows
section
open PySem.SeqAt
open PySem.AutoSeq1 (wpAny_loadPart')
open PySem.MeetsSeq PySem.MeetsSeq2 PySem.MeetsSeq3
end
section
variable {prog:Program} {w:World} {A:Around} {E:Value->Shared->Prop} {s:Shared}
def sIx (n d:Nat):Option Int->Nat
  | none=>d
  | some v=>if v<0 then (v+(n:Int)).toNat else min v.toNat n
end
end HT
namespace L2
open PySem PySem.Spec PyProof.Rows
abbrev TO:=St->Hp->(Option Int->Hp->Prop)->Prop
def PO (X:Cx) (e:Option Expr) (t:TO):Prop:=
  ∀ (pins:List (Addr × Obj)) (s:Shared) (σ:St) (H:Hp) (Q:Option Int->Hp->Prop),Inv X pins σ H s->t σ H Q->
    wpAny (model X.prog X.w) X.A (evalPart e X.env) (λ u s'=>∃ o H',Inv X pins σ H' s'/\IsPart u o/\Q o H') X.xe s
def Mi:TO:=λ _ H Q=>Q none H
def SB (t:TE):TO:=λ σ H Q=>t σ H λ x H1=>∃ i,x= .int i/\Q (some i) H1
theorem C2 {ns:List Int}:∀ {us:List Value},Vals (ns.map V.int) us->IntsAre us ns:=by
  induction ns with
  | nil=>intro us r;rw [List.map_nil] at r;cases r;exact .nil
  | cons n ns ih=>
    intro us r;rw [List.map_cons] at r;cases r with
    | cons r1 r2=>
      obtain ⟨t,e⟩:=r1;subst e;exact .cons n t (ih r2)
section
variable {X:Cx} {e:Expr} {te:TE} {lo hi:Option Expr} {tl th:TO} {pos p2:Pos}
theorem Jl:PO X none Mi:=by
  intro pins s σ H Q I h;rw [evalPart_none];exact wpAny_pure ⟨none,H,I, .none,h⟩
theorem Jy (h:PE X e te):PO X (some e) (SB te):=by
  intro pins s σ H Q I hw;rw [evalPart_some];refine thn (h pins s σ H _ I hw) λ u s1 ⟨x,H1,I1,r1,q1⟩=> ?_;obtain ⟨i,rfl,q⟩:=q1;obtain ⟨t,rfl⟩:=r1;exact ⟨some i,H1,I1, .int i t,q⟩
def SlR (X:Cx) (r:V->Option Int->Option Int->Hp->VK->Prop):Prop:=
  ∀ (pins:List (Addr × Obj)) (s:Shared) (σ:St) (H:Hp) (x:V) (v vl vu:Value) (lo hi:Option Int) (sl:Addr) (Q:VK),Inv X pins σ H s->RelV x v->s.heap.IsSliceOf sl vl vu .none->IsPart vl lo->IsPart vu hi->r x lo hi H Q->
    ∃ T id,typeLookup (.type T) "__getitem__"=pure (some (.builtin id))/\s.TypeIs v T/\wpAny (model X.prog X.w) X.A (getItem v (.ref sl)) (EP X pins σ Q) X.xe s
def tSl (r:V->Option Int->Option Int->Hp->VK->Prop) (te:TE) (tl th:TO):TE:=λ σ H Q=>te σ H λ x H1=>tl σ H1 λ l H2=>th σ H2 λ u H3=>r x l u H3 Q
theorem Hj {r:V->Option Int->Option Int->Hp->VK->Prop} (hr:SlR X r) (he:PE X e te) (hl:PO X lo tl) (hu:PO X hi th):PE X (.Subscript e (.Slice lo hi none p2) pos) (tSl r te tl th):=by
  intro pins s σ H Q I h;refine Subscript_ (thn (he pins s σ H _ I h) λ v s1 ⟨x,H1,I1,r1,q1⟩=> ?_);refine wpAny_Slice (thn (hl pins s1 σ H1 _ I1 q1) λ vl s2 ⟨l,H2,I2,pl,q2⟩=>thn (hu pins s2 σ H2 _ I2 q2) λ vu s3 ⟨u,H3,I3,pu,q3⟩=> ?_);rw [evalPart_none];refine wpAny_pure ?_;have I4:Inv X pins σ H3 { s3 with heap:=s3.heap.push { cls:= .type "slice",data:= .fields #[vl,vu, .none] } }:=I3.kept (t':=s3.toks) λ b ob q=>Heap.get?_push_of_some _ q;obtain ⟨T,id,hT,ht,hg⟩:=hr pins { s3 with heap:=s3.heap.push { cls:= .type "slice",data:= .fields #[vl,vu, .none] } } σ H3 x v vl vu l u s3.heap.objs.size Q I4 r1 (Heap.IsSliceOf.new ..) pl pu q3;show wpAny (model X.prog X.w) X.A (subscriptTail e (.Slice lo hi none p2) v (.ref s3.heap.objs.size)) (EP X pins σ Q) X.xe { s3 with heap:=s3.heap.push { cls:= .type "slice",data:= .fields #[vl,vu, .none] } };exact tail_any (ops:=[.ref s3.heap.objs.size,v]) ht hT hg (by with_unfolding_all rfl)
def Jd (xs:List V) (lo hi:Option Int):List V:=(xs.drop (HT.sIx xs.length 0 lo)).take (HT.sIx xs.length xs.length hi - HT.sIx xs.length 0 lo)
theorem Ku (xs:List V) (lo hi:Option Int):(Jd xs lo hi).length<=xs.length:=by
  unfold Jd;rw [List.length_take,List.length_drop];omega
end
def ixN (n:Nat) (i:Int):Option Nat:=if 0<=i then (if i<n then some i.toNat else none) else if -(n:Int)<=i then some (i+n).toNat else none
def atI {α:Type} (xs:List α) (i:Int):Option α:=(ixN xs.length i).bind λ j=>xs[j]?
theorem QB {n:Nat} {i:Int} {j:Nat} (h:ixN n i=some j):seqIndex? i n=some j/\j<n/\ -(n:Int)<=i/\i<n:=by
  unfold ixN at h;by_cases h0:0<=i
  · rw [if_pos h0] at h;by_cases h1:i<n
    · rw [if_pos h1] at h;have e:i.toNat=j:=Option.some.inj h;exact ⟨by rw [seqIndex_of h0 h1,e],by omega,by omega,h1⟩
    · rw [if_neg h1] at h;cases h
  · rw [if_neg h0] at h;by_cases h1: -(n:Int)<=i
    · rw [if_pos h1] at h;have e:(i+n).toNat=j:=Option.some.inj h;exact ⟨by rw [seqIndex_neg (by omega) h1,e],by omega,h1,by omega⟩
    · rw [if_neg h1] at h;cases h
theorem ML {α:Type} {xs:List α} {i:Int} {v:α} (h:atI xs i=some v):∃ j,seqIndex? i xs.length=some j/\xs[j]?=some v/\j<xs.length/\ -(xs.length:Int)<=i/\i<xs.length:=by
  unfold atI at h;cases e:ixN xs.length i with
  | none=>rw [e] at h;cases h
  | some j=>
    rw [e] at h;obtain ⟨h1,h2,h3,h4⟩:=QB e;exact ⟨j,h1,h,h2,h3,h4⟩
theorem A4 {α:Type} {xs:List α} {j:Nat} {v:α} (h:xs[j]?=some v):atI xs (j:Int)=some v:=by
  have hj:j<xs.length:=(List.getElem?_eq_some_iff.mp h).1;have e:ixN xs.length (j:Int)=some j:=by
    unfold ixN;rw [if_pos (by omega),if_pos (by omega)];simp
  unfold atI;rw [e];exact h
theorem JY {α:Type} (xs:List α) (v:α):atI (xs++[v]) (-1)=some v:=by
  have hl:(xs++[v]).length=xs.length+1:=by simp
  have e:ixN (xs++[v]).length (-1)=some xs.length:=by
    unfold ixN;rw [hl,if_neg (by decide),if_pos (by omega)];congr 1;omega
  unfold atI;rw [e];show (xs++[v])[xs.length]?=some v;simp
def Qo (b:Expr):Prop:=∀ o i,subscripted b false o i=operate [o,i] (getItem o i)
def IxR (X:Cx) (r:R2):Prop:=
  ∀ (value slice:Expr) (pins:List (Addr × Obj)) (s:Shared) (σ:St) (H:Hp) (x y:V) (v u:Value) (Q:VK),Inv X pins σ H s->RelV x v->RelV y u->r x y H Q->
    subscripted slice false v u=operate [v,u] (getItem v u)->wpAny (model X.prog X.w) X.A (subscriptTail value slice v u) (EP X pins σ Q) X.xe s
def MtR (X:Cx) (id:String) (r:V->List V->Hp->VK->Prop):Prop:=
  ∀ (pins:List (Addr × Obj)) (s:Shared) (σ:St) (H:Hp) (x:V) (xs:List V) (v:Value) (us:List Value) (Q:VK),Inv X pins σ H s->RelV x v->Vals xs us->r x xs H Q->
    wpAny (model X.prog X.w) X.A (call (.builtin id) (v::us)) (EP X pins σ Q) X.xe s
section
variable {X:Cx} {a b:Expr} {ta tb:TE} {pos:Pos}
theorem Bi {r:R2} (hr:IxR X r) (ha:PE X a ta) (hb:PE X b tb) (hs:Qo b):PE X (.Subscript a b pos) (tOp r ta tb):=by
  intro pins s σ H Q I h;exact Subscript_ (Ue ha hb I h λ v u s2 x y H2 I2 rx ry q=>hr a b pins s2 σ H2 x y v u Q I2 rx ry q (hs _ _))
def T7 (K:PySem.W.Frag):R2:=λ x y H Q=>∃ p xs i v,x= .ref p/\y= .int i/\SqL K H p xs/\atI xs i=some v/\Q v H
def Tv (K:PySem.W.Frag):R2:=λ x y H Q=>∃ p xs i v,x= .ref p/\y= .int i/\SqT K H p xs/\atI xs i=some v/\Q v H
theorem RP:IxR X (T7 X.K):=by
  intro value slice pins s σ H x y v u Q I rx ry h hs;obtain ⟨p,xs,i,z,rfl,rfl,hq,he,q⟩:=h;cases rx;obtain ⟨t,rfl⟩:=ry;obtain ⟨its,r,pl,hz⟩:=I.list hq;obtain ⟨j,h1,h2,h3,h4,h5⟩:=ML he;obtain ⟨w,ew,rw'⟩:=r.get h2;have hl:=r.length;have hn:=JU;have fin:EP X pins σ Q w s:=⟨z,H,I,rw',q⟩;by_cases h0:0<=i
  · have hj:i.toNat=j:=by
      rw [seqIndex_of h0 h5] at h1;exact Option.some.inj h1
    exact item_listR pl.isList h0 (by omega) (by rw [hj];simpa using ew) fin hs
  · have hj:(i+(its.toArray.size:Int)).toNat=j:=by
      rw [seqIndex_neg (by omega) h4] at h1;rw [List.size_toArray, <-hl];exact Option.some.inj h1
    exact subscriptTail_builtinR (x:=w) pl.isList.typeIs slot_list_getitem.lookup
      (wpAny_getItem_list_neg (Q:=λ r s'=>r=w/\EP X pins σ Q r s') pl.isList (by omega) (by rw [List.size_toArray] <;> omega) (by omega) (by rw [hj];simpa using ew) ⟨rfl,fin⟩) hs
theorem S0:IxR X (Tv X.K):=by
  intro value slice pins s σ H x y v u Q I rx ry h hs;obtain ⟨p,xs,i,z,rfl,rfl,hq,he,q⟩:=h;cases rx;obtain ⟨t,rfl⟩:=ry;obtain ⟨its,r,pl,hz⟩:=I.tuple hq;obtain ⟨j,h1,h2,h3,h4,h5⟩:=ML he;obtain ⟨w,ew,rw'⟩:=r.get h2;have hl:=r.length;have hn:=JU;have fin:EP X pins σ Q w s:=⟨z,H,I,rw',q⟩;exact subscriptTail_builtinR (x:=w) pl.typeIs slot_tuple_getitem.lookup
    (getItem_tuple (j:=j) (Q:=λ r s'=>r=w/\EP X pins σ Q r s') pl (by omega) (by omega) (by rw [List.size_toArray, <-hl];exact h1) (by simpa using ew) ⟨rfl,fin⟩) hs
theorem Inv.lst {pins:List (Addr × Obj)} {σ:St} {H:Hp} {s:Shared} {p:Addr} {xs:List V} (I:Inv X pins σ H s) (h:H p=some (.lst xs)):
    ∃ (its:List Value) (n:Nat),Vals xs its/\s.heap.get? p=some { cls:= .type "list",data:= .seq its.toArray n }/\xs.length<=sizeLine:=by
  obtain ⟨z,its,n,r,e⟩:=I.hok p _ h;exact ⟨its,n,r,e,z⟩
theorem Jz (lo hi:Option Int) (n:Nat):(sliceBounds lo hi none n).1=((HT.sIx n 0 lo:Nat):Int)/\(sliceBounds lo hi none n).2.1=((HT.sIx n n hi:Nat):Int)/\(sliceBounds lo hi none n).2.2=1:=by
  refine ⟨?_,?_,rfl⟩
  · cases lo with
    | none=>simp [sliceBounds,HT.sIx]
    | some i=>
      simp only [sliceBounds,HT.sIx,Option.getD_none,show (1:Int)>0 by decide,if_true];by_cases h:i<0
      · simp only [h,if_true] <;> omega
      · simp only [h,if_false] <;> omega
  · cases hi with
    | none=>simp [sliceBounds,HT.sIx]
    | some i=>
      simp only [sliceBounds,HT.sIx,Option.getD_none,show (1:Int)>0 by decide,if_true];by_cases h:i<0
      · simp only [h,if_true] <;> omega
      · simp only [h,if_false] <;> omega
theorem HP (its:List Value) (lo hi:Option Int):slicePick its.toArray lo hi none=((its.drop (HT.sIx its.length 0 lo)).take (HT.sIx its.length its.length hi - HT.sIx its.length 0 lo)).toArray:=by
  obtain ⟨h1,h2,h3⟩:=Jz lo hi its.toArray.size;unfold slicePick;rw [h1,h2,h3];simp only [sliceRange_one,pick_run,List.size_toArray] <;> rfl
def TV (K:PySem.W.Frag):V->Option Int->Option Int->Hp->VK->Prop:=λ x lo hi H Q=>∃ a xs,x= .ref a/\SqL K H a xs/\∀ p,H p=none->Q (.ref p) (upd H p (.lst (Jd xs lo hi)))
theorem QM:SlR X (TV X.K):=by
  intro pins s σ H x v vl vu lo hi sl Q I rx hs pl pu h;obtain ⟨a,xs,rfl,hx,q⟩:=h;cases rx;obtain ⟨its,r,ht,hz⟩:=I.list hx;have hlen:=r.length;refine ⟨"list",_,slot_list_getitem.lookup,ht.isList.typeIs,?_⟩;refine wpAny_getItem_list_slice ht.isList hs pl pu .none (by simp) ?_ (by rw [List.size_toArray] <;> omega);rw [HP, <-hlen];refine ⟨.ref s.heap.objs.size,_,I.laid (t':=s.toks) (o:= .lst (Jd xs lo hi)) (λ b ob q=>Heap.get?_push_of_some _ q) (Nat.le_refl _) ?_,rfl,q _ (I.hok.fresh (Nat.le_refl _))⟩;exact ⟨Nat.le_trans (Ku xs lo hi) hz,_,0,(r.drop (HT.sIx xs.length 0 lo)).take (HT.sIx xs.length xs.length hi - HT.sIx xs.length 0 lo),Heap.get?_push_size _ rfl⟩
def A0:V->Bool
  | .non=>true
  | .bl _=>true
  | .int _=>true
  | .str _=>true
  | _=>false
def eqV:V->V->Bool
  | .non, .non=>true
  | .bl a, .bl b=>a == b
  | .bl a, .int b=>(if a then 1 else 0) == b
  | .int a, .bl b=>a == (if b then 1 else 0)
  | .int a, .int b=>a == b
  | .str a, .str b=>a == b
  | _,_=>false
theorem OD {A:Around} {s:Shared} {y x:V} {u v:Value} (ry:RelV y u) (rx:RelV x v) (fy:A0 y=true) (fx:A0 x=true):SeqAt.EqAt A s u v (eqV y x):=by
  cases y with
  | non=>
    cases ry;cases x with
    | non=>cases rx;exact SeqAt.EqAt.same _
    | bl b=>cases rx;exact SeqAt.EqAt.none_bool b
    | int b=>obtain ⟨t,rfl⟩:=rx;exact SeqAt.EqAt.none_int b t
    | str b=>obtain ⟨t,rfl⟩:=rx;exact SeqAt.EqAt.none_str b t
    | _=>exact absurd (show false=true from fx) Bool.false_ne_true
  | bl a=>
    cases ry;cases x with
    | non=>cases rx;exact SeqAt.EqAt.bool_none a
    | bl b=>cases rx;exact SeqAt.EqAt.bool_bool a b
    | int b=>obtain ⟨t,rfl⟩:=rx;exact SeqAt.EqAt.bool_int a b t
    | str b=>obtain ⟨t,rfl⟩:=rx;exact SeqAt.EqAt.bool_str a b t
    | _=>exact absurd (show false=true from fx) Bool.false_ne_true
  | int a=>
    obtain ⟨t',rfl⟩:=ry;cases x with
    | non=>cases rx;exact SeqAt.EqAt.int_none a t'
    | bl b=>cases rx;exact SeqAt.EqAt.int_bool a t' b
    | int b=>obtain ⟨t,rfl⟩:=rx;exact SeqAt.EqAt.int_int a t' b t
    | str b=>obtain ⟨t,rfl⟩:=rx;exact SeqAt.EqAt.int_str a t' b t
    | _=>exact absurd (show false=true from fx) Bool.false_ne_true
  | str a=>
    obtain ⟨t',rfl⟩:=ry;cases x with
    | non=>cases rx;exact SeqAt.EqAt.str_none a t'
    | bl b=>cases rx;exact SeqAt.EqAt.str_bool a t' b
    | int b=>obtain ⟨t,rfl⟩:=rx;exact SeqAt.EqAt.str_int a t' b t
    | str b=>obtain ⟨t,rfl⟩:=rx;exact SeqAt.EqAt.str_str a t' b t
    | _=>exact absurd (show false=true from fx) Bool.false_ne_true
  | _=>exact absurd (show false=true from fy) Bool.false_ne_true
def eqU (x:V) (u:Value):Bool:=match u with
  | .none=>eqV .non x
  | .bool b=>eqV (.bl b) x
  | .int i _=>eqV (.int i) x
  | .str z _=>eqV (.str z) x
  | _=>false
theorem LP {x y:V} {u:Value} (r:RelV y u) (f:A0 y=true):eqU x u=eqV y x:=by
  cases y with
  | non=>cases r;rfl
  | bl b=>cases r;rfl
  | int i=>obtain ⟨t,rfl⟩:=r;rfl
  | str z=>obtain ⟨t,rfl⟩:=r;rfl
  | _=>exact absurd (show false=true from f) Bool.false_ne_true
theorem Jt {x:V}:∀ {xs:List V} {us:List Value},Vals xs us->xs.all A0=true->us.any (eqU x)=xs.any λ y=>eqV y x
  | _,_, .nil,_=>rfl
  | y::xs,u::us, .cons r t,f=>by
    rw [List.all_cons,Bool.and_eq_true] at f;rw [List.any_cons,List.any_cons,LP r f.1,Jt t f.2]
theorem E5 {A:Around} {s:Shared} {x:V} {v:Value} (rx:RelV x v) (fx:A0 x=true):∀ {xs:List V} {us:List Value},Vals xs us->xs.all A0=true->∀ u∈us,SeqAt.EqAt A s u v (eqU x u)
  | _,_, .nil,_=>λ u hu=>by cases hu
  | y::xs,u::us, .cons r t,f=>λ u' hu=>by
    rw [List.all_cons,Bool.and_eq_true] at f;rcases List.mem_cons.mp hu with rfl | hu
    · rw [LP r f.1];exact OD r rx f.1 fx
    · exact E5 rx fx t f.2 u' hu
def inV (x:V) (xs:List V):Bool:=xs.any λ y=>eqV y x
def rIn (K:PySem.W.Frag) (neg:Bool):R2:=λ x y H Q=>∃ p xs,y= .ref p/\(SqL K H p xs\/SqT K H p xs)/\A0 x=true/\xs.all A0=true/\Q (.bl (if neg then !inV x xs else inV x xs)) H
theorem Nt:OpR X (compareOp .In) (rIn X.K false):=by
  intro pins s σ H x y v u Q I rx ry h;obtain ⟨p,xs,rfl,hq,fx,fs,q⟩:=h;cases ry;rcases hq with hq | hq
  · obtain ⟨its,r,pl,hz⟩:=I.list hq;refine SeqAt.in_listAt (eqU x) pl.isList (λ w hw=>E5 rx fx r fs w (by simpa using hw)) ⟨.bl _,H,I,rfl,?_⟩;rw [show its.toArray.any (eqU x)=its.any (eqU x) by simp,Jt r fs];exact q
  · obtain ⟨its,r,pl,hz⟩:=I.tuple hq;refine SeqAt.in_tupleAt (eqU x) pl (λ w hw=>E5 rx fx r fs w (by simpa using hw)) ⟨.bl _,H,I,rfl,?_⟩;rw [show its.toArray.any (eqU x)=its.any (eqU x) by simp,Jt r fs];exact q
theorem JN:AU X (.type "list") (λ xs H Q=>∃ p ys,xs=[.ref p]/\(SqL X.K H p ys\/SqT X.K H p ys)/\∀ l,H l=none->Q (.ref l) (upd H l (.lst ys))):=by
  intro pins s σ H xs us Q I r h;obtain ⟨p,ys,rfl,hq,q⟩:=h;obtain ⟨u,rfl,rx⟩:=Cg r;cases rx;have fin:∀ (its:List Value),Vals ys its->ys.length<=sizeLine->∀ (h':Heap) (c':Nat),(∀ b o',s.heap.get? b=some o'->h'.get? b=some o')->
      h'.get? s.heap.objs.size=some { cls:= .type "list",dict:=none,data:= .seq its.toArray c',slots:= #[] }->EP X pins σ Q (.ref s.heap.objs.size) { s with heap:=h' }:=λ its r' hz h' c' kp e=>
    ⟨.ref s.heap.objs.size,_,I.laid (t':=s.toks) kp (Nat.le_refl _) (show ObjOk X.prog X.w _ h' _ (.lst ys) from ⟨hz,its,c',r',e⟩),rfl,q _ (I.hok.fresh (Nat.le_refl _))⟩
  rcases hq with hq | hq
  · obtain ⟨its,r',pl,hz⟩:=I.list hq;have hlen:=r'.length;obtain ⟨o,ho,hc,n,hd⟩:=pl.isList;exact call_list_seq p (.inl rfl) ho hc hd (λ h' c' kp e=>fin its r' hz h' c' kp e) (by simp only [List.size_toArray] <;> omega)
  · obtain ⟨its,r',pl,hz⟩:=I.tuple hq;have hlen:=r'.length;obtain ⟨o,ho,hc,n,hd⟩:=pl;exact call_list_seq p (.inr rfl) ho hc hd (λ h' c' kp e=>fin its r' hz h' c' kp e) (by simp only [List.size_toArray] <;> omega)
theorem Ik:AU X (.type "tuple") (λ xs H Q=>∃ p ys,xs=[.ref p]/\((SqL X.K H p ys/\∀ l,H l=none->Q (.ref l) (upd H l (.tup ys)))\/(SqT X.K H p ys/\Q (.ref p) H))):=by
  intro pins s σ H xs us Q I r h;obtain ⟨p,ys,rfl,h⟩:=h;obtain ⟨u,rfl,rx⟩:=Cg r;cases rx;rcases h with ⟨hq,q⟩ | ⟨hq,q⟩
  · obtain ⟨its,r',pl,hz⟩:=I.list hq;have hlen:=r'.length;refine call_tuple_list pl.isList (λ h' kp=> ?_) (by simp only [List.size_toArray] <;> omega);have I1:Inv X pins σ H { s with heap:=h' }:=I.kept (t':=s.toks) kp;have I2:Inv X pins σ (upd H h'.objs.size (.tup ys)) { s with heap:=h'.push { cls:= .type "tuple",data:= .seq its.toArray } }:=
      I1.laid (t':=s.toks) (λ b o e=>Heap.get?_push_of_some _ e) (Nat.le_refl _) (show ObjOk X.prog X.w _ _ _ (.tup ys) from ⟨hz,its,r',IsTup.new _ _⟩)
    exact ⟨.ref h'.objs.size,_,I2,rfl,q _ (I1.hok.fresh (Nat.le_refl _))⟩
  · obtain ⟨its,r',pl,hz⟩:=I.tuple hq;exact call_tuple_same pl ⟨.ref p,H,I,rfl,q⟩
def tyV (K:PySem.W.Frag) (T:String) (x:V) (H:Hp):Prop:=match x with
  | .str _=>T="str"
  | .int _=>T="int"
  | .ref p=>(T="list"/\∃ xs,SqL K H p xs)\/(T="tuple"/\∃ o,K.lookup p=some o/\o.cls= .type "tuple"/\o.dict=none)\/
      (T="dict"/\((∃ kvs,H p=some (.dK kvs))\/∃ kvs,H p=some (.dT kvs)))\/(T="set"/\∃ S n,H p=some (.set S n))
  | _=>False
theorem O3 {pins:List (Addr × Obj)} {σ:St} {H:Hp} {s:Shared} {T:String} {x:V} {v:Value} (I:Inv X pins σ H s) (r:RelV x v) (ty:tyV X.K T x H):
    s.TypeIs v T/\∀ a,v= .ref a->∃ ob,s.heap.get? a=some ob/\ob.dict=none:=by
  cases x with
  | str z=>
    obtain ⟨t,rfl⟩:=r;cases (show T="str" from ty);exact ⟨typeIs_str s z t,λ _ e=>nomatch e⟩
  | int i=>
    obtain ⟨t,rfl⟩:=r;cases (show T="int" from ty);exact ⟨typeIs_int s i t,λ _ e=>nomatch e⟩
  | ref p=>
    cases r;rcases ty with ⟨rfl,xs,hq⟩ | ⟨rfl,o,hk,hc,hd⟩ | ⟨rfl,hk⟩ | ⟨rfl,S,n,hk⟩
    · obtain ⟨its,_,pl,_⟩:=I.list hq;refine ⟨pl.isList.typeIs,λ a e=> ?_⟩;cases e;obtain ⟨o,n,e,c,hd,_⟩:=pl;exact ⟨o,e,hd⟩
    · refine ⟨⟨o,I.kIn p o hk,hc⟩,λ a e=> ?_⟩;cases e;exact ⟨o,I.kIn _ o hk,hd⟩
    · have z:∃ o,s.heap.get? p=some o/\o.ExactDict:=by
        rcases hk with ⟨kvs,hk⟩ | ⟨kvs,hk⟩
        · obtain ⟨_,_,_,_,o,_,_,e,ex,_⟩:=I.hok p _ hk;exact ⟨o,e,ex⟩
        · obtain ⟨_,_,_,_,o,_,_,e,ex,_⟩:=I.hok p _ hk;exact ⟨o,e,ex⟩
      obtain ⟨o,e,ex⟩:=z;refine ⟨⟨o,e,ex.1⟩,λ a e2=> ?_⟩;cases e2;exact ⟨o,e,ex.2.1⟩
    · obtain ⟨o,_,_,_,e,ex,_⟩:=I.hok p _ hk;refine ⟨⟨o,e,ex.1⟩,λ a e2=> ?_⟩;cases e2;exact ⟨o,e,ex.2.1⟩
  | _=>exact False.elim ty
def S3 (K:PySem.W.Frag) (T:String) (r:V->List V->Hp->VK->Prop) (to:TE):TE:=λ σ H Q=>to σ H λ x H1=>tyV K T x H1/\r x [] H1 Q
def tBM (K:PySem.W.Frag) (T:String) (r:V->List V->Hp->VK->Prop) (to:TE) (t:TA):TE:=λ σ H Q=>to σ H λ x H1=>tyV K T x H1/\t σ H1 λ xs H2=>r x xs H2 Q
variable {o e:Expr} {es:List Expr} {to:TE} {t:TA} {name:Str} {apos cpos:Pos} {T id:String} {r:V->List V->Hp->VK->Prop}
theorem S5 (pa:PlainAttrs T) (slot:Slot T name id) (hty:typeOf (.builtin id)=pure (.type "method_descriptor")) (hm:MtR X id r) (ho:PE X o to)
    (hbase:attributeBase o name X.env (eval o X.env)=eval o X.env:=by rfl) (hline:(apos.endLine == cpos.line)=true:=by rfl):PE X (.Call (.Attribute o name apos) [] [] cpos) (S3 X.K T r to):=by
  intro pins s σ H Q I h;refine wpAny_Call_method0_late hbase hline (thn (ho pins s σ H _ I h) λ v s1 ⟨x,H1,I1,r1,ty,q1⟩=> ?_);obtain ⟨h1,h2⟩:=O3 I1 r1 ty;exact ⟨T,id,pa,slot,hty,h1,h2,Calls.callWith_builtin rfl (PySem.evalArgs_none (hm pins s1 σ H1 x [] v [] Q I1 r1 .nil q1))⟩
theorem Wx (pa:PlainAttrs T) (slot:Slot T name id) (hty:typeOf (.builtin id)=pure (.type "method_descriptor")) (hm:MtR X id r) (ho:PE X o to) (ha:PA X (e::es) t)
    (hbase:attributeBase o name X.env (eval o X.env)=eval o X.env:=by rfl)
    (hfew:((backTo cpos (starEach (e::es) X.env)).all (λ x=> !x.1)&&(backToKw cpos (keywordEach [] X.env)).all (λ x=>x.1.isSome)
      && decide ((e::es).length+([]:List Keyword).length+(if ([]:List Keyword).isEmpty then 0 else 1)<30))=true:=by rfl)
    (hline:(apos.endLine == cpos.line)=true:=by rfl) (hs:starEach (e::es) X.env=(false,eval e X.env)::starEach es X.env:=by rfl) (hplain:(backTo cpos (starEach es X.env)).any (·.1)=false:=by rfl):
    PE X (.Call (.Attribute o name apos) (e::es) [] cpos) (tBM X.K T r to t):=by
  intro pins s σ H Q I h;refine wpAny_Call_method_late hbase hfew hline rfl (thn (ho pins s σ H _ I h) λ v s1 ⟨x,H1,I1,r1,ty,q1⟩=> ?_);obtain ⟨h1,h2⟩:=O3 I1 r1 ty;refine ⟨T,id,pa,slot,hty,h1,h2,?_⟩;have hA:=ha cpos pins s1 σ H1 _ I1 q1;rw [hs] at hA ⊢;refine Calls.callWith_builtin (by show (false||(backTo cpos (starEach es X.env)).any (·.1))=false;rw [hplain] <;> rfl) (Calls.evalArgs_plain ?_);exact thn hA λ us s2 ⟨vs,H2,I2,r2,q2⟩=>hm pins s2 σ H2 x vs v us Q I2 r1 r2 q2
end
def MtM (X:Cx) (id:String) (r:V->List V->Hp->VK->Prop):Prop:=
  ∀ (pins:List (Addr × Obj)) (s:Shared) (σ:St) (H:Hp) (x:V) (xs:List V) (v:Value) (us:List Value) (Q:VK),Inv X pins σ H s->RelV x v->Vals xs us->r x xs H Q->
    wpAny (model X.prog X.w) X.A (call (.builtin id) (v::us)) (EP X pins σ Q) X.xe s
theorem Vals.one:∀ {x:V} {us:List Value},Vals [x] us->∃ u,us=[u]/\RelV x u
  | _,_, .cons r .nil=>⟨_,rfl,r⟩
theorem Vals.zero:∀ {us:List Value},Vals [] us->us=[]
  | _, .nil=>rfl
theorem Vals.rep {xs:List V} {us:List Value} (h:Vals xs us):∀ k:Nat,Vals (List.replicate k xs).flatten (List.replicate k us).flatten
  | 0=> .nil
  | k+1=>by
    rw [List.replicate_succ,List.replicate_succ,List.flatten_cons,List.flatten_cons];exact Vals.append h (Vals.rep h k)
theorem IR (its:List Value):∀ (k:Nat) (acc:List Value),
    List.foldl (λ x1 x2=>x1++x2) acc.toArray (List.replicate k its.toArray)=(acc++(List.replicate k its).flatten).toArray
  | 0,acc=>by simp
  | k+1,acc=>by
    have e:acc.toArray++its.toArray=(acc++its).toArray:=by simp
    have e2:(acc++its)++(List.replicate k its).flatten=acc++(List.replicate (k+1) its).flatten:=by
      rw [List.replicate_succ,List.flatten_cons,List.append_assoc]
    rw [<-e2, <-IR its k (acc++its), <-e,List.replicate_succ,List.foldl_cons]
section
variable {X:Cx} {pins:List (Addr × Obj)} {σ:St} {H:Hp} {s:Shared} {l b:Addr} {xs ys zs:List V}
theorem Inv.lset {its its':List Value} {n:Nat} {f:Array Value->Array Value} {t':Nat} (I:Inv X pins σ H s) (hH:H l=some (.lst xs))
    (e:s.heap.get? l=some { cls:= .type "list",data:= .seq its.toArray n }) (hf:f its.toArray=its'.toArray) (hv:Vals ys its') (hz:ys.length<=sizeLine):
    Inv X pins σ (upd H l (.lst ys)) { s with heap:=s.heap.update l (Obj.mapSeq f),toks:=t' }:=by
  have q:=PySem.IsL.update e f;rw [hf] at q;refine I.write (x:=l) (e:=l) (by rw [hH];exact trivial) (.inl rfl) (λ b' u hb hu=>(Heap.get?_update_other s.heap (Obj.mapSeq f) (Ne.symm hb)).trans hu) ⟨_,q⟩ ?_;exact ⟨hz,its',_,hv,q⟩
theorem Inv.lnew {its:List Value} {t':Nat} (I:Inv X pins σ H s) (hv:Vals ys its) (hz:ys.length<=sizeLine):
    Inv X pins σ (upd H s.heap.objs.size (.lst ys)) { s with heap:=s.heap.push { cls:= .type "list",data:= .seq its.toArray },toks:=t' }:=
  I.laid (λ _ _ q=>Heap.get?_push_of_some _ q) (Nat.le_refl _) ⟨hz,its,0,hv,Heap.get?_push_size _ rfl⟩
theorem Inv.fresh (I:Inv X pins σ H s):H s.heap.objs.size=none:=I.hok.fresh (Nat.le_refl _)
theorem Inv.lstM (I:Inv X pins σ H s) (hH:H l=some (.lst xs)):xs.length<=sizeLine/\∃ (its:List Value) (n:Nat),Vals xs its/\xs.length=its.length/\s.heap.get? l=some { cls:= .type "list",data:= .seq its.toArray n }:=by
  obtain ⟨z,its,n,r,e⟩:=I.hok l _ hH;exact ⟨z,its,n,r,r.length,e⟩
theorem Pp {n:Nat} (h:n<=sizeLine):Builtin.List.listTooLong n=false:=by
  unfold Builtin.List.listTooLong;exact decide_eq_false (by omega)
end
section
variable {X:Cx}
def rAppend:V->List V->Hp->VK->Prop:=λ x vs H Q=>∃ l xs y,x= .ref l/\vs=[y]/\H l=some (.lst xs)/\xs.length<sizeLine/\Q .non (upd H l (.lst (xs++[y])))
theorem DY:MtM X "list.append" rAppend:=by
  intro pins s σ H x vs v us Q I rx rv h;obtain ⟨l,xs,y,rfl,rfl,hH,hz,q⟩:=h;cases rx;obtain ⟨u,rfl,ru⟩:=rv.one;obtain ⟨z,its,n,r,hl,e⟩:=I.lstM hH;refine call_meets F.slot_list_append ⟨_,e,rfl⟩ F.entry_list_append (F.args_list_append_2 _ _) (PySem.list_append l its.toArray n u (by rw [List.size_toArray];omega)) ⟨e,?_⟩;refine ⟨.non,_,I.lset (its':=its++[u]) hH e (by simp) (r.append (.cons ru .nil)) ?_,rfl,q⟩;rw [List.length_append,List.length_singleton];omega
def Vo:R2:=λ x y H Q=>∃ l k xs,x= .ref l/\y= .int k/\H l=some (.lst xs)/\ -(2 ^ 63)<=k/\k<2 ^ 63/\xs.length*k.toNat<=sizeLine/\
  ∀ p,H p=none->Q (.ref p) (upd H p (.lst (List.replicate k.toNat xs).flatten))
theorem Ry {α:Type} (xs:List α) (k:Nat):(List.replicate k xs).flatten.length=k*xs.length:=by
  induction k with
  | zero=>simp
  | succ k ih=>rw [List.replicate_succ,List.flatten_cons,List.length_append,ih,Nat.succ_mul,Nat.add_comm]
theorem EO:OpR X (binaryOp .Mult) Vo:=by
  intro pins s σ H x y v u Q I rx ry h;obtain ⟨l,k,xs,rfl,rfl,hH,h1,h2,hz,q⟩:=h;cases rx;obtain ⟨t,rfl⟩:=ry;obtain ⟨z,its,n,r,hl,e⟩:=I.lstM hH;have hlen:its.toArray.size*k.toNat<=sizeLine:=by rw [List.size_toArray, <-hl];exact hz
  have hcap:¬ its.toArray.size*k.toNat>(2 ^ 63 - 1) / 8:=by
    have:(sizeLine:Nat)<=(2 ^ 63 - 1) / 8:=by decide
    omega
  have hfit:¬ (!Builtin.List.listFitsIndex k)=true:=by
    rw [fitsIndex_both h1 h2];exact Bool.false_ne_true
  have hlong:¬ Builtin.List.listTooLong (its.toArray.size*k.toNat)=true:=by
    rw [Pp hlen];exact Bool.false_ne_true
  have hnew:List.foldl (λ x1 x2=>x1++x2) #[] (List.replicate (if its.toArray.isEmpty=true then 0 else k.toNat) its.toArray)=(List.replicate k.toNat its).flatten.toArray:=by
    have f0:∀ m:Nat,List.foldl (λ x1 x2=>x1++x2) #[] (List.replicate m its.toArray)=(List.replicate m its).flatten.toArray:=λ m=>by
      have:=IR its m [];rw [List.nil_append] at this;exact this
    rw [f0];cases its with
    | nil=>simp
    | cons a r'=>rw [if_neg (by simp)]
  refine wpAny_binaryOp_repeat_ref (T:="list") (U:="int") (by decide) ⟨_,e,rfl⟩ (λ s'=>typeIs_int s' k t) noFill_list_mul F.fills_int_mul F.slot_int_rmul repeat_list F.slot_int_index.lookup
    (call_meets F.slot_int_rmul (typeIs_int s k t) F.entry_int_rmul (F.args_int_rmul_2 _ _) (int___rmul___int_list k t l its.toArray n)
      ⟨e,rfl,⟨_,e,rfl⟩,call_meets F.slot_list_mul ⟨_,e,rfl⟩ F.entry_list_mul (F.args_list_mul_2 _ _) (AutoListH.list___mul___list_int_3 l its.toArray n k t hfit hcap hlong) ⟨e,?_⟩⟩)
  rw [hnew];exact ⟨.ref _,_,I.lnew (t':=s.toks) (r.rep k.toNat) (by rw [Ry,Nat.mul_comm];exact hz),rfl,q _ I.fresh⟩
end
section
variable {prog:Program} {w:World} {A:Around} {E:Value->Shared->Prop} {s:Shared}
end
section
variable {X:Cx}
end
end L2
namespace Att
open PySem PySem.W PySem.Calls PyProof.Rows
theorem Gk {P:Params} {h:Heap}:∀ (ns:List Int) (vs:List Value),WellAll P h vs (ns.map WData.int)->IntsAre vs ns:=by
  intro ns
  induction ns with
  | nil=>
    intro vs w;rw [List.map_nil] at w;cases w;exact .nil
  | cons n ns ih=>
    intro vs w;rw [List.map_cons] at w;cases w with
    | cons a b=>
      cases a;exact .cons _ _ (ih _ b)
theorem MW {l:OpenLaw} {n:Nat} (hn:l.most=some n) {P:Params} {h:Heap} {args:List WData} {vals:List Value}
    (hpre:l.row.toRowW.claim.pre args=true) (hwl:WellAll P h vals args):
    ∃ a vs ns,vals=[Value.ref a]/\args=[WData.list (ns.map WData.int)]/\h.get? a=some { cls:= .type "list",data:= .seq vs.toArray }/\IntsAre vs ns/\ns.length<=n:=by
  have hsh:WShape.hasAll [] args [.list .int]=true:=(pre_splitW hpre).1;have hc:l.pre.holds [] { args:=args }=true:=(pre_splitW hpre).2;obtain ⟨d,r,rfl,h1,h2⟩:=hasAllW_cons hsh;obtain rfl:=hasAllW_nil h2;obtain ⟨xs,rfl,h3⟩:=hasW_list h1;obtain ⟨ns,rfl⟩:=items_int h3;have hlen:ns.length<=n:=by
    unfold OpenLaw.pre at hc;have h4:(WTm.not (.lt (.lit (.int (n:Int))) (.len (.arg 0)))).holds [] { args:=[.list (ns.map .int)] }=true:=by
      have h4:=(holds_andW hc).1;rw [hn] at h4;exact h4
    have h5:=condW_of h4 (w_not (w_lt w_lit (w_len_list (w_arg rfl))));rw [List.length_map] at h5;refine Nat.le_of_not_lt λ q=> ?_;have q':(n:Int)<((ns.length:Nat):Int):=by omega
    first
      | (rw [decide_eq_true q'] at h5;exact absurd h5 (by decide))
      | (simp at h5;omega)
  cases hwl with
  | cons w1 w2=>
    cases w2;cases w1 with
    | list ho hall=>exact ⟨_,_,ns,rfl,rfl,ho,Gk ns _ hall,hlen⟩
theorem Ni (l:OpenLaw) (args:List WData):l.row.toRowW.claim.post args (.bool true) args=true:=
  postW_of (r:=l.row.toRowW) (X:=(true == true))
    (show WShape.has [] (.bool true) .bool=true by first | rfl | decide | simp [WShape.has,WShape.arms,WShape.armsAll])
    (show (WTm.eq .res (.lit (.bool true))).value [] { args:=args,res:=some (.bool true),after:=args }=some (.bool (true == true)) from w_eq_bool (w_res rfl) w_lit) rfl
theorem attach_call {l:OpenLaw} {n:Nat} {q:Program} {loose:List Str} {XP:(Str->Option Value)->Heap->Prop} {YP:World->Heap->Prop} {d:DefRec}
    (hn:l.most=some n) (hdf:d.params.defaults=[])
    (call:∀ (w:World) (s₀ s₁:Shared) (mg mb:Str->Option Value) (fa:Addr) (o:Obj) (pm cd doc:Value) (a:Addr) (vs:List Value) (ns:List Int),
      Ground q loose [] XP w s₀ mg mb s₁.heap->YP w s₁.heap->
      s₁.heap.get? fa=some o->o.data= .func (docDef d.name d.params d.body d.scope pm cd doc)->s₁.heap.CodeRec cd d.name->mg d.name=some (.ref fa)->
      s₁.heap.get? a=some { cls:= .type "list",data:= .seq vs.toArray }->IntsAre vs ns->ns.length<=n->s₁.gens= #[]->
      codeAny (model l.prog w) callerA (.call (.ref fa) ⟨[.ref a],[]⟩) (λ r s'=>r= .ok (.ret (.bool true))/\OldK s₁.heap s'.heap/\s'.os=s₁.os/\AllBare s'.gens) s₁):
    WalkO q loose XP YP l.row.toRowW d [] (λ f vs=>PySem.call f vs):=by
  intro w s₀ s₁ mg mb G Y fa o pm cd doc dV kV ho hd hcd hD hmg hg args vals as hpre hlay hrd hwl hlo;obtain rfl:dV= .none:=Dflts.none hD hdf;obtain rfl:kV= .none:=Dflts.noKw hD;obtain ⟨a,vs,ns,rfl,rfl,hobj,hints,hlen⟩:=MW hn hpre hwl;refine enter_call (codeAny_mono (call w s₀ s₁ mg mb fa o pm cd doc a vs ns G Y ho (fd_plain hd) hcd hmg hobj hints hlen hg) λ r s' hq=> ?_);obtain ⟨rfl,h2,h3,h4⟩:=hq;exact ⟨.inl ⟨.bool true, .bool true,[],rfl,λ _=>rfl, .bool true,Ni l _,λ _=>⟨List.Pairwise.nil,λ _ hm=>(nomatch hm)⟩⟩,h2,h3,h4⟩
section
variable {prog:Program} {w:World} {A:Around} {E:Value->Shared->Prop} {s:Shared} {K:Frag}
end
end Att
namespace L2
open PySem PySem.Spec PyProof.Rows
theorem Iw:∀ {vs:List Value} {ns:List Int},IntsAre vs ns->Vals (ns.map V.int) vs
  | _,_, .nil=> .nil
  | _,_, .cons n t h=> .cons ⟨t,rfl⟩ (Iw h)
def TD (H:Hp):Prop:=∀ b,H b=none\/∃ o xs,H b=some (.frz o (.lst xs))
theorem Pr {P:Program} {w:World} {K:PySem.W.Frag} {mg mb:Str->Option Value} {CX:CXT} {k:Nat} {fa a:Addr} {fd:FuncData} {x:Str} {sp:Sp} {s₁:Shared} {vs:List Value} {ns:List Int}
    (KX:K.In s₁.heap) (hns:s₁.heap.Ns mainGlobals mg) (hb:s₁.heap.Ns builtinsNs mb) (hbb:∀ x:Str,x≠"__name__"->mb x=bootBuiltins x) (hlim:s₁.heap.NoLimit) (hg:s₁.gens= #[])
    (ha:s₁.heap.get? a=some { cls:= .type "list",data:= .seq vs.toArray }) (hi:IntsAre vs ns) (hl:ns.length<=sizeLine) (hr:Room k callerA)
    (F:∀ base:Heap,K.In base->base.Ns mainGlobals mg->FnOk P w K mg base CX k fa fd [x] sp) (hbind:∀ (s:Shared) (u:Value),BindsTo s fd ⟨[u],[]⟩ [(x,u)])
    (hsp:∀ H:Hp,TD H->SqL K H a (ns.map V.int)->sp [.ref a] H (λ v _=>v= .bl true) λ _ _ _=>False)
    (hCX:∀ H e s',CX [] H s₁ (λ _ _ _=>False) e s'->False):
    codeAny (model P w) callerA (.call (.ref fa) ⟨[.ref a],[]⟩) (λ r s'=>r= .ok (.ret (.bool true))/\OldK s₁.heap s'.heap/\s'.os=s₁.os/\AllBare s'.gens) s₁:=by
  have rv:=Iw hi;have lenV:=hi.length;have core:∀ H:Hp,TD H->SqL K H a (ns.map V.int)->HOk P w H s₁.heap->(∀ b,H b≠none->b=a)->(H a≠none->K.lookup a=none)->
      codeAny (model P w) callerA (.call (.ref fa) ⟨[.ref a],[]⟩) (λ r s'=>r= .ok (.ret (.bool true))/\OldK s₁.heap s'.heap/\s'.os=s₁.os/\AllBare s'.gens) s₁:=by
    intro H hO hS hok hA hK;have Fo:∀ {b:Addr} {o:Obj},s₁.heap.get? b=some o->H b=none->(Js s₁.heap H).get? b=some o:=λ e n=>P9 e n;have noA:∀ {b:Addr} {o:Obj} {es:Array DictEntry} {ep:Nat},s₁.heap.get? b=some o->o.data= .dict es ep->H b=none:=λ {b o es ep} e d=>by
      cases q:H b with
      | none=>rfl
      | some u=>
        have e':b=a:=hA b (by rw [q];simp);subst e';rw [ha] at e;cases e;have d':Data.seq vs.toArray _=Data.dict es ep:=d;cases d'
    have nsK:∀ {b:Addr} {m:Str->Option Value},s₁.heap.Ns b m->(Js s₁.heap H).Ns b m:=λ {b m} ⟨o,es,ep,e,d,r⟩=>⟨o,es,ep,Fo e (noA e d),d,r⟩;have hKb:K.In (Js s₁.heap H):=λ b o e=>Fo (KX b o e) (by
      cases q:H b with
      | none=>rfl
      | some u=>
        have e':b=a:=hA b (by rw [q];simp);subst e';rw [hK (by rw [q];simp)] at e;cases e)
    have hM:Mod K mg (Js s₁.heap H):=⟨hKb,nsK hns,⟨mb,nsK hb,hbb⟩,let ⟨mc,h1,h2⟩:=hlim;⟨mc,nsK h1,h2⟩⟩;have e0:Env0 P w K mg (Js s₁.heap H) callerA [] s₁ H:=⟨rfl,hM,λ b o e=>Rq e,Nat.le_of_eq (M9 _ _),trivial,λ b hb=>absurd (show b∈([]:List Addr) from hb) (by simp),hok, .of_eq hg⟩;refine codeAny_mono ((F _ hKb (nsK hns)).run callerA [] s₁ H ⟨[.ref a],[]⟩ [.ref a] [.ref a] _ _ hr e0 (hbind s₁ (.ref a)) (.cons rfl .nil) (hsp H hO hS)) λ r s' h=> ?_;cases r with
    | error e=>exact (hCX H e s' h).elim
    | ok fl=>
      cases fl with
      | next=>exact False.elim h
      | brk=>exact False.elim h
      | cont=>exact False.elim h
      | ret u=>
        obtain ⟨v,H',os,bare,un,hok',r',q⟩:=h;have q':v= .bl true:=q;subst q';obtain rfl:u=Value.bool true:=r';refine ⟨rfl,OldK.of_keep λ b o e=> ?_,os,bare⟩;cases q:H b with
        | none=>exact un.keep b o e q (by intro z;exact absurd (show b∈([]:List Addr) from z) (by simp)) (by simp)
        | some u=>
          rcases hO b with z | ⟨ob,xs,z⟩
          · rw [q] at z;cases z
          · have z2:=un.frzs b ob _ z;obtain ⟨e1,_⟩:=hok b _ z;obtain ⟨e2,_⟩:=hok' b _ z2;rw [e] at e1;cases e1;exact e2
  cases hk:K.lookup a with
  | some o=>
    have e:=KX a o hk;rw [ha] at e;cases e;refine core (λ _=>none) (λ _=> .inl rfl) (.inr ⟨_,vs.toArray,_,hk,rfl,rfl,rfl,by rw [List.size_toArray,lenV];exact hl,by simpa using rv⟩) (λ b u z=>by have z':(none:Option HO)=some u:=z;cases z') (λ b z=>absurd rfl z) λ z=>absurd rfl z
  | none=>
    refine core (λ b=>if b=a then some (.frz { cls:= .type "list",data:= .seq vs.toArray } (.lst (ns.map V.int))) else none) (λ b=> ?_) (.inl (.inr ⟨{ cls:= .type "list",data:= .seq vs.toArray },if_pos rfl⟩)) (λ b u z=> ?_) (λ b z=> ?_) λ _=>hk
    · by_cases hb:b=a
      · exact .inr ⟨_,_,if_pos hb⟩
      · exact .inl (if_neg hb)
    · by_cases hb:b=a
      · have z':=(if_pos hb).symm.trans z;cases z';subst hb;exact ⟨ha,by rw [List.length_map];exact hl,vs,_,rv,ha⟩
      · have z':=(if_neg hb).symm.trans z;cases z'
    · by_cases hb:b=a
      · exact hb
      · exact absurd (if_neg hb) z
theorem walk_of {l:PySem.W.OpenLaw} {n k:Nat} {q:Program} {loose:List Str} {XP:(Str->Option Value)->Heap->Prop} {YP:World->Heap->Prop} {d:DefRec} {K:Params->PySem.W.Frag} {CX:World->CXT} {sp:World->Sp} {x:Str}
    (hn:l.most=some n) (hn2:n<=sizeLine) (hdf:d.params.defaults=[]) (hr:Room k callerA)
    (hY:∀ (w:World) (h:Heap),YP w h->(K w.params).In h)
    (F:∀ (w:World) (mg:Str->Option Value) (fa:Addr) (h:Heap),(K w.params).In h->h.Ns mainGlobals mg->mg d.name=some (.ref fa)->
      ∃ fd:FuncData,(∀ (s:Shared) (u:Value),BindsTo s fd ⟨[u],[]⟩ [(x,u)])/\
        ∀ base:Heap,(K w.params).In base->base.Ns mainGlobals mg->FnOk l.prog w (K w.params) mg base (CX w) k fa fd [x] (sp w))
    (hsp:∀ (w:World) (H:Hp) (a:Addr) (ns:List Int),ns.length<=n->TD H->SqL (K w.params) H a (ns.map V.int)->sp w [.ref a] H (λ v _=>v= .bl true) λ _ _ _=>False)
    (hCX:∀ (w:World) (H:Hp) (s:Shared) (e:Value) (s':Shared),CX w [] H s (λ _ _ _=>False) e s'->False):
    PySem.W.WalkO q loose XP YP l.row.toRowW d [] (λ f vs=>PySem.call f vs):=by
  refine Att.attach_call hn hdf λ w s₀ s₁ mg mb fa o pm cd doc a vs ns G Y ho hd hcd hmg hobj hints hlen hg=> ?_;have KX:=hY w _ Y;obtain ⟨fd,hb,hF⟩:=F w mg fa _ KX G.T.g hmg;exact Pr KX G.T.g G.T.b G.T.builtins G.T.nolimit hg hobj hints (Nat.le_trans hlen hn2) hr hF hb (λ H hO hS=>hsp w H a ns hlen hO hS) λ H e s'=>hCX w H s₁ e s'
abbrev CX0:CXT:=λ _ _ _ _ _ _=>False
abbrev E0:XK:=λ _ _ _=>False
theorem MR {X:Cx}:BL CX0 X E0:=λ _ _ _ _ _ _ _ h=>h.elim
structure Fun (K:PySem.W.Frag) (x qual:Str) (st:Stmt) (f:Addr) (fd:FuncData):Prop where
  ex:∃ (oc:Value) (od:Option Addr) (kV doc pm:Value) (an:Option Addr) (cdv ct:Value) (osl:Array (Option Value)),
    fd=PySem.W.fnOf x qual (DV st) (BO st) (Ah st) .none kV doc pm an cdv ct/\K.lookup f=some ⟨oc,od, .func fd,osl⟩/\PySem.W.codeIn K cdv qual=true
  kp:PySem.W.keepIn K (.ref f)=true
section
variable {P:Program} {w:World} {K:PySem.W.Frag} {mg:Str->Option Value} {base:Heap}
theorem Fun.ok {x qual:Str} {st:Stmt} {f:Addr} {fd:FuncData} {N ps:List Str} {k:Nat} {sp:Sp} (F:Fun K x qual st f fd) (S:FnScope N ps (Ah st)) (len:∀ vs H Q E,sp vs H Q E->vs.length=ps.length)
    (hbody:∀ (cdv:Value) (A:Around) (outer:List Env) (s:Shared) (H:Hp) (vs:List V) (Q:VK) (E:XK),Room k (A.deeper (envOfC qual (Ah st) s.heap.objs.size f cdv))->sp vs H Q E->
      ∃ t,PSs (Bw CX0 P w K mg base N qual (Ah st) f cdv A outer s H E).nox (BO st) t/\t { nx:=λ _ H'=>Q .non H',rt:=Q } (start N vs) H):FnOk P w K mg base CX0 (k+1) f fd ps sp:=by
  obtain ⟨oc,od,kV,doc,pm,an,cdv,ct,osl,rfl,lk,hcd⟩:=F.ex;refine Oc lk hcd S len λ A outer s H vs Q E hr hsp=> ?_;obtain ⟨t,h,q⟩:=hbody cdv A outer s H vs Q E hr hsp;exact ⟨t,h.nox,q⟩
theorem fun_mk {x qual:Str} {st:Stmt} {f:Addr} {oc:Value} {od an:Option Addr} {osl:Array (Option Value)} {kV doc pm cdv ct:Value} (l:K.lookup f=some ⟨oc,od, .func (PySem.W.fnOf x qual (DV st) (BO st) (Ah st) .none kV doc pm an cdv ct),osl⟩)
    (c:PySem.W.codeIn K cdv qual=true) (k:PySem.W.keepIn K (.ref f)=true):Fun K x qual st f (PySem.W.fnOf x qual (DV st) (BO st) (Ah st) .none kV doc pm an cdv ct):=⟨⟨oc,od,kV,doc,pm,an,cdv,ct,osl,rfl,l,c⟩,k⟩
end
section
variable {X:Cx}
theorem pv (i:Nat) {x:Str} {pos:Pos} (hN:X.N[i]?=some x:=by rfl) (hv:Vis X.env.scope x:=by first | exact Or.inl rfl | exact Or.inr (Or.inl rfl) | exact Or.inr (Or.inr rfl)) (hd:(x == ("__debug__":Str))=false:=by decide)
    (hcd:(x == ("__classdict__":Str))=false:=by decide):PE X (.Name x pos) (Tx i):=TN hN hv hd hcd
end
theorem HZ {A B:Prop} (h:B):if false=true then A else B:=by
  rw [if_neg Bool.false_ne_true];exact h
theorem Lu {A B:Prop} (h:A):if true=true then A else B:=by
  rw [if_pos rfl];exact h
def Same (H H':Hp):Prop:=∀ b o,H b=some o->H' b=some o
theorem Same.refl (H:Hp):Same H H:=λ _ _ h=>h
theorem Same.trans {H H1 H2:Hp} (a:Same H H1) (b:Same H1 H2):Same H H2:=λ c o h=>b c o (a c o h)
theorem Same.free {H H':Hp} (e:Same H H') {l:Addr} (h:H' l=Option.none):H l=Option.none:=by
  cases q:H l with
  | none=>rfl
  | some o=>
    rw [e l o q] at h;cases h
theorem Same.seq {K:PySem.W.Frag} {H H':Hp} {a:Addr} {xs:List V} (e:Same H H') (h:SqL K H a xs):SqL K H' a xs:=by
  rcases h with (h | ⟨o,h⟩) | h
  · exact .inl (.inl (e _ _ h))
  · exact .inl (.inr ⟨o,e _ _ h⟩)
  · exact .inr h
section
variable {κ:Type} [DecidableEq κ]
def Dz (kvs:List (κ × V)) (k:κ):Option V:=(kvs.find? λ kv=>decide (kv.1=k)).map (·.2)
def Do (kvs:List (κ × V)) (k:κ) (v:V):List (κ × V):=
  if (kvs.any λ kv=>decide (kv.1=k))=true then kvs.map (λ kv=>if kv.1=k then (kv.1,v) else kv) else kvs++[(k,v)]
theorem G2 {p:κ × V} {r:List (κ × V)} {k:κ} (e:p.1=k):Dz (p::r) k=some p.2:=by simp [Dz,List.find?_cons,e]
theorem Hg {p:κ × V} {r:List (κ × V)} {k:κ} (e:¬ p.1=k):Dz (p::r) k=Dz r k:=by simp [Dz,List.find?_cons,e]
theorem Hv (k:κ):∀ kvs:List (κ × V),(kvs.any λ kv=>decide (kv.1=k))=(Dz kvs k).isSome
  | []=>rfl
  | p::r=>by
    rw [List.any_cons];by_cases e:p.1=k
    · simp only [G2 e,decide_eq_true e,Bool.true_or,Option.isSome_some]
    · rw [Hg e,decide_eq_false e,Bool.false_or];exact Hv k r
theorem Du (kvs:List (κ × V)) (k:κ) (v:V):(Do kvs k v).length<=kvs.length+1:=by
  unfold Do;split
  · rw [List.length_map];omega
  · rw [List.length_append,List.length_cons,List.length_nil];omega
theorem Ow {kvs:List (κ × V)} {k:κ} (v:V) (h:Dz kvs k=none):Do kvs k v=kvs++[(k,v)]:=by
  unfold Do;rw [Hv,h];exact if_neg (by decide)
theorem RelO.isSome_eq {o:Option V} {u:Option Value} (r:RelO o u):o.isSome=u.isSome:=by
  cases o with
  | none=>cases u with
    | none=>rfl
    | some _=>exact (show False from r).elim
  | some _=>cases u with
    | none=>exact (show False from r).elim
    | some _=>rfl
theorem RelO.getD {o:Option V} {u:Option Value} {d:V} {d':Value} (r:RelO o u) (rd:RelV d d'):RelV (o.getD d) (u.getD d'):=by
  cases o with
  | none=>cases u with
    | none=>exact rd
    | some _=>exact (show False from r).elim
  | some _=>cases u with
    | none=>exact (show False from r).elim
    | some _=>exact r
theorem KV.val {kvs:List (κ × V)} {vs:List (κ × Value)} (r:KV kvs vs) (k:κ):RelO (Dz kvs k) (valueAt vs k):=by
  unfold KV at r
  induction r with
  | nil=>exact True.intro
  | @cons p q ps qs h t ih=>
    obtain ⟨h1,h2⟩:=h;by_cases e:p.1=k
    · have e':q.1=k:=h1.symm.trans e;have b:valueAt (q::qs) k=some q.2:=by simp [valueAt,List.find?_cons,e']
      rw [G2 e,b];exact h2
    · have e':¬ q.1=k:=λ z=>e (h1.trans z);have b:valueAt (q::qs) k=valueAt qs k:=by simp [valueAt,List.find?_cons,e']
      rw [Hg e,b];exact ih
theorem KV.any {kvs:List (κ × V)} {vs:List (κ × Value)} (r:KV kvs vs) (k:κ):(kvs.any λ kv=>decide (kv.1=k))=vs.any λ kv=>decide (kv.1=k):=by
  unfold KV at r
  induction r with
  | nil=>rfl
  | cons h t ih=>rw [List.any_cons,List.any_cons,ih,h.1]
theorem KV.repl {kvs:List (κ × V)} {vs:List (κ × Value)} (r:KV kvs vs) (k:κ) {y:V} {u:Value} (ry:RelV y u):
    KV (kvs.map λ kv=>if kv.1=k then (kv.1,y) else kv) (vs.map λ kv=>if kv.1=k then (kv.1,u) else kv):=by
  unfold KV at r ⊢
  induction r with
  | nil=>exact .nil
  | @cons p q ps qs h t ih=>
    rw [List.map_cons,List.map_cons];refine .cons ?_ ih;obtain ⟨h1,h2⟩:=h;by_cases e:p.1=k
    · rw [if_pos e,if_pos (h1.symm.trans e)];exact ⟨h1,ry⟩
    · rw [if_neg e,if_neg (λ z=>e (h1.trans z))];exact ⟨h1,h2⟩
theorem KV.put {kvs:List (κ × V)} {vs:List (κ × Value)} (r:KV kvs vs) (k:κ) {y:V} {u:Value} (ry:RelV y u):KV (Do kvs k y) (stored vs k u):=by
  unfold Do stored;rw [r.any k];by_cases e:(vs.any λ kv=>decide (kv.1=k))=true
  · rw [if_pos e,if_pos e];exact r.repl k ry
  · rw [if_neg e,if_neg e];exact Paired.snoc r ⟨rfl,ry⟩
theorem KV.length {kvs:List (κ × V)} {vs:List (κ × Value)} (r:KV kvs vs):kvs.length=vs.length:=Paired.length r
end
theorem Kv {P:Program} {w:World} {k:Key} {u:Value} (r:RelV (kV k) u):(AR P w).is k u=true:=by
  cases k with
  | inl i=>obtain ⟨t,e⟩:=(show ∃ t,u=Value.int i t from r);subst e;exact KH P w i t
  | inr x=>obtain ⟨t,e⟩:=(show ∃ t,u=Value.str x t from r);subst e;exact KJ P w x t
theorem IL {P:Program} {w:World}:∀ {ks:List Key} {us:List Value},Vals (ks.map kV) us->ItemsAre (AR P w) ks us
  | [],_,r=>by rw [List.map_nil] at r;cases r;exact .nil
  | k::ks,_,r=>by
    rw [List.map_cons] at r;cases r with
    | cons h t=>exact .cons (Kv h) (IL t)
abbrev KT (H:Hp):List (List Key × V)->List (List Key × Addr × Value)->Prop:=Paired λ p q=>p.1=q.1/\H q.2.1=some (.tup (p.1.map kV))/\RelV p.2 q.2.2
theorem KT.val {H:Hp} {kvs:List (List Key × V)} {xs:List (List Key × Addr × Value)} (r:KT H kvs xs) (k:List Key):RelO (Dz kvs k) ((atKey xs k).map (·.2)):=by
  induction r with
  | nil=>exact True.intro
  | @cons p q ps qs h t ih=>
    obtain ⟨h1,_,h2⟩:=h;by_cases e:p.1=k
    · have e':q.1=k:=h1.symm.trans e;have b:atKey (q::qs) k=some q.2:=by simp [atKey,List.find?_cons,e']
      rw [G2 e,b];exact h2
    · have e':¬ q.1=k:=λ z=>e (h1.trans z);have b:atKey (q::qs) k=atKey qs k:=by simp [atKey,List.find?_cons,e']
      rw [Hg e,b];exact ih
theorem KT.repl {H:Hp} {kvs:List (List Key × V)} {xs:List (List Key × Addr × Value)} (r:KT H kvs xs) (k:List Key) {y:V} {u:Value} (ry:RelV y u):
    KT H (kvs.map λ kv=>if kv.1=k then (kv.1,y) else kv) (xs.map (putAt k u)):=by
  induction r with
  | nil=>exact .nil
  | @cons p q ps qs h t ih=>
    rw [List.map_cons,List.map_cons];refine .cons ?_ ih;obtain ⟨h1,h2,h3⟩:=h;unfold putAt;by_cases e:p.1=k
    · rw [if_pos e,if_pos (h1.symm.trans e)];exact ⟨h1,h2,ry⟩
    · rw [if_neg e,if_neg (λ z=>e (h1.trans z))];exact ⟨h1,h2,h3⟩
theorem KT.put {H:Hp} {kvs:List (List Key × V)} {xs:List (List Key × Addr × Value)} (r:KT H kvs xs) (k:List Key) {b:Addr} {y:V} {u:Value} (hb:H b=some (.tup (k.map kV))) (ry:RelV y u):
    KT H (Do kvs k y) (storedH xs k b u):=by
  have e:(kvs.any λ kv=>decide (kv.1=k))=(atKey xs k).isSome:=by
    rw [Hv,(r.val k).isSome_eq,Option.isSome_map]
  unfold Do storedH;rw [e];by_cases q:(atKey xs k).isSome=true
  · rw [if_pos q,if_pos q];exact r.repl k ry
  · rw [if_neg q,if_neg q];exact Paired.snoc r ⟨rfl,hb,ry⟩
theorem KT.keeps {H H':Hp} {kvs:List (List Key × V)} {xs:List (List Key × Addr × Value)} (r:KT H kvs xs) (ht:∀ b ys,H b=some (.tup ys)->H' b=some (.tup ys)):KT H' kvs xs:=
  Paired.mapP r λ _ _ z=>⟨z.1,ht _ _ z.2.1,z.2.2⟩
section
variable {P:Program} {w:World} {H:Hp} {h:Heap} {a:Addr}
theorem R8 {u:HO} (ok:HOk P w H h) (e:Rd H a u):ObjOk P w H h a u:=e.ok ok
theorem K6 {kvs:List (Key × V)} (ok:HOk P w H h) (e:Rd H a (.dK kvs)):kvs.length<=sizeLine/\(a == sysModules)=false/\∃ vs,KV kvs vs/\h.DictOf (AR P w) a vs:=
  show ObjOk P w H h a (.dK kvs) from R8 ok e
theorem O9 {kvs:List (Key × V)} (ok:HOk P w H h) (e:H a=some (.dK kvs)):kvs.length<=sizeLine/\(a == sysModules)=false/\∃ vs,KV kvs vs/\h.DictOf (AR P w) a vs:=K6 ok (.inl e)
theorem Jm {ks:List Key} (ok:HOk P w H h) (e:H a=some (.tup (ks.map kV))):(tupleKind (AR P w)).is h ks a:=by
  obtain ⟨_,its,r,o,h1,h2,n,h3⟩:=(show ObjOk P w H h a (.tup (ks.map kV)) from ok a _ e);exact ⟨o,its.toArray,n,h1,h2,h3,by simpa using IL r⟩
theorem Mu {kvs:List (List Key × V)} (ok:HOk P w H h) (e:Rd H a (.dT kvs)):kvs.length<=sizeLine/\(a == sysModules)=false/\
    ∃ xs,KT H kvs xs/\h.DictOfH (tupleKind (AR P w)) a xs:=by
  obtain ⟨z,y,xs,r,o,es,ep,h1,h2,h3,h4,h5⟩:=(show ObjOk P w H h a (.dT kvs) from R8 ok e);refine ⟨z,y,xs,r,o,es,ep,h1,h2,h3,h4,λ x hx=> ?_,h5⟩;have all:∀ {l:List (List Key × V)} {m:List (List Key × Addr × Value)},KT H l m->∀ x∈m,(tupleKind (AR P w)).is h x.1 x.2.1:=by
    intro l m q
    induction q with
    | nil=>intro x hx;exact nomatch hx
    | @cons p q ps qs hq t ih=>
      intro x hx;rcases List.mem_cons.mp hx with e | hx
      · subst e;exact Jm ok (by rw [<-hq.1];exact hq.2.1)
      · exact ih x hx
  exact all r x hx
theorem UH {kvs:List (List Key × V)} (ok:HOk P w H h) (e:H a=some (.dT kvs)):kvs.length<=sizeLine/\(a == sysModules)=false/\
    ∃ xs,KT H kvs xs/\h.DictOfH (tupleKind (AR P w)) a xs:=Mu ok (.inl e)
end
def DGet (H:Hp) (a:Addr) (y:V) (r:Option V):Prop:=
  (∃ kvs k,Rd H a (.dK kvs)/\y=kV k/\r=Dz kvs k)\/∃ kvs k b,Rd H a (.dT kvs)/\y= .ref b/\H b=some (.tup (k.map kV))/\r=Dz kvs k
def DPut (H:Hp) (a:Addr) (y v:V) (H':Hp):Prop:=
  (∃ kvs k,H a=some (.dK kvs)/\y=kV k/\kvs.length<sizeLine/\H'=upd H a (.dK (Do kvs k v)))\/
  ∃ kvs k b,H a=some (.dT kvs)/\y= .ref b/\H b=some (.tup (k.map kV))/\kvs.length<sizeLine/\H'=upd H a (.dT (Do kvs k v))
theorem DGet.k {H:Hp} {a:Addr} {kvs:List (Key × V)} {k:Key} (e:H a=some (.dK kvs)):DGet H a (kV k) (Dz kvs k):= .inl ⟨kvs,k, .inl e,rfl,rfl⟩
theorem DPut.k {H:Hp} {a:Addr} {kvs:List (Key × V)} {k:Key} {v:V} (e:H a=some (.dK kvs)) (hl:kvs.length<sizeLine):DPut H a (kV k) v (upd H a (.dK (Do kvs k v))):= .inl ⟨kvs,k,e,rfl,hl,rfl⟩
section
variable {X:Cx} {pins:List (Addr × Obj)} {σ:St} {H:Hp} {s:Shared} {a:Addr} {y v:V} {u r:Value} {o:Option V} {A:Around} {E:Value->Shared->Prop}
theorem Inv.big (I:Inv X pins σ H s):sysModules<s.heap.objs.size:=by
  have h:mainGlobals<s.heap.objs.size:=(I.mod.glob.keeps I.bk).lt;exact Nat.lt_trans (by decide) h
theorem Nb {Q:Value->Shared->Prop} (hu:A.units+1<cLine) (I:Inv X pins σ H s) (g:DGet H a y (some v)) (ry:RelV y u) (h:∀ w' s',Inv X pins σ H s'->RelV v w'->Q w' s'):
    wpAny (model X.prog X.w) A (getItem (.ref a) u) Q E s:=by
  rcases g with ⟨kvs,k,e,ey,l⟩ | ⟨kvs,k,b,e,ey,eb,l⟩
  · subst ey;obtain ⟨z,hd,vs,rel,dd⟩:=K6 I.hok e;obtain ⟨w',hw,rw'⟩:=RelO.some_of (v:=v) (o:=valueAt vs k) (by rw [l];exact rel.val k);exact wpAny_getItem_of (Kv ry) dd.mapOf hw (h w' _ (I.tok _) rw')
  · subst ey;cases (show u=Value.ref b from ry);obtain ⟨z,hd,xs,rel,dd⟩:=Mu I.hok e;obtain ⟨w',hw,rw'⟩:=RelO.some_of (v:=v) (o:=(atKey xs k).map (·.2)) (by rw [l];exact rel.val k);obtain ⟨p,hp,hp2⟩:=Option.map_eq_some_iff.mp hw;refine wpAny_getItem_heap (tupleKind_room_in1 hu) (Jm I.hok eb) dd hp ?_;rw [hp2];exact h w' _ (I.tok _) rw'
theorem RS {Q:Value->Shared->Prop} (hu:A.units+1<cLine) (I:Inv X pins σ H s) (g:DGet H a y o) (ry:RelV y u) (h:∀ s',Inv X pins σ H s'->Q (.bool (!o.isSome)) s'):
    wpAny (model X.prog X.w) A (compareOp .NotIn u (.ref a)) Q E s:=by
  rcases g with ⟨kvs,k,e,ey,l⟩ | ⟨kvs,k,b,e,ey,eb,l⟩
  · subst ey;obtain ⟨z,hd,vs,rel,dd⟩:=K6 I.hok e;refine wpAny_notIn_of (Kv ry) hd dd.mapOf ?_;rw [<-(rel.val k).isSome_eq, <-l];exact h _ (I.tok _)
  · subst ey;cases (show u=Value.ref b from ry);obtain ⟨z,hd,xs,rel,dd⟩:=Mu I.hok e;refine wpAny_notIn_heap (tupleKind_room_in1 hu) (Jm I.hok eb) hd dd ?_;have q:=(rel.val k).isSome_eq;rw [Option.isSome_map] at q;rw [<-q, <-l];exact h _ (I.tok _)
theorem Jf {h':Heap} {t':Nat} {ob:HO} (I:Inv X pins σ H s) (mu:Mut (H a)) (hs:Heap.SameBut a s.heap h') (he:∃ q,h'.get? a=some q) (new:ObjOk X.prog X.w (upd H a ob) h' a ob):
    Inv X pins σ (upd H a ob) { s with heap:=h',toks:=t' }:=
  I.write (x:=a) (e:=a) mu (.inl rfl) (λ b q hb z=>(hs.2 b hb).trans z) he new
theorem OY {P:Program} {w:World} {H':Hp} {h':Heap} {kvs:List (Key × V)} {vs:List (Key × Value)} (z:kvs.length<=sizeLine) (hd:(a == sysModules)=false) (rel:KV kvs vs) (dd:h'.DictOf (AR P w) a vs):
    ObjOk P w H' h' a (.dK kvs):=⟨z,hd,vs,rel,dd⟩
theorem NX {H':Hp} {Q:Unit->Shared->Prop} (hu:A.units+1<cLine) (I:Inv X pins σ H s) (g:DPut H a y v H') (ry:RelV y u) (rv:RelV v r) (h:∀ s',Inv X pins σ H' s'->Q () s'):
    wpAny (model X.prog X.w) A (setItem (.ref a) u r) Q E s:=by
  rcases g with ⟨kvs,k,e,ey,l,eH⟩ | ⟨kvs,k,b,e,ey,eb,l,eH⟩
  · subst ey eH;obtain ⟨z,hd,vs,rel,dd⟩:=O9 I.hok e;have hz:vs.length<=sizeLine:=by rw [<-rel.length];exact z
    have hl:(Do kvs k v).length<=sizeLine:=by have:=Du kvs k v;omega
    refine wpAny_setItem_pairs (hsz:=hz) (Kv ry) dd λ h' dd' hs=>h _ ?_;have he:∃ q,h'.get? a=some q:=let ⟨q,_,_,hq,_⟩:=dd';⟨q,hq⟩;exact Jf I (by rw [e];exact True.intro) hs he (OY hl hd (rel.put k rv) dd')
  · subst ey eH;cases (show u=Value.ref b from ry);obtain ⟨z,hd,xs,rel,dd⟩:=UH I.hok e;have hz:xs.length<=sizeLine:=by rw [<-Paired.length rel];exact z
    have hl:(Do kvs k v).length<=sizeLine:=by have:=Du kvs k v;omega
    refine wpAny_setItem_heap (hsz:=hz) (tupleKind_room_in1 hu) (Jm I.hok eb) dd λ h' dd' hs=>h _ ?_;obtain ⟨q,es,ep,hq,h2,h3,h4,_,h5⟩:=dd';refine Jf I (by rw [e];exact True.intro) hs ⟨q,hq⟩ ⟨hl,hd,_,(rel.put k eb rv).keeps λ c ys ec=> ?_,q,es,ep,hq,h2,h3,h4,h5⟩;rw [Am (Fv ec e (λ z=>nomatch z))];exact ec
end
section
variable {X:Cx} {pins:List (Addr × Obj)} {σ:St} {H:Hp} {s:Shared} {a:Addr} {kvs:List (Key × V)} {k:Key} {u:Value} {A:Around} {E:Value->Shared->Prop}
theorem Zx {Q:Value->Shared->Prop} (I:Inv X pins σ H s) (e:Rd H a (.dK kvs)) (h:∀ t s',Inv X pins σ H s'->Q (.int kvs.length t) s'):wpAny (model X.prog X.w) A (call (.builtin "len") [.ref a]) Q E s:=by
  obtain ⟨z,hd,vs,rel,dd⟩:=K6 I.hok e;refine call_len_dict hd dd (by rw [<-rel.length];rw [sizeLine_eq] at z;omega) ?_;rw [<-rel.length];exact h _ _ (I.tok _)
end
def WO (i:Expr):Prop:=∀ ov iv,subscripted i false ov iv=operate [ov,iv] (getItem ov iv)
theorem Rg {prog:Program} {w:World} {A:Around} {E:Value->Shared->Prop} {s:Shared} {env:Env} {value slice:Expr} {pos:Pos} {T id:String} {Q:Value->Shared->Prop}
    (hl:typeLookup (.type T) "__getitem__"=pure (some (.builtin id))) (hs:WO slice)
    (h:wpAny (model prog w) A (eval value env) (λ o s₁=>wpAny (model prog w) A (eval slice env) (λ i s₂=>s₂.TypeIs o T/\wpAny (model prog w) A (getItem o i) Q E s₂) E s₁) E s):
    wpAny (model prog w) A (eval (.Subscript value slice pos) env) Q E s:=by
  refine Subscript_ (wpAny_mono h (λ o s₁ h₁=>wpAny_mono h₁ (λ i s₂ h₂=> ?_) λ _ _ x=>x) λ _ _ x=>x);obtain ⟨hT,h₂⟩:=h₂;unfold subscriptTail;refine wpAny_bind ?_;rw [getitemInPython_of_ne hT.not_modules];refine wpAny_bind (wpAny_specialOf hT hl ?_);have fin:wpAny (model prog w) A (subscripted slice false o i) (λ r s₃=>wpAny (model prog w) A (letTemporaryGo value o r >>= λ _=>pure r) Q E s₃) E s₂:=by
    rw [hs o i];exact wpAny_operating (wpAny_mono h₂ (λ r s₃ h₃=>wpAny_bind (wpAny_letTemporaryGo (wpAny_pure h₃))) λ _ _ x=>x)
  first
    | exact wpAny_pure (wpAny_bind fin)
    | exact wpAny_bind (wpAny_pure (wpAny_bind fin))
    | exact wpAny_bind fin
theorem Kb {X:Cx} {pins:List (Addr × Obj)} {σ:St} {H:Hp} {s:Shared} {a:Addr} {y:V} {o:Option V} (I:Inv X pins σ H s) (g:DGet H a y o):s.TypeIs (.ref a) "dict":=by
  rcases g with ⟨kvs,k,e,_,_⟩ | ⟨kvs,k,b,e,_,_,_⟩
  · obtain ⟨_,_,vs,_,dd⟩:=K6 I.hok e;exact dd.typeIs
  · obtain ⟨_,_,xs,_,dd⟩:=Mu I.hok e;exact dd.typeIs
def Sq (td ty:TE):TE:=λ σ H Q=>td σ H λ x H1=>ty σ H1 λ y H2=>∃ a v,x= .ref a/\DGet H2 a y (some v)/\Q v H2
def MO (ty td:TE):TE:=λ σ H Q=>ty σ H λ y H1=>td σ H1 λ x H2=>∃ a o,x= .ref a/\DGet H2 a y o/\Q (.bl (!o.isSome)) H2
def So (td ty tv:TE):TS:=λ D σ H=>tv σ H λ v H1=>td σ H1 λ x H2=>ty σ H2 λ y H3=>∃ a H4,x= .ref a/\DPut H3 a y v H4/\D.nx σ H4
section
variable {X:Cx} {o i e value:Expr} {pos pos' tpos:Pos} {td ty tv:TE}
theorem Qn (hu:X.A.units+1<cLine) (ho:PE X o td) (hi:PE X i ty) (hs:WO i):PE X (.Subscript o i pos) (Sq td ty):=by
  intro pins s σ H Q I h;refine Rg PySem.F.slot_dict_getitem.lookup hs (thn (ho pins s σ H _ I h) λ u s1 ⟨x,H1,I1,rx,q1⟩=>thn (hi pins s1 σ H1 _ I1 q1) λ iv s2 ⟨y,H2,I2,ry,a,v,ex,g,q2⟩=> ?_);subst ex;obtain rfl:u=Value.ref a:=rx;exact ⟨Kb I2 g,Nb hu I2 g ry λ w' s3 I3 rw'=>⟨v,H2,I3,rw',q2⟩⟩
theorem NP (hu:X.A.units+1<cLine) (hi:PE X i ty) (ho:PE X o td):PC X .NotIn i o (MO ty td):=by
  intro pins s σ H Q I h;refine thn (hi pins s σ H _ I h) λ iv s1 ⟨y,H1,I1,ry,q1⟩=>thn (ho pins s1 σ H1 _ I1 q1) λ u s2 ⟨x,H2,I2,rx,a,ov,ex,g,q2⟩=> ?_;subst ex;obtain rfl:u=Value.ref a:=rx;exact RS hu I2 g ry λ s3 I3=>⟨.bl (!ov.isSome),H2,I3,rfl,q2⟩
theorem QW (hu:X.A.units+1<cLine) (ho:PE X o td) (hi:PE X i ty) (hv:PE X value tv) (hs:swapsWith value (some (.Subscript o i pos')) pos.line X.env=pure false):
    PS X (.Assign [.Subscript o i pos'] value pos) (So td ty tv):=by
  intro pins s σ H D I h;refine wpAny_Assign_Subscript (thn (hv pins s σ H _ I h) λ r s1 ⟨v,H1,I1,rv,q1⟩=>thn (ho pins s1 σ H1 _ I1 q1) λ u s2 ⟨x,H2,I2,rx,q2⟩=>thn (hi pins s2 σ H2 _ I2 q2) λ iv s3 ⟨y,H3,I3,ry,a,H4,ex,g,q3⟩=> ?_) hs;subst ex;obtain rfl:u=Value.ref a:=rx;exact NX hu I3 g ry rv λ s4 I4=>⟨σ,H4,I4,q3⟩
end
theorem Pd {P:Program} {w:World} {H:Hp} (h:Heap) (hb:sysModules<h.objs.size):ObjOk P w H (h.push { cls:= .type "dict",data:= .dict #[] }) h.objs.size (.dK []):=
  ⟨Nat.zero_le _,beq_eq_false_iff_ne.mpr (Ne.symm (Nat.ne_of_lt hb)),[], .nil,Heap.DictOf.new h⟩
section
variable {X:Cx} {pos:Pos}
end
def Et:List (TE × TE)->St->Hp->(List (V × V)->Hp->Prop)->Prop
  | [],_,H,Q=>Q [] H
  | (tk,tv)::r,σ,H,Q=>tk σ H λ x H1=>tv σ H1 λ y H2=>Et r σ H2 λ ps H3=>Q ((x,y)::ps) H3
abbrev VV:List (V × V)->List (Value × Value)->Prop:=Paired λ p q=>RelV p.1 q.1/\RelV p.2 q.2
def PPs (X:Cx) (pos:Pos) (keys:List (Option Expr)) (values:List Expr) (trs:List (TE × TE)):Prop:=
  ∀ (pins:List (Addr × Obj)) (s:Shared) (σ:St) (H:Hp) (Q:List (V × V)->Hp->Prop),Inv X pins σ H s->Et trs σ H Q->
    wpAny (model X.prog X.w) X.A (evalPairs (pairTrees keys values X.env pos)) (λ vs s'=>∃ ps H',Inv X pins σ H' s'/\VV ps vs/\Q ps H') X.xe s
theorem QD {X:Cx} {pos:Pos}:PPs X pos [] [] []:=λ pins s σ H Q I h=>pairTrees_nil_walk ⟨[],H,I, .nil,h⟩
theorem OE {X:Cx} {pos:Pos} {k v:Expr} {ks:List (Option Expr)} {vs:List Expr} {tk tv:TE} {trs:List (TE × TE)} (hk:PE X k tk) (hv:PE X v tv) (hr:PPs X pos ks vs trs):
    PPs X pos (some k::ks) (v::vs) ((tk,tv)::trs):=λ pins s σ H Q I h=>
  pairTrees_cons_walk (thn (hk pins s σ H _ I h) λ u s1 ⟨x,H1,I1,rx,q1⟩=>thn (hv pins s1 σ H1 _ I1 q1) λ w2 s2 ⟨y,H2,I2,ry,q2⟩=>
    thn (hr pins s2 σ H2 _ I2 q2) λ ws s3 ⟨ps,H3,I3,rel,q3⟩=>⟨(x,y)::ps,H3,I3, .cons ⟨rx,ry⟩ rel,q3⟩)
def EC (kvs more:List (Key × V)):List (Key × V):=more.foldl (λ acc kv=>Do acc kv.1 kv.2) kvs
theorem KV.merge:∀ {more:List (Key × V)} {rs:List (Key × Value)} {kvs:List (Key × V)} {vs:List (Key × Value)},KV more rs->KV kvs vs->KV (EC kvs more) (merged vs rs):=by
  intro more rs kvs vs r;unfold KV at r
  induction r generalizing kvs vs with
  | nil=>intro q;exact q
  | @cons p q ps qs h t ih=>
    intro r0;have e:KV (Do kvs p.1 p.2) (stored vs q.1 q.2):=by
      have:=r0.put p.1 h.2;rw [<-h.1];exact this
    exact ih e
theorem Es:∀ (more kvs:List (Key × V)),(EC kvs more).length<=kvs.length+more.length
  | [],kvs=>by show kvs.length<=kvs.length+0;omega
  | p::r,kvs=>by
    have h1:=Es r (Do kvs p.1 p.2);have h2:=Du kvs p.1 p.2;show (EC (Do kvs p.1 p.2) r).length<=_;rw [List.length_cons];omega
theorem Hq {P:Program} {w:World}:∀ {kvs:List (Key × V)} {ws:List (Value × Value)},VV (kvs.map λ kv=>(kV kv.1,kv.2)) ws->∃ rs,Carries (AR P w) ws rs/\KV kvs rs
  | [],_,r=>by rw [List.map_nil] at r;cases r;exact ⟨[],True.intro, .nil⟩
  | p::kvs,_,r=>by
    rw [List.map_cons] at r;cases r with
    | @cons a b as bs h t=>
      obtain ⟨rs,c,q⟩:=Hq (P:=P) (w:=w) t;obtain ⟨b1,b2⟩:=b;exact ⟨(p.1,b2)::rs,⟨Kv h.1,rfl,c⟩, .cons ⟨rfl,h.2⟩ q⟩
def Sk (trs:List (TE × TE)):TE:=λ σ H Q=>∀ p,H p=none->Et trs σ (upd H p (.dK [])) λ ps H2=>H2 p=some (.dK [])/\∃ kvs:List (Key × V),ps=kvs.map (λ kv=>(kV kv.1,kv.2))/\kvs.length<=15/\Q (.ref p) (upd H2 p (.dK (EC [] kvs)))
theorem Rj {X:Cx} {pos:Pos} {keys:List (Option Expr)} {values:List Expr} {trs:List (TE × TE)} (h:PPs X pos keys values trs) (hall:keys.all (·.isSome)=true) (hl:keys.length=values.length) (h0:keys≠[])
    (h15:keys.length<=15):PE X (.Dict keys values pos) (Sk trs):=by
  intro pins s σ H Q I q;have hn:=I.hok.fresh (Nat.le_refl s.heap.objs.size);have I1:=I.laid (a:=s.heap.objs.size) (o:= .dK []) (h':=s.heap.push { cls:= .type "dict",data:= .dict #[] }) (t':=s.toks) (λ _ _ q=>Heap.get?_push_of_some _ q) (Nat.le_refl _) (Pd s.heap I.big);refine wpAny_Dict_walk (knd:=AR X.prog X.w) hall hl h0 h15 (thn (h pins _ σ _ _ I1 (q _ hn)) λ ws s2 ⟨ps,H2,I2,rel,e,kvs,ep,lk,q2⟩=> ?_);subst ep;obtain ⟨rs,c,rk⟩:=Hq (P:=X.prog) (w:=X.w) rel;obtain ⟨z,hd,vs0,r0,dd⟩:=O9 I2.hok e;cases r0;refine ⟨rs,c,dd,λ h' dd' hs=>⟨.ref s.heap.objs.size,_,?_,rfl,q2⟩⟩;have hz:(EC [] kvs).length<=sizeLine:=by
    have h1:=Es kvs [];rw [List.length_nil] at h1;rw [sizeLine_eq];omega
  have he:∃ q,h'.get? s.heap.objs.size=some q:=let ⟨q,_,_,hq,_⟩:=dd';⟨q,hq⟩;exact Jf I2 (by rw [e];exact True.intro) hs he (OY hz hd (rk.merge .nil) dd')
structure M1 (X:Cx) (o:Expr) (m:Str) (apos:Pos) (e:Expr) (cpos:Pos):Prop where
  base:attributeBase o m X.env (eval o X.env)=eval o X.env
  few:((backTo cpos (starEach [e] X.env)).all (λ x=> !x.1)&&(backToKw cpos (keywordEach [] X.env)).all (λ x=>x.1.isSome)
    && decide (([e]:List Expr).length+([]:List Keyword).length+(if ([]:List Keyword).isEmpty then 0 else 1)<30))=true
  line:(apos.endLine == cpos.line)=true
  trees:backTo cpos (starEach [e] X.env)=[(false,eval e X.env)]
structure M2 (X:Cx) (o:Expr) (m:Str) (apos:Pos) (e f:Expr) (cpos:Pos):Prop where
  base:attributeBase o m X.env (eval o X.env)=eval o X.env
  few:((backTo cpos (starEach [e,f] X.env)).all (λ x=> !x.1)&&(backToKw cpos (keywordEach [] X.env)).all (λ x=>x.1.isSome)
    && decide (([e,f]:List Expr).length+([]:List Keyword).length+(if ([]:List Keyword).isEmpty then 0 else 1)<30))=true
  line:(apos.endLine == cpos.line)=true
  trees:backTo cpos (starEach [e,f] X.env)=[(false,eval e X.env),(false,eval f X.env)]
section
variable {X:Cx} {pins:List (Addr × Obj)} {σ:St} {H:Hp} {s:Shared} {a:Addr} {y d:V} {u r:Value} {o:Option V} {A:Around} {E:Value->Shared->Prop}
end
section
variable {X:Cx} {o e f:Expr} {apos cpos:Pos} {td ty tx:TE}
end
section
variable {X:Cx} {pins:List (Addr × Obj)} {σ:St} {H:Hp} {s:Shared} {a:Addr} {kvs:List (Key × V)} {A:Around} {E:Value->Shared->Prop}
end
section
variable {X:Cx} {pins:List (Addr × Obj)} {σ:St} {H:Hp} {s:Shared} {a:Addr} {y:V} {u:Value} {A:Around} {E:Value->Shared->Prop}
end
section
variable {P:Program} {w:World} {K:PySem.W.Frag} {mg:Str->Option Value} {base:Heap}
end
section
variable {X:Cx}
theorem NJ:AU X (.builtin "len") (λ xs H Q=>∃ a kvs,xs=[V.ref a]/\H a=some (.dK kvs)/\Q (.int kvs.length) H):=by
  intro pins s σ H xs us Q I r h;obtain ⟨a,kvs,rfl,ha,q⟩:=h;obtain ⟨u,rfl,ru⟩:=Cg r;cases ru;exact Zx I (.inl ha) λ t s' I'=>⟨.int kvs.length,H,I',⟨t,rfl⟩,q⟩
end
section
variable {κ:Type} [DecidableEq κ]
end
def AW (cells:List (Str × Addr)):List (Str × NameKind)->List (Str × Addr)->List (Str × Addr)
  | [],acc=>acc
  | (n,k)::r,acc=>AW cells r (if k= .free then (match cells.lookup n with | some a=>(n,a)::acc | none=>acc) else acc)
theorem Em {env:Env}:∀ (names:List (Str × NameKind)) (acc:List (Str × Addr)),(∀ y∈names,y.2= .free->∃ c,env.cells.lookup y.1=some c)->
    (forIn names acc λ (x:Str × NameKind) (r:List (Str × Addr))=>
      (if (x.2 == NameKind.free)=true then (do let a <-cellOf env x.1;pure (ForInStep.yield ((x.1,a)::r))) else pure (ForInStep.yield r):Sem (ForInStep (List (Str × Addr)))))=(pure (AW env.cells names acc):Sem (List (Str × Addr)))
  | [],acc,_=>rfl
  | (n,k)::rest,acc,h=>by
    rw [List.forIn_cons];have ih:=λ acc'=>Em (env:=env) rest acc' λ y hy=>h y (List.mem_cons_of_mem _ hy);by_cases hk:k= .free
    · subst hk;obtain ⟨c,hc⟩:=h (n, .free) List.mem_cons_self rfl;have hc:env.cells.lookup n=some c:=hc;have e:cellOf env n=pure c:=by unfold cellOf;rw [hc]
      simp only [beq_self_eq_true,if_true,e,pure_bind,AW,hc];exact ih _
    · have hb:(k == NameKind.free)=false:=by simpa using hk
      simp only [hb,Bool.false_eq_true,if_false,pure_bind,AW,if_neg hk];exact ih _
theorem Ep {env:Env} {scope:Scope} (h:∀ y∈scope.names,y.2= .free->∃ c,env.cells.lookup y.1=some c):closureFor scope env=pure (AW env.cells scope.names []):=by
  have e:=Em (env:=env) scope.names [] h;unfold closureFor;simp only [bind_pure_comp,bind_pure,map_pure] at*;exact e
theorem GR {cells:List (Str × Addr)}:∀ (names:List (Str × NameKind)) (acc:List (Str × Addr)),(∀ x c,acc.lookup x=some c->cells.lookup x=some c)->∀ x c,(AW cells names acc).lookup x=some c->cells.lookup x=some c
  | [],acc,h,x,c,e=>h x c e
  | (n,k)::r,acc,h,x,c,e=>by
    refine GR r _ ?_ x c e;intro y d q;split at q
    · split at q
      · rename_i a ha
        rw [List.lookup_cons] at q;split at q
        · rename_i hy
          cases q;rw [eq_of_beq hy];exact ha
        · exact h y d q
      · exact h y d q
    · exact h y d q
theorem GL {cells:List (Str × Addr)}:∀ (names:List (Str × NameKind)) (acc:List (Str × Addr)) (x:Str),(((x,NameKind.free)∈names/\∃ c,cells.lookup x=some c)\/∃ c,acc.lookup x=some c)->∃ c,(AW cells names acc).lookup x=some c
  | [],acc,x,h=>by
    rcases h with ⟨h,_⟩ | h
    · cases h
    · exact h
  | (n,k)::r,acc,x,h=>by
    refine GL r _ x ?_;have up:(∃ c,acc.lookup x=some c)->∃ c,(if k= .free then (match cells.lookup n with | some a=>(n,a)::acc | none=>acc) else acc).lookup x=some c:=by
      rintro ⟨c,hc⟩;split
      · split
        · rename_i a ha
          rw [List.lookup_cons];split
          · exact ⟨_,rfl⟩
          · exact ⟨c,hc⟩
        · exact ⟨c,hc⟩
      · exact ⟨c,hc⟩
    rcases h with ⟨h,c,hc⟩ | h
    · rcases List.mem_cons.mp h with e | e
      · cases e;right;refine ⟨c,?_⟩;rw [if_pos rfl,hc,List.lookup_cons,beq_self_eq_true]
      · exact .inl ⟨e,c,hc⟩
    · exact .inr (up h)
theorem HF (env:Env) (x:Str):∀ names:List (Str × NameKind),
    (names.map λ (n,k)=>if (k == NameKind.free&&env.scope.kind == .function&&env.kindOf n == some .cell) then (n,NameKind.cell) else (n,k)).lookup x=
      (names.lookup x).map λ k=>if (k == NameKind.free&&env.scope.kind == .function&&env.kindOf x == some .cell)=true then NameKind.cell else k
  | []=>rfl
  | (n,k)::r=>by
    have ih:=HF env x r;show List.lookup x ((if (k == NameKind.free&&env.scope.kind == .function&&env.kindOf n == some .cell)=true then (n,NameKind.cell) else (n,k))::_)=_;cases hx:x == n with
    | true=>
      have e:x=n:=eq_of_beq hx;subst e;by_cases hc:(k == NameKind.free&&env.scope.kind == .function&&env.kindOf x == some .cell)=true
      · rw [if_pos hc,List.lookup_cons,List.lookup_cons,beq_self_eq_true];simp only [Option.map_some,if_pos hc]
      · rw [if_neg hc,List.lookup_cons,List.lookup_cons,beq_self_eq_true];simp only [Option.map_some,if_neg hc]
    | false=>
      have e:(List.lookup x ((n,k)::r))=List.lookup x r:=by rw [List.lookup_cons,hx]
      rw [e, <-ih];split <;> rw [List.lookup_cons,hx]
structure BlkScope (X:Cx) (scope:Scope) (own:List Str) (fr:List (Str × Nat)):Prop where
  kind:scope.kind= .function
  nocell:∀ y∈scope.names,y.2≠ .cell
  loc:∀ y∈scope.names,y.2= .local->scope.names.lookup y.1=some .local
  free:∀ y∈scope.names,y.2= .free->(X.env.scope.names.lookup y.1=some .cell\/X.env.scope.names.lookup y.1=some .free)
  fr:∀ p∈fr,X.N[p.2]?=some p.1/\(p.1,NameKind.free)∈scope.names
  only:∀ x,(x,NameKind.free)∈scope.names->scope.names.lookup x=some .free
def AV (X:Cx) (scope:Scope) (own:List Str) (fr:List (Str × Nat)) (C:Addr) (ex:List Addr) (s:Shared) (H:Hp):Cx where
  prog:=X.prog
  w:=X.w
  K:=X.K
  mg:=X.mg
  base:=X.base
  A:=X.A
  N:=own++fr.map (·.1)
  s₀:=s
  H₀:=H
  env:=compEnvC scope (AW X.env.cells scope.names []) C X.env
  outer:=X.stack
  stack:=X.stack
  ex:=ex
  fn:=λ _=>false
  calm:=X.calm
  pn:=[]
  xe:=λ _ _=>False
def Fa (own:List Str) (fr:List (Str × Nat)) (σ:St):St:=own.map (λ _=>none)++fr.map (λ p=>(σ[p.2]?).getD none)
section
variable {X:Cx} {pins:List (Addr × Obj)} {σ:St} {H:Hp} {s:Shared} {scope:Scope} {own:List Str} {fr:List (Str × Nat)} {fp:List Addr}
theorem BlkScope.cells (S:BlkScope X scope own fr) (ok:X.Ok):∀ y∈scope.names,y.2= .free->∃ c,X.env.cells.lookup y.1=some c:=λ y hy e=>ok.has y.1 (S.free y hy e)
theorem Inv.block {h':Heap} {t':Nat} {m:Str->Option Value} (I:Inv X pins σ H s) (S:BlkScope X scope own fr) (hf:∀ b∈fp,Dq X pins H b) (hlt:∀ b∈fp,b<s.heap.objs.size)
    (hns:h'.Ns s.heap.objs.size m) (k:∀ b o,s.heap.get? b=some o->h'.get? b=some o):
    Inv (AV X scope own fr s.heap.objs.size fp s H) [] (Fa own fr σ) H { s with heap:=h',toks:=t' }:=by
  have cs:∀ x c,(AW X.env.cells scope.names []).lookup x=some c->X.env.cells.lookup x=some c:=GR _ _ (λ _ _ e=>by simp at e);have ck:∀ c v,s.heap.IsCell c v->h'.IsCell c v:=λ c v ⟨o,ho,hd⟩=>⟨o,k _ _ ho,hd⟩;have kf:∀ x,(x,NameKind.free)∈scope.names->∃ c,X.env.cells.lookup x=some c/\(AW X.env.cells scope.names []).lookup x=some c:=λ x hx=>by
    obtain ⟨c0,e0⟩:=S.cells I.ok (x, .free) hx rfl;obtain ⟨c,e⟩:=GL (cells:=X.env.cells) scope.names [] x (.inl ⟨hx,c0,e0⟩);exact ⟨c,cs _ _ e,e⟩
  have rel:∀ x,(compEnvC scope (AW X.env.cells scope.names []) s.heap.objs.size X.env).kindOf x=(scope.names.lookup x).map λ k=>if (k == NameKind.free&&X.env.scope.kind == .function&&X.env.kindOf x == some .cell)=true then NameKind.cell else k:=λ x=>HF X.env x scope.names
  have nc:∀ x,scope.names.lookup x≠some .cell:=λ x e=>S.nocell _ (PySem.mem_of_lookup e) rfl;refine ⟨⟨I.ok.mod,S.kind,I.ok.glob,I.ok.blt,Nat.le_refl _,λ x y c e1 e2=>I.ok.inj x y c (cs _ _ e1) (cs _ _ e2),λ x hx=> ?_,λ x c e _=>(nomatch e),I.ok.hd,I.ok.frames, .inl rfl,
    λ b hb=>⟨Nat.ne_of_lt (hlt b hb),λ x c e=>(hf b hb).2.2.2.2.1 x c (cs _ _ e)⟩,I.bs,Nat.le_trans I.ok.bsz I.sz,λ b o e hb=> ?_,λ b hb z=>(List.mem_cons.mp (I.stkSub b z)).elim (hf b hb).2.1 (hf b hb).2.2.1,I.stack,I.stkFree⟩,
    rfl,I.bare,Un.kept k,⟨m,hns,λ i x v e1 e2 e3=> ?_⟩,λ x c e=> ?_,I.hok.fresh (Nat.le_refl _),λ x c e=>I.freeC x c (cs _ _ e),λ p hp=>absurd (show p∈([]:List (Addr × Obj)) from hp) (by simp),I.hok.kept k,?_⟩
  · have hx:(compEnvC scope (AW X.env.cells scope.names []) s.heap.objs.size X.env).kindOf x=some .cell\/(compEnvC scope (AW X.env.cells scope.names []) s.heap.objs.size X.env).kindOf x=some .free:=hx;rw [rel x] at hx;have q:scope.names.lookup x=some .free:=by
      cases e:scope.names.lookup x with
      | none=>rw [e] at hx;simp at hx
      | some kk=>
        rw [e] at hx;simp only [Option.map_some,Option.some.injEq] at hx;by_cases hk:kk= .free
        · rw [hk]
        · have hb:(kk == NameKind.free)=false:=by simpa using hk
          simp only [hb,Bool.false_and,Bool.false_eq_true,if_false] at hx;rcases hx with hx | hx
          · rw [hx] at e;exact absurd e (nc x)
          · exact absurd hx hk
    obtain ⟨c,_,e⟩:=kf x (PySem.mem_of_lookup q);exact ⟨c,e⟩
  · rcases (hf b hb).2.2.2.1 with z | z
    · exact I.ok.noex b o e z
    · exact absurd (Nat.lt_of_lt_of_le (Heap.lt_size (I.ok.bs b o e).1) z) (Nat.lt_irrefl _)
  · have e1:(own++fr.map (·.1))[i]?=some x:=e1;have e2:(Fa own fr σ)[i]?=some (some v):=e2;unfold Fa at e2;by_cases hi:i<own.length
    · rw [List.getElem?_append_left (by simpa using hi),List.getElem?_map] at e2;rw [List.getElem?_eq_getElem hi] at e2;simp at e2
    · rw [List.getElem?_append_right (by simpa using hi),List.getElem?_map,List.length_map] at e2;rw [List.getElem?_append_right (by omega),List.getElem?_map] at e1;cases ep:fr[i - own.length]? with
      | none=>rw [ep] at e1;simp at e1
      | some p=>
        rw [ep] at e1 e2;simp only [Option.map_some,Option.some.injEq] at e1 e2;subst e1;obtain ⟨h1,h2⟩:=S.fr p (List.mem_of_getElem? ep);have e4:σ[p.2]?=some (some v):=by
          cases q:σ[p.2]? with
          | none=>rw [q] at e2;simp at e2
          | some z=>rw [q] at e2;simp at e2;rw [e2]
        have kx:=S.free _ h2 rfl;obtain ⟨m0,hn0,hl0⟩:=I.loc;obtain ⟨u,r,l⟩:=hl0 p.2 p.1 v h1 e4 (kx.elim (λ z=> .inr (.inl z)) λ z=> .inr (.inr z));refine ⟨u,r,?_⟩;rcases l with ⟨z,_⟩ | ⟨_,c,hc,hcell⟩
        · have z:X.env.scope.names.lookup p.1=some .local:=z;rcases kx with y | y <;> (rw [y] at z;cases z)
        · obtain ⟨c',q1,q2⟩:=kf p.1 h2;rw [hc] at q1;cases q1;refine .inr ⟨?_,c,q2,ck _ _ hcell⟩;show (compEnvC scope (AW X.env.cells scope.names []) s.heap.objs.size X.env).kindOf p.1=some .cell\/(compEnvC scope (AW X.env.cells scope.names []) s.heap.objs.size X.env).kindOf p.1=some .free;have e3:(compEnvC scope (AW X.env.cells scope.names []) s.heap.objs.size X.env).kindOf p.1=some .local\/(compEnvC scope (AW X.env.cells scope.names []) s.heap.objs.size X.env).kindOf p.1=some .cell\/(compEnvC scope (AW X.env.cells scope.names []) s.heap.objs.size X.env).kindOf p.1=some .free:=e3;rcases e3 with e3 | e3
          · exfalso;rw [rel] at e3;cases e:scope.names.lookup p.1 with
            | none=>rw [e] at e3;cases e3
            | some kk=>
              rw [e] at e3;simp only [Option.map_some,Option.some.injEq] at e3;by_cases hk:kk= .free
              · subst hk;split at e3 <;> cases e3
              · have hb:(kk == NameKind.free)=false:=by simpa using hk
                simp only [hb,Bool.false_and,Bool.false_eq_true,if_false] at e3;subst e3;have:=S.only p.1 h2;rw [this] at e;cases e
          · exact e3
  · obtain ⟨v,z⟩:=I.cell x c (cs _ _ e);exact ⟨v,ck _ _ z⟩
  · unfold Fa;show _=(own++fr.map (·.1)).length;simp
end
theorem K2 {prog:Program} {w:World} {A:Around} {R:Result->Shared->Prop} {s:Shared} {elt target iter:Expr} {ifs:List Expr} {scope:Scope} {pos:Pos} {it acc:Value} {env:Env} (I:Nat->Shared->Prop)
    (turn:∀ n s,I n s->wpAny (model prog w) A (pyNext it) (λ r s₁=>match r with
      | none=>R (.ok .next) s₁
      | some v=>wpAny (model prog w) A (letOwnedTupleGo target it v) (λ _ s₁'=>wpAny (model prog w) A (assign target env v) (λ _ s₂=>
          wpAny (model prog w) A (forIn ifs true λ c r=>if r=true then do let ok <-isTrue c env (eval c env);pure (ForInStep.yield ok) else pure (ForInStep.yield r)) (λ ok s₃=>
            if ok=true then wpAny (model prog w) A (eval elt env) (λ x s₄=>
              wpAny (model prog w) A (call (.builtin "list.append") [acc,x]) (λ _ s₅=>∃ m,m<n/\I m s₅) (λ _ _=>False) s₄) (λ _ _=>False) s₃
            else ∃ m,m<n/\I m s₃) (λ _ _=>False) s₂) (λ _ _=>False) s₁') (λ _ _=>False) s₁) (λ _ _=>False) s)
    (n:Nat) (h:I n s):codeAny (model prog w) A (.compLoop (.ListComp elt [⟨target,iter,ifs,0⟩] scope pos) 0 it acc env) R s:=by
  refine codeAny_loop rfl I (λ n s hI=> ?_) n h;show wpAny _ A ((compTurn (.ListComp elt [⟨target,iter,ifs,0⟩] scope pos) 0 it acc env).onRaise (λ x=>do noteFrame x env;theTreesLotGoes x)) _ _ s;refine wpAny_noted ?_;rw [compTurn_list];refine wpAny_bind (wpAny_standAt (wpAny_bind (wpAny_mono (turn n s hI) (λ r s₁ h₁=> ?_) λ _ _ f=>f.elim)));cases r with
  | none=>exact wpAny_pure h₁
  | some v=>
    refine wpAny_bind (wpAny_mono h₁ (λ _ s₁' h₁'=>wpAny_bind (wpAny_mono h₁' (λ _ s₂ h₂=>wpAny_bind (wpAny_mono h₂ (λ ok s₃ h₃=> ?_) λ _ _ f=>f.elim)) λ _ _ f=>f.elim)) λ _ _ f=>f.elim);cases ok with
    | false=>exact wpAny_pure ⟨rfl,h₃⟩
    | true=>
      exact wpAny_bind (wpAny_bind (wpAny_mono h₃ (λ x s₄ h₄=>wpAny_bind (wpAny_mono h₄ (λ _ s₅ h₅=>wpAny_pure (wpAny_pure ⟨rfl,h₅⟩)) λ _ _ f=>f.elim)) λ _ _ f=>f.elim))
section
variable {X:Cx}
def PTs (X:Cx) (ifs:List Expr) (tc:TT):Prop:=
  ∀ (pins:List (Addr × Obj)) (s:Shared) (σ:St) (H:Hp) (Q:Bool->Hp->Prop),Inv X pins σ H s->tc σ H Q->
    wpAny (model X.prog X.w) X.A (forIn ifs true λ c r=>if r=true then do let ok <-isTrue c X.env (eval c X.env);pure (ForInStep.yield ok) else pure (ForInStep.yield r)) (TP X pins σ Q) X.xe s
def RZ:TT:=λ _ H Q=>Q true H
theorem Ax:PTs X [] RZ:=λ _ _ _ H _ I h=>wpAny_tests_nil ⟨H,I,h⟩
theorem BC {c:Expr} {tc:TT} (h:PT X c tc):PTs X [c] tc:=λ pins s σ H Q I q=>wpAny_tests_one (h pins s σ H Q I q)
def Kp (σ0 σ:St):Prop:=σ.length=σ0.length/\∀ (i:Nat) (v:V),σ0[i]?=some (some v)->σ[i]?=some (some v)
theorem Kp.refl (σ:St):Kp σ σ:=⟨rfl,λ _ _ h=>h⟩
theorem Kp.set {σ0 σ:St} {i:Nat} {v:V} (k:Kp σ0 σ) (h:σ0[i]?=some none):Kp σ0 (σ.set i (some v)):=by
  refine ⟨by rw [List.length_set];exact k.1,λ j u e=> ?_⟩;by_cases hj:i=j
  · subst hj;rw [h] at e;cases e
  · rw [List.getElem?_set_ne hj];exact k.2 j u e
def F4 (J:It) (σ0:St) (g:TG) (tc:TT) (te:TE) (Q:VK) (H1:Hp) (D:Addr):Prop:=
  ∃ W:Nat->Nat->List V->Hp->Prop,(∃ m,W 0 m [] (upd H1 D (.lst [])))/\∀ i m ys H,W i m ys H->
    (J.stop i H/\Q (.ref D) H)\/(J.go i H/\∃ N:List V->Hp->Prop,(∀ ys' H',N ys' H'->∃ m',m'<m/\W (i+1) m' ys' H')/\∀ x H',J.yld i H x H'->g x σ0 H' λ σ2 H2=>Kp σ0 σ2/\tc σ2 H2 λ b H3=>
      if b=true then te σ2 H3 λ y H4=>H4 D=some (.lst ys)/\ys.length<sizeLine/\N (ys++[y]) (upd H4 D (.lst (ys++[y]))) else N ys H3)
def GP (wi:TI) (own:List Str) (fr:List (Str × Nat)) (g:TG) (tc:TT) (te:TE):TE:=λ σ H Q=>wi σ H λ J H1=>∀ D,H1 D=none->F4 J (Fa own fr σ) g tc te Q H1 D
theorem J2 {elt tg iter:Expr} {ifs:List Expr} {scope:Scope} {pos:Pos} {own:List Str} {fr:List (Str × Nat)} {g:TG} {tc:TT} {te:TE} (hc:X.calm=true) (S:BlkScope X scope own fr)
    (hg:∀ C ex s H,PG (AV X scope own fr C ex s H) tg g) (ht:∀ C ex s H,PTs (AV X scope own fr C ex s H) ifs tc) (he:∀ C ex s H,PE (AV X scope own fr C ex s H) elt te)
    {pins:List (Addr × Obj)} {σ:St} {H:Hp} {s:Shared} {it:Addr} {fp:List Addr} {tn:Nat->Heap->Prop} {J:It} {E:Value->Shared->Prop}
    (I:Inv X pins σ H s) (T:Turn X.prog X.w X.K tg J fp it tn) (st:tn 0 s.heap) (hf:∀ b∈fp,Dq X pins H b) {Q:VK}
    (h:∀ D,H D=none->F4 J (Fa own fr σ) g tc te Q H D)
    {RR:Value->Addr->Result->Shared->Prop}
    (hR:∀ D C H' s',Inv X pins σ H' s'->(∃ m,s'.heap.Ns C m)->Dq X pins H' C->Q (.ref D) H'->RR (.ref D) C (.ok .next) s'):
    wpAny (model X.prog X.w) X.A (newList []) (λ acc s₃=>wpAny (model X.prog X.w) X.A (newFunctionEnv scope X.env.globals (AW X.env.cells scope.names []) [] X.env.qual none .none (some X.env)) (λ cenv s₄=>
      codeAny (model X.prog X.w) X.A (.compStart (.ListComp elt [⟨tg,iter,ifs,0⟩] scope pos) 0 (.ref it) acc { cenv with scope:=relabel scope X.env }) (RR acc cenv.locals) s₄) E s₃) E s:=by
  have hDn:H s.heap.objs.size=none:=I.fresh;obtain ⟨W,⟨m0,w0⟩,turn⟩:=h s.heap.objs.size hDn;have I3:Inv X pins σ (upd H s.heap.objs.size (.lst [])) { s with heap:=s.heap.push { cls:= .type "list",data:= .seq ([]:List Value).toArray },toks:=s.toks }:=I.lnew .nil (Nat.zero_le _);refine wpAny_newObj_type ?_;generalize hs3:({ s with heap:=s.heap.push { cls:= .type "list",data:= .seq ([]:List Value).toArray } }:Shared)=s3 at I3 ⊢;have I3:Inv X pins σ (upd H s.heap.objs.size (.lst [])) s3:=I3;have old3:∀ b o,s.heap.get? b=some o->s3.heap.get? b=some o:=λ b o e=>by rw [<-hs3];exact Heap.get?_push_of_some _ e
  have hobj:∀ b∈fp,∃ o,s.heap.get? b=some o/\∀ v,o.data≠ .cell v:=T.obj 0 _ st;have hne:∀ b∈fp,b≠s.heap.objs.size:=λ b hb=>by obtain ⟨o,e,_⟩:=hobj b hb;exact Nat.ne_of_lt (Heap.lt_size e)
  have hf3:∀ b∈fp,Dq X pins (upd H s.heap.objs.size (.lst [])) b:=λ b hb=>⟨by rw [Am (hne b hb)];exact (hf b hb).1,(hf b hb).2⟩;have hlt3:∀ b∈fp,b<s3.heap.objs.size:=λ b hb=>by obtain ⟨o,e,_⟩:=hobj b hb;exact Heap.lt_size (old3 b o e)
  refine wpAny_newFunctionEnv S.nocell (by intro y hy;simp at hy) (λ h₁ hns hsb=> ?_) S.kind;have keep:∀ b o,s3.heap.get? b=some o->h₁.get? b=some o:=λ b o e=>hsb.extBut b o (Nat.ne_of_lt (Heap.lt_size e)) (Heap.get?_push_of_some _ e);have J0:=I3.block (t':=s3.toks+([]:List (Str × Value)).length) S hf3 hlt3 hns keep;have st3:tn 0 h₁:=T.keep 0 _ _ st λ b hb o e=>keep b o (old3 b o e);have loop:codeAny (model X.prog X.w) X.A (.compLoop (.ListComp elt [⟨tg,iter,ifs,0⟩] scope pos) 0 (.ref it) (.ref s.heap.objs.size) (compEnvC scope (AW X.env.cells scope.names []) s3.heap.objs.size X.env))
      (RR (.ref s.heap.objs.size) s3.heap.objs.size) { s3 with heap:=h₁,toks:=s3.toks+([]:List (Str × Value)).length }:=by
    have stat:∀ {H':Hp},(∀ b∈fp,H' b=none)->∀ b∈fp,Dq (AV X scope own fr s3.heap.objs.size fp s3 (upd H s.heap.objs.size (.lst []))) [] H' b:=λ {H'} hn b hb=>
      ⟨hn b hb,Nat.ne_of_lt (hlt3 b hb),J0.ok.exfs b hb, .inl hb,(J0.ok.exf b hb).2,λ p hp=>absurd (show p∈([]:List (Addr × Obj)) from hp) (by simp)⟩
    refine K2 (λ n s'=>∃ i ys H',Inv (AV X scope own fr s3.heap.objs.size fp s3 (upd H s.heap.objs.size (.lst []))) [] (Fa own fr σ) H' s'/\tn i s'.heap/\(∀ b∈fp,H' b=none)/\W i n ys H') ?_ m0
      ⟨0,[],_,J0,st3,λ b hb=>(hf3 b hb).1,w0⟩
    rintro n s4 ⟨i,ys,H4,I4,st4,fr4,w4⟩;rcases turn i n ys H4 w4 with ⟨stop,q⟩ | ⟨go,N,hN,step⟩
    · refine thn (T.done (AV X scope own fr s3.heap.objs.size fp s3 (upd H s.heap.objs.size (.lst []))) rfl rfl rfl hc i [] s4 _ H4 (λ _ _=>False) I4 (stat fr4) st4 stop) λ r s5 ⟨hr,I5⟩=> ?_;subst hr;obtain ⟨m,hn,_⟩:=id I5.loc;exact hR _ _ H4 s5 (I3.call' I5.os I5.base I5.hok I5.bare λ b hb=>⟨(hf3 b hb).2.2.2.1,(hf3 b hb).2.1,(hf3 b hb).2.2.2.2.1,(hf3 b hb).2.2.2.2.2⟩) ⟨m,hn⟩ (I3.fpOk (Nat.le_refl _) I5.free) q
    · refine thn (T.item (AV X scope own fr s3.heap.objs.size fp s3 (upd H s.heap.objs.size (.lst []))) rfl rfl rfl hc i [] s4 _ H4 (λ _ _=>False) I4 (stat fr4) st4 go) λ r s5 ⟨u,hr,h5⟩=> ?_;subst hr;refine thn h5 λ _ s6 ⟨x,H6,I6,r6,y6,st6,fr6⟩=> ?_;have I6':=I6.pinned (stat fr6) (T.obj _ _ st6);refine thn (hg _ _ _ _ _ s6 _ H6 x u _ I6' r6 (step x H6 y6)) λ _ s7 ⟨σ7,H7,I7,kp,q7⟩=> ?_;refine thn (ht _ _ _ _ _ s7 σ7 H7 _ I7 q7) λ b s8 ⟨H8,I8,q8⟩=> ?_;have again:∀ {s9:Shared} {H9:Hp} {ys':List V},Inv (AV X scope own fr s3.heap.objs.size fp s3 (upd H s.heap.objs.size (.lst []))) ([]++GU fp s6.heap) σ7 H9 s9->N ys' H9->
          ∃ m,m<n/\∃ i ys H',Inv (AV X scope own fr s3.heap.objs.size fp s3 (upd H s.heap.objs.size (.lst []))) [] (Fa own fr σ) H' s9/\tn i s9.heap/\(∀ b∈fp,H' b=none)/\W i m ys H':=λ {s9 H9 ys'} I9 n9=>by
        obtain ⟨m',hm,w9⟩:=hN ys' H9 n9;refine ⟨m',hm,i+1,ys',H9,I9.unpinned.weak kp.1.symm kp.2,T.keep _ _ _ st6 λ b hb o e=>(I9.pin (b,o) (List.mem_append_right _ (List.mem_append_right _ (C1 hb e)))).1,λ b hb=> ?_,w9⟩;obtain ⟨o,e,d⟩:=T.obj _ _ st6 b hb;exact (I9.pin (b,o) (List.mem_append_right _ (List.mem_append_right _ (C1 hb e)))).2.1
      cases b with
      | false=>
        rw [if_neg Bool.false_ne_true] at q8 ⊢;exact again I8 q8
      | true=>
        rw [if_pos rfl] at q8 ⊢;refine thn (he _ _ _ _ _ s8 σ7 H8 _ I8 q8) λ xv s9 ⟨y,H9,I9,r9,hD,hl,n9⟩=> ?_;refine thn (DY _ s9 σ7 H9 (.ref s.heap.objs.size) [y] (.ref s.heap.objs.size) [xv] (λ _ H'=>H'=upd H9 s.heap.objs.size (.lst (ys++[y]))) I9 rfl (.cons r9 .nil) ⟨_,ys,y,rfl,rfl,hD,hl,rfl⟩) λ _ s10 ⟨_,H10,I10,_,q10⟩=> ?_;subst q10;exact again I10 n9
  exact codeAny_compStart_list loop (T.self _ 0 _ _ _ st3 loop)
theorem JP {elt tg iter:Expr} {ifs:List Expr} {scope:Scope} {pos:Pos} {own:List Str} {fr:List (Str × Nat)} {wi:TI} {g:TG} {tc:TT} {te:TE} (hc:X.calm=true) (S:BlkScope X scope own fr) (hi:PI X tg iter wi)
    (hg:∀ C ex s H,PG (AV X scope own fr C ex s H) tg g) (ht:∀ C ex s H,PTs (AV X scope own fr C ex s H) ifs tc) (he:∀ C ex s H,PE (AV X scope own fr C ex s H) elt te)
    (hs:∀ x,foldedSetIterable iter X.env x=pure x:=by intro _;rfl):PE X (.ListComp elt [⟨tg,iter,ifs,0⟩] scope pos) (GP wi own fr g tc te):=by
  intro pins s σ H Q I h;rw [eval_ListComp];refine wpAny_comprehension_free (use:=none) rfl hs (Ep (S.cells I.ok)) S.kind S.loc (thn (hi pins s σ H _ I h) λ xv s₁ h₁=>thn h₁ λ itv s₂ h₂=> ?_);obtain ⟨it,fp,tn,J,H2,rfl,I2,T,st2,f2,h2⟩:=h₂;refine J2 (RR:=λ acc C=>compPost (model X.prog X.w) X.A X.xe none (EP X pins σ Q) acc C) hc S hg ht he I2 T st2 f2 h2 ?_;rintro D C H' s' I' ⟨m,hn⟩ f q;exact ⟨m,hn,λ h' sb=>⟨.ref D,H',I'.turned (t':=s'.toks) (it:=C) (λ b o hb e=>(sb.2 b hb).trans e) f.1 f.2.1 f.2.2.2.1 f.2.2.2.2.1 f.2.2.2.2.2,rfl,q⟩⟩
theorem RW {i:Nat} {x:Str} {px spos:Pos} {elt tg iter:Expr} {ifs:List Expr} {scope:Scope} {pos:Pos} {own:List Str} {fr:List (Str × Nat)} {wi:TI} {g:TG} {tc:TT} {te:TE} (hN:X.N.Nodup) (hix:X.N[i]?=some x) (hx:Loc X.env.scope x)
    (hc:X.calm=true) (S:BlkScope X scope own fr) (hi:PI X tg iter wi)
    (hg:∀ C ex s H,PG (AV X scope own fr C ex s H) tg g) (ht:∀ C ex s H,PTs (AV X scope own fr C ex s H) ifs tc) (he:∀ C ex s H,PE (AV X scope own fr C ex s H) elt te)
    (hsw:swapsWith (.ListComp elt [⟨tg,iter,ifs,0⟩] scope pos) (some (.Name x px)) spos.line X.env=pure true:=by rfl)
    (hf:X.fn x=true\/X.env.scope.names.lookup x=some .local:=by first | exact .inl rfl | exact .inr rfl | assumption)
    (hs:∀ x,foldedSetIterable iter X.env x=pure x:=by intro _;rfl):PS X (.Assign [.Name x px] (.ListComp elt [⟨tg,iter,ifs,0⟩] scope pos) spos) (QH (GP wi own fr g tc te) (AM i)):=by
  intro pins s σ H D I h;rw [exec_Assign_Name_used _ _ _ _ hsw];refine wpAny_bind (wpAny_standAt (wpAny_bind ?_));show wpAny _ X.A (do let _ <-comprehension (.ListComp elt [⟨tg,iter,ifs,0⟩] scope pos) scope X.env _ (newList []) false (eval iter X.env) (some (assign (.Name x px) X.env))) _ _ s;refine wpAny_bind (wpAny_mono (wpAny_comprehension_free (use:=some (assign (.Name x px) X.env)) (Q:=λ _ s'=>SP X pins D .next s') rfl hs (Ep (S.cells I.ok)) S.kind S.loc
    (thn (hi pins s σ H _ I h) λ xv s₁ h₁=>thn h₁ λ itv s₂ h₂=> ?_)) (λ _ s' hq=>wpAny_pure (wpAny_pure hq)) λ _ _ e=>e)
  obtain ⟨it,fp,tn,J,H2,rfl,I2,T,st2,f2,h2⟩:=h₂;refine J2 (Q:=λ x H1=>AM i x σ H1 D.nx) (RR:=λ acc C=>compPost (model X.prog X.w) X.A X.xe (some (assign (.Name x px) X.env)) (λ _ s'=>SP X pins D .next s') acc C) hc S hg ht he I2 T st2 f2 h2 ?_;rintro Dl C H' s' I' ⟨m,hn⟩ f q;obtain ⟨o,es,ep,ho,hd,r⟩:=hn;have pinC:∀ v,o.data≠ .cell v:=λ v z=>by rw [hd] at z;cases z
  have I'':Inv X (pins++[(C,o)]) σ H' s':=I'.pins_of λ p hp=>(List.mem_append.mp hp).elim (λ z=>I'.pin p (List.mem_append_right _ z)) λ z=>by
    have e:p=(C,o):=by simpa using z
    subst e;exact ⟨ho,f.1,f.2.1,f.2.2.1,pinC⟩
  show wpAny _ X.A (assign (.Name x px) X.env (.ref Dl)) _ _ s';refine wpAny_assign_Name (BZ I'' hN hix hx (v:= .ref Dl) rfl (λ s2 I2=> ?_) hf);have pc:=(I2.pin (C,o) (List.mem_append_right _ (List.mem_append_right _ (by simp)))).1;refine ⟨m,⟨o,es,ep,pc,hd,r⟩,λ h' sb=>⟨_,H',?_,q⟩⟩;exact (I2.unpinned (pl:=[(C,o)])).turned (t':=s2.toks) (it:=C) (λ b o hb e=>(sb.2 b hb).trans e) f.1 f.2.1 f.2.2.2.1 f.2.2.2.2.1 f.2.2.2.2.2
end
section
variable {X:Cx} {tg:Expr}
end
end L2
namespace MS
open PySem PySem.StrLaws Builtin Builtin.Str
end MS
namespace MN
open PySem PySem.StrLaws PySem.NumText Builtin Builtin.Str
def Wy (c:Nat):Bool:=decide (48<=c)&&decide (c<=57)
def PJ (cs:List Nat):Option Nat:=if (decide (1<=cs.length)&&decide (cs.length<=3)&&cs.all Wy&& !(decide (1<cs.length)&&cs.head? == some 48))=true then some (digitsVal cs) else none
theorem Qd:∀ m,m<1000->PJ ((Nat.toDigits 10 m).map Char.toNat)=some m:=by decide +kernel
theorem P8 {i:Int} (h0:0<=i) (h1:i<1000):PJ (Str.ofString (toString i)).cps.toList=some i.toNat:=by
  obtain ⟨m,rfl⟩:=Int.eq_ofNat_of_zero_le h0;rw [PySem.W.KIN.signs_num];exact Qd m (by omega)
theorem num_len {i:Int} (h0:0<=i) (h1:i<1000):(Str.ofString (toString i)).length<=3:=by
  have h:=P8 h0 h1;unfold PJ at h;split at h
  · rename_i hc
    simp only [Bool.and_eq_true,decide_eq_true_iff] at hc;have:=hc.1.1.2;simpa [Str.length] using this
  · cases h
end MN
namespace L2
open PySem PySem.Spec PyProof.Rows
section
variable {X:Cx}
theorem Ci:∀ {ns:List Int} {l:List (Int × Tok)},Vals (ns.map V.int) (l.map λ p=>Value.int p.1 p.2)->l.map (·.1)=ns
  | [],[],_=>rfl
  | n::ns,p::l,r=>by
    cases r with
    | cons r1 r2=>
      obtain ⟨t,e⟩:=r1;injection e with e1 e2;rw [List.map_cons,Ci r2,e1]
  | [],_::_,r=>by cases r
  | _::_,[],r=>by cases r
theorem PK (hc:X.calm=true):AU X (.builtin "sum") (λ xs H Q=>∃ (p:Addr) (ns:List Int),xs=[.ref p]/\SqL X.K H p (ns.map V.int)/\Q (.int ns.sum) H):=by
  intro pins s σ H xs us Q I r h;obtain ⟨p,ns,rfl,hq,q⟩:=h;obtain ⟨u,rfl,rx⟩:=Cg r;cases rx;obtain ⟨its,rv,pl,_⟩:=I.list hq;obtain ⟨ps,e⟩:=(IntsAre.allInts (C2 rv)).items;have e':its=ps.toList.map λ p=>Value.int p.1 p.2:=by
    have:=congrArg Array.toList e;simpa [intItems] using this
  have hl:=pl.isList;rw [e] at hl;refine sum_intListG (I.ok.hd hc) hl λ h' tk t' hk=> ?_;have es:preSum (numAt ps) ps.size=ns.sum:=by
    rw [preSum_eq,List.take_of_length_le (by simp),Ci (ns:=ns) (l:=ps.toList) (by rw [<-e'];exact rv)]
  rw [es];exact ⟨.int ns.sum,H,I.kept hk,⟨t',rfl⟩,q⟩
theorem Nm (bs:List Bool):(List.range bs.length).all (λ i=>bs.getD i true)=bs.all id:=by
  rw [Bool.eq_iff_iff,List.all_eq_true,List.all_eq_true];constructor
  · intro h b hb;obtain ⟨i,hi,rfl⟩:=List.getElem_of_mem hb;have:=h i (by simpa using hi);rw [List.getD_eq_getElem?_getD,List.getElem?_eq_getElem hi] at this;exact this
  · intro h i hi;have hi:i<bs.length:=by simpa using hi
    rw [List.getD_eq_getElem?_getD,List.getElem?_eq_getElem hi];exact h _ (List.getElem_mem hi)
theorem PZ (hc:X.calm=true):AU X (.builtin "all") (λ xs H Q=>∃ (p:Addr) (bs:List Bool),xs=[.ref p]/\SqL X.K H p (bs.map V.bl)/\Q (.bl (bs.all id)) H):=by
  intro pins s σ H xs us Q I r h;obtain ⟨p,bs,rfl,hq,q⟩:=h;obtain ⟨u,rfl,rx⟩:=Cg r;cases rx;obtain ⟨its,rv,pl,_⟩:=I.list hq;have hl:=rv.length;rw [List.length_map] at hl;obtain ⟨o,ho,_⟩:=id pl.isList;have hne:p≠s.heap.objs.size:=Nat.ne_of_lt (Heap.lt_size ho);refine call_all_walk (wpAny_pyIter_list pl.isList ?_);refine ⟨s.heap.objs.size,_,_,_,_,_,λ i=>bs.getD i true,rfl,Walks.list (A:=X.A.in1) (I.ok.hd hc) _ p hne its.toArray,⟨⟨_,Heap.get?_push_size _ rfl,rfl,rfl⟩,pl.isList.at λ o e=>Heap.get?_push_of_some _ e⟩,?_,λ h' tk hk=> ?_⟩
  · intro i v s' Q' E' hv hQ';have hv:its[i]?=some v:=by simpa using hv
    have hi:i<bs.length:=by rw [hl];exact (List.getElem?_eq_some_iff.mp hv).1
    obtain ⟨u,hu,ru⟩:=rv.get (i:=i) (x:= .bl (bs.getD i true)) (by rw [List.getElem?_map,List.getD_eq_getElem?_getD,List.getElem?_eq_getElem hi];rfl);rw [hu] at hv;cases hv;cases ru;exact wpAny_truthy_bool hQ'
  · have e:its.toArray.size=bs.length:=by rw [List.size_toArray];exact hl.symm
    rw [e,Nm];exact ⟨.bl _,H,I.kept λ b o e=>hk b o (λ z=>by simp at z;exact absurd (Heap.lt_size e) (by rw [z];exact Nat.lt_irrefl _)) (Heap.get?_push_of_some _ e),rfl,q⟩
theorem Kk:AU X (.builtin "isinstance") (λ xs H Q=>∃ x n t b,xs=[x, .ty n]/\TyOf X.K H x t/\PySem.W.kitOne X.K t (.type n)=some b/\Q (.bl b) H):=by
  intro pins s σ H xs us Q I r h;obtain ⟨x,n,t,b,rfl,ty,e,q⟩:=h;obtain ⟨u,c,rfl,rx,rc⟩:=KQ r;cases rc;exact IH I rx ty e λ tk=>⟨.bl b,H,I.tok tk,rfl,q⟩
def Pb (K:PySem.W.Frag):R2:=λ x y H Q=>∃ l b xs zs,x= .ref l/\y= .ref b/\SqL K H l xs/\SqL K H b zs/\xs.length+zs.length<=sizeLine/\∀ p,H p=none->Q (.ref p) (upd H p (.lst (xs++zs)))
theorem RE:OpR X (binaryOp .Add) (Pb X.K):=by
  intro pins s σ H x y v u Q I rx ry h;obtain ⟨l,b,xs,zs,rfl,rfl,hH,hB,hz,q⟩:=h;cases rx;cases ry;obtain ⟨its,r,pl,_⟩:=I.list hH;obtain ⟨its2,r2,pl2,_⟩:=I.list hB;have h1:=r.length;have h2:=r2.length;obtain ⟨⟨cls,dd,data,sl⟩,n,ho,hc,hdd,hd⟩:=pl;obtain ⟨⟨cls2,dd2,data2,sl2⟩,n2,ho2,hc2,hdd2,hd2⟩:=pl2;simp only at hc hdd hd hc2 hdd2 hd2;subst hc hdd hd hc2 hdd2 hd2;refine concat_meets ⟨_,ho,rfl⟩ ⟨_,ho2,rfl⟩ noFill_list_add seq_list_add PySem.F.slot_list_add PySem.F.entry_list_add (PySem.F.args_list_add_2 _ _) (list_addW l b its.toArray its2.toArray n n2 none none sl sl2 (by rw [List.size_toArray,List.size_toArray];omega)) ⟨ho,ho2,?_⟩;have e:its.toArray++its2.toArray=(its++its2).toArray:=by simp
  rw [e];exact ⟨.ref _,_,I.lnew (t':=s.toks) (r.append r2) (by rw [List.length_append];omega),rfl,q _ I.fresh⟩
def EM (xs ys:List V):Bool:=xs.length == ys.length&&(List.range xs.length).all λ i=>eqV (xs.getD i .non) (ys.getD i .non)
theorem IA {xs:List V} (h:xs.all A0=true) {i:Nat} (hi:i<xs.length):A0 (xs.getD i .non)=true:=by
  rw [List.getD_eq_getElem?_getD,List.getElem?_eq_getElem hi];exact (List.all_eq_true.mp h) _ (List.getElem_mem hi)
def LR (K:PySem.W.Frag) (neg:Bool):R2:=λ x y H Q=>∃ p q xs ys,x= .ref p/\y= .ref q/\SqL K H p xs/\SqL K H q ys/\xs.all A0=true/\ys.all A0=true/\Q (.bl (if neg then !EM xs ys else EM xs ys)) H
theorem Hz {A:Around} {s:Shared} {xs ys:List V} {its its2:List Value} (r:Vals xs its) (r2:Vals ys its2) (fx:xs.all A0=true) (fy:ys.all A0=true):
    ∀ j (h1:j<its.toArray.size) (h2:j<its2.toArray.size),SeqAt.EqAt A s its.toArray[j] its2.toArray[j] (eqV (xs.getD j .non) (ys.getD j .non)):=λ j h1 h2=>by
  have l1:=r.length;have l2:=r2.length;have h1':j<its.length:=by simpa using h1
  have h2':j<its2.length:=by simpa using h2
  have g1:xs[j]?=some (xs.getD j .non):=by rw [List.getD_eq_getElem?_getD,List.getElem?_eq_getElem (by omega)];rfl
  have g2:ys[j]?=some (ys.getD j .non):=by rw [List.getD_eq_getElem?_getD,List.getElem?_eq_getElem (by omega)];rfl
  obtain ⟨u,e1,ru⟩:=r.get g1;obtain ⟨u2,e2,ru2⟩:=r2.get g2;have q1:its.toArray[j]=u:=by rw [List.getElem?_eq_getElem h1'] at e1;simpa using Option.some.inj e1
  have q2:its2.toArray[j]=u2:=by rw [List.getElem?_eq_getElem h2'] at e2;simpa using Option.some.inj e2
  rw [q1,q2];exact OD ru ru2 (IA fx (by omega)) (IA fy (by omega))
theorem Uh (hu:X.A.units<cLine):OpR X (compareOp .Eq) (LR X.K false):=by
  intro pins s σ H x y v u Q I rx ry h;obtain ⟨p,q,xs,ys,rfl,rfl,h1,h2,fx,fy,hq⟩:=h;cases rx;cases ry;obtain ⟨its,r,pl,_⟩:=I.list h1;obtain ⟨its2,r2,pl2,_⟩:=I.list h2;have l1:=r.length;have l2:=r2.length;by_cases hl:xs.length=ys.length
  · refine SeqAt.eq_listAt pl.isList pl2.isList (by simp;omega) hu (Hz r r2 fx fy) ⟨.bl _,H,I,rfl,?_⟩;have e:EM xs ys=(List.range its.toArray.size).all λ i=>eqV (xs.getD i .non) (ys.getD i .non):=by
      unfold EM;rw [hl,beq_self_eq_true,Bool.true_and,List.size_toArray, <-l1,hl]
    rw [<-e];exact hq
  · refine SeqAt.eq_list_lengthsAt pl.isList pl2.isList (by simp;omega) hu ⟨.bl _,H,I,rfl,?_⟩;have e:EM xs ys=false:=by unfold EM;rw [beq_eq_false_iff_ne.mpr hl,Bool.false_and]
    rw [<-e];exact hq
theorem Tq (hu:X.A.units<cLine):OpR X (compareOp .NotEq) (LR X.K true):=by
  intro pins s σ H x y v u Q I rx ry h;obtain ⟨p,q,xs,ys,rfl,rfl,h1,h2,fx,fy,hq⟩:=h;cases rx;cases ry;obtain ⟨its,r,pl,_⟩:=I.list h1;obtain ⟨its2,r2,pl2,_⟩:=I.list h2;have l1:=r.length;have l2:=r2.length;by_cases hl:xs.length=ys.length
  · refine SeqAt.RcNeAt.lists pl.isList pl2.isList (by simp;omega) hu (Hz r r2 fx fy) _ _ _ _ ⟨.bl _,H,I,rfl,?_⟩;have e:EM xs ys=(List.range its.toArray.size).all λ i=>eqV (xs.getD i .non) (ys.getD i .non):=by
      unfold EM;rw [hl,beq_self_eq_true,Bool.true_and,List.size_toArray, <-l1,hl]
    rw [<-e];exact hq
  · refine SeqAt.RcNeAt.lists_lengths pl.isList pl2.isList (by simp;omega) hu _ _ _ _ ⟨.bl _,H,I,rfl,?_⟩;have e:EM xs ys=false:=by unfold EM;rw [beq_eq_false_iff_ne.mpr hl,Bool.false_and]
    rw [e] at hq;exact hq
theorem Rm {α:Type} [DecidableEq α] (f:α->V) (hf:∀ a b,eqV (f a) (f b)=decide (a=b)) (as bs:List α):EM (as.map f) (bs.map f)=decide (as=bs):=by
  unfold EM;rw [Bool.eq_iff_iff,Bool.and_eq_true,List.all_eq_true,decide_eq_true_iff,beq_iff_eq,List.length_map,List.length_map];constructor
  · rintro ⟨h1,h2⟩;refine List.ext_getElem h1 λ i g1 g2=> ?_;have:=h2 i (by simpa using g1);rw [List.getD_eq_getElem?_getD,List.getD_eq_getElem?_getD,List.getElem?_map,List.getElem?_map,List.getElem?_eq_getElem g1,List.getElem?_eq_getElem g2] at this;have:=(hf _ _).symm.trans this;exact of_decide_eq_true this
  · rintro rfl;refine ⟨rfl,λ i hi=> ?_⟩;have hi:i<as.length:=by simpa using hi
    rw [List.getD_eq_getElem?_getD,List.getElem?_map,List.getElem?_eq_getElem hi];show eqV (f as[i]) (f as[i])=true;rw [hf];exact decide_eq_true rfl
theorem Kw (as bs:List Int):EM (as.map V.int) (bs.map V.int)=decide (as=bs):=Rm V.int (λ a b=>by show (a == b)=_;rw [Bool.eq_iff_iff,beq_iff_eq,decide_eq_true_iff]) as bs
theorem E3 (as:List Int):(as.map V.int).all A0=true:=by simp [A0]
end
def CallF (P:Program) (w:World) (K:PySem.W.Frag) (mg:Str->Option Value) (base:Heap) (x:Str) (k:Nat) (ps:List Str) (sp:Sp):Prop:=
  ∃ f fd,mg x=some (.ref f)/\PySem.W.keepIn K (.ref f)=true/\FnOk P w K mg base CX0 k f fd ps sp/\Binds K fd ps []
section
variable {X:Cx} {x:Str} {k:Nat} {ps:List Str} {sp:Sp} {e:Expr} {es:List Expr} {t:TA} {p pos:Pos}
theorem Ae (h:CallF X.prog X.w X.K X.mg X.base x k ps sp) (hr:Room k X.A) (ha:PA X (e::es) t) (hg:Gl X x:=by rfl) (hdb:(x == ("__debug__":Str))=false:=by decide)
    (he:starEach (e::es) X.env=(false,eval e X.env)::starEach es X.env:=by rfl) (hpl:(backTo pos (starEach es X.env)).any (·.1)=false:=by rfl):
    PE X (.Call (.Name x p) (e::es) [] pos) (Ky sp [] E0 t):=by
  obtain ⟨f,fd,hm,hk,F,hb⟩:=h;exact L6 F hr hg hm hk hb .nil MR ha hdb he hpl
end
structure DefAt (K:PySem.W.Frag) (mg:Str->Option Value) (x:Str) (st:Stmt) (ps:List Str) (f:Addr) (fd:FuncData):Prop where
  fn:Fun K x x st f fd
  at':mg x=some (.ref f)
  bi:Binds K fd ps []
theorem DefAt.call {P:Program} {w:World} {K:PySem.W.Frag} {mg:Str->Option Value} {base:Heap} {x:Str} {st:Stmt} {ps:List Str} {f:Addr} {fd:FuncData} {k:Nat} {sp:Sp} (d:DefAt K mg x st ps f fd)
    (F:FnOk P w K mg base CX0 k f fd ps sp):CallF P w K mg base x k ps sp:=⟨f,fd,d.at',d.fn.kp,F,d.bi⟩
def O1:V->Bool | .int _=>true | _=>false
def Sr:V->Bool | .bl _=>true | _=>false
def Ty (K:PySem.W.Frag) (H:Hp) (x:V):Prop:=∃ n,TyOf K H x (.type n)
def Z9 (n T:String):Option Bool:=if (Value.type n == Value.type T)=true then some true else if PySem.W.kitMeta T=true then (fastBuiltinMro n).map (·.contains (.type T)) else none
section
variable {K:PySem.W.Frag} {H:Hp} {x:V} {n:String}
theorem kb {n T:String} {b:Bool} (h:Z9 n T=some b):PySem.W.kitOne K (.type n) (.type T)=some b:=h
theorem Qp (h:TyOf K H x (.type n)):PySem.W.kitOne K (.type n) (.type "int")=some (O1 x||Sr x):=by
  cases h <;> first
    | exact (show PySem.W.kitOne K _ _=some true from kb (by decide +kernel))
    | exact (show PySem.W.kitOne K _ _=some false from kb (by decide +kernel))
theorem PQ (h:TyOf K H x (.type n)):PySem.W.kitOne K (.type n) (.type "bool")=some (Sr x):=by
  cases h <;> first
    | exact (show PySem.W.kitOne K _ _=some true from kb (by decide +kernel))
    | exact (show PySem.W.kitOne K _ _=some false from kb (by decide +kernel))
end
section
variable {X:Cx}
def Own (mg:Str->Option Value) (names:List Str):Prop:=∀ x∈names,mg x=none
theorem DT:bootBuiltins "all"=some (.builtin "all"):=by decide +kernel
theorem GS {x:Str} {T:String} {pos:Pos} (hg:Gl X x) (hm:X.mg x=none) (hv:bootBuiltins x=some (.type T)) (hn:x≠"__name__":=by decide) (hd:(x == ("__debug__":Str))=false:=by decide):PE X (.Name x pos) (tC (.ty T)):=
  Rb hg hm hv (show RelV (.ty T) (.type T) from rfl) hn hd
end
def Gh (N:List Str) (scope:Scope):List (Str × Nat):=scope.names.filterMap λ y=>if y.2= .free then (N.findIdx? λ n=>decide (n=y.1)).map λ i=>(y.1,i) else none
def Eh (sc:Scope) (N:List Str) (scope:Scope) (own:List Str) (fr:List (Str × Nat)):Bool:=
  decide (scope.kind= .function)&&
  (scope.names.all λ y=>decide (y.2≠ .cell)&&(decide (y.2≠ .local)||decide (scope.names.lookup y.1=some .local))&&
    (decide (y.2≠ .free)||((decide (sc.names.lookup y.1=some .cell)||decide (sc.names.lookup y.1=some .free))&&decide (scope.names.lookup y.1=some .free))))&&
  (fr.all λ p=>decide (N[p.2]?=some p.1)&&decide ((p.1,NameKind.free)∈scope.names))&&
  (own.all λ x=>decide (scope.names.lookup x=some .local))&&decide ((own++fr.map (·.1)).Nodup)
section
variable {X:Cx} {scope:Scope} {own:List Str} {fr:List (Str × Nat)}
theorem BlkScope.of (h:Eh X.env.scope X.N scope own fr=true):BlkScope X scope own fr:=by
  unfold Eh at h;simp only [Bool.and_eq_true,List.all_eq_true,decide_eq_true_iff,Bool.or_eq_true] at h;obtain ⟨⟨⟨⟨h1,h2⟩,h3⟩,h4⟩,h5⟩:=h;exact ⟨h1,λ y hy=>(h2 y hy).1.1,λ y hy e=>(h2 y hy).1.2.resolve_left (λ z=>z e),λ y hy e=>((h2 y hy).2.resolve_left (λ z=>z e)).1,λ p hp=>h3 p hp,λ x hx=>((h2 _ hx).2.resolve_left (λ z=>z rfl)).2⟩
theorem M0 (h:Eh X.env.scope X.N scope own fr=true):(∀ x∈own,scope.names.lookup x=some .local)/\(own++fr.map (·.1)).Nodup:=by
  unfold Eh at h;simp only [Bool.and_eq_true,List.all_eq_true,decide_eq_true_iff,Bool.or_eq_true] at h;exact ⟨h.1.2,h.2⟩
theorem Hh {i:Nat} {x:Str} {px:Pos} (h:Eh X.env.scope X.N scope own fr=true) (hi:own[i]?=some x) (C:Addr) (ex:List Addr) (s:Shared) (H:Hp):PG (AV X scope own fr C ex s H) (.Name x px) (AM i):=by
  obtain ⟨h1,h2⟩:=M0 h;have hl:(relabel scope X.env).names.lookup x=some .local:=lookup_relabel_local (h1 x (List.mem_of_getElem? hi));have hlt:=(List.getElem?_eq_some_iff.mp hi).1;refine Bd h2 ?_ (.inl hl) (.inr hl);show (own++fr.map (·.1))[i]?=some x;rw [List.getElem?_append_left hlt];exact hi
theorem Av {elt iter:Expr} {x:Str} {px:Pos} {ifs:List Expr} {pos:Pos} {wi:TI} {tc:TT} {te:TE} (hi:PI X (.Name x px) iter wi)
    (ht:∀ C ex s H,PTs (AV X scope [x] (Gh X.N scope) C ex s H) ifs tc) (he:∀ C ex s H,PE (AV X scope [x] (Gh X.N scope) C ex s H) elt te)
    (hb:Eh X.env.scope X.N scope [x] (Gh X.N scope)=true:=by with_unfolding_all rfl) (hc:X.calm=true:=by rfl)
    (hs:∀ x,foldedSetIterable iter X.env x=pure x:=by intro _;rfl):PE X (.ListComp elt [⟨.Name x px,iter,ifs,0⟩] scope pos) (GP wi [x] (Gh X.N scope) (AM 0) tc te):=
  JP hc (.of hb) hi (λ C ex s H=>Hh hb rfl C ex s H) ht he hs
theorem B5 {i:Nat} {y x:Str} {py px spos:Pos} {elt iter:Expr} {ifs:List Expr} {pos:Pos} {wi:TI} {tc:TT} {te:TE} (hN:X.N.Nodup) (hix:X.N[i]?=some y) (hx:Loc X.env.scope y) (hi:PI X (.Name x px) iter wi)
    (ht:∀ C ex s H,PTs (AV X scope [x] (Gh X.N scope) C ex s H) ifs tc) (he:∀ C ex s H,PE (AV X scope [x] (Gh X.N scope) C ex s H) elt te)
    (hb:Eh X.env.scope X.N scope [x] (Gh X.N scope)=true:=by with_unfolding_all rfl) (hc:X.calm=true:=by rfl)
    (hsw:swapsWith (.ListComp elt [⟨.Name x px,iter,ifs,0⟩] scope pos) (some (.Name y py)) spos.line X.env=pure true:=by rfl)
    (hf:X.fn y=true\/X.env.scope.names.lookup y=some .local:=by first | exact .inl rfl | exact .inr rfl | assumption)
    (hs:∀ x,foldedSetIterable iter X.env x=pure x:=by intro _;rfl):
    PS X (.Assign [.Name y py] (.ListComp elt [⟨.Name x px,iter,ifs,0⟩] scope pos) spos) (QH (GP wi [x] (Gh X.N scope) (AM 0) tc te) (AM i)):=
  RW hN hix hx hc (.of hb) hi (λ C ex s H=>Hh hb rfl C ex s H) ht he hsw hf hs
end
def Rc (K:PySem.W.Frag):List V->Hp->VK->Prop:=λ xs H Q=>∃ x n,xs=[x]/\Y8 K x H n/\Q (.int n) H
def Um (K:PySem.W.Frag):List V->Hp->VK->Prop:=λ xs H Q=>∃ (p:Addr) (ns:List Int),xs=[.ref p]/\SqL K H p (ns.map V.int)/\Q (.int ns.sum) H
def Yj (K:PySem.W.Frag):List V->Hp->VK->Prop:=λ xs H Q=>∃ (p:Addr) (bs:List Bool),xs=[.ref p]/\SqL K H p (bs.map V.bl)/\Q (.bl (bs.all id)) H
def Sv (K:PySem.W.Frag):List V->Hp->VK->Prop:=λ xs H Q=>∃ x n t b,xs=[x, .ty n]/\TyOf K H x t/\PySem.W.kitOne K t (.type n)=some b/\Q (.bl b) H
def Jn (K:PySem.W.Frag):List V->Hp->VK->Prop:=λ xs H Q=>∃ p ys,xs=[.ref p]/\(SqL K H p ys\/SqT K H p ys)/\∀ l,H l=none->Q (.ref l) (upd H l (.lst ys))
def KL (K:PySem.W.Frag):List V->Hp->VK->Prop:=λ xs H Q=>∃ p ys,xs=[.ref p]/\((SqL K H p ys/\∀ l,H l=none->Q (.ref l) (upd H l (.tup ys)))\/(SqT K H p ys/\Q (.ref p) H))
section
variable {X:Cx} {K:PySem.W.Frag}
theorem AZ (hK:X.K=K:=by rfl):AU X (.builtin "len") (Rc K):=by subst hK;exact P2
theorem P0 (hK:X.K=K:=by rfl) (hc:X.calm=true:=by rfl):AU X (.builtin "sum") (Um K):=by subst hK;exact PK hc
theorem Mp (hK:X.K=K:=by rfl) (hc:X.calm=true:=by rfl):AU X (.builtin "all") (Yj K):=by subst hK;exact PZ hc
theorem FZ (hK:X.K=K:=by rfl):AU X (.builtin "isinstance") (Sv K):=by subst hK;exact Kk
theorem Ck (hK:X.K=K:=by rfl):AU X (.type "list") (Jn K):=by subst hK;exact JN
theorem Cf (hK:X.K=K:=by rfl):AU X (.type "tuple") (KL K):=by subst hK;exact Ik
theorem KI (hK:X.K=K:=by rfl):IxR X (T7 K):=by subst hK;exact RP
theorem Ca (hK:X.K=K:=by rfl):IxR X (Tv K):=by subst hK;exact S0
theorem Z8 (hK:X.K=K:=by rfl):OpR X (compareOp .In) (rIn K false):=by subst hK;exact Nt
theorem GX (hK:X.K=K:=by rfl):OpR X (binaryOp .Add) (Pb K):=by subst hK;exact RE
theorem Xq (hu:X.A.units<cLine) (hK:X.K=K:=by rfl):OpR X (compareOp .Eq) (LR K false):=by subst hK;exact Uh hu
theorem PV (hu:X.A.units<cLine) (hK:X.K=K:=by rfl):OpR X (compareOp .NotEq) (LR K true):=by subst hK;exact Tq hu
theorem Oo (hK:X.K=K:=by rfl):SlR X (TV K):=by subst hK;exact QM
theorem A5 {tg l:Expr} {tl:TE} (hl:PE X l tl) (hK:X.K=K:=by rfl):PI X tg l (Oh K tl):=by subst hK;exact Qs hl
theorem Ma {tg l:Expr} {tl:TE} (hl:PE X l tl) (hK:X.K=K:=by rfl):PI X tg l (S6 K tl):=by subst hK;exact Tc hl
end
section
variable {X:Cx} {pins:List (Addr × Obj)} {σ:St} {H:Hp} {s:Shared} {h':Heap}
theorem Inv.turnedL {t':Nat} (ch:List Addr) (I:Inv X pins σ H s) (hf:∀ b∈ch,Dq X pins H b) (k:∀ b o,b∉ch->s.heap.get? b=some o->h'.get? b=some o):Inv X pins σ H { s with heap:=h',toks:=t' }:=by
  have nit:∀ b u,H b=some u->b∉ch:=λ b u e z=>by rw [(hf b z).1] at e;cases e
  refine I.step (g':=s.gens) (d':=s.drawn) (ch:=ch) (λ b hb=> ?_) (λ b o _ _ hc e _=>k b o hc e) (λ b o _ _ hc e _=>⟨o.slots,k b o hc e⟩) (λ _ _ _ _ n=>n)
    (λ b o hc e=>⟨o,k b o hc e⟩) (λ _ _ e=>e) (λ _ _ _ e=>e) (λ b ps e=>⟨#[],by rw [e];simp⟩) (λ m hm=> ?_) (λ b u e=> ?_) I.bare
  · obtain ⟨f0,f1,f2,f3,f4,f5⟩:=hf b hb;exact ⟨f3,f1,f4,f5⟩
  · obtain ⟨o,es,ep,ho,r⟩:=hm;exact ⟨o,es,ep,k _ o (λ z=>(hf _ z).2.1 rfl) ho,r⟩
  · refine (I.hok b u e).stay (λ c v hc q=>k c v ?_ q) (λ _ q=>q) λ _ _ q=>q;rcases hc with z | z
    · rw [z];exact nit b u e
    · exact nit c _ z
end
def Ite (K:PySem.W.Frag) (a:Addr):It:=
  ⟨λ i H=>∃ xs x,SqL K H a xs/\xs[i]?=some x,λ i H v H'=>∃ p x,H p=none/\v= .ref p/\H'=upd H p (.tup [.int i,x])/\∀ xs,SqL K H a xs->xs[i]?=some x,λ i H=>∃ xs,SqL K H a xs/\xs.length<=i⟩
theorem Lw {X:Cx} {pins:List (Addr × Obj)} {H:Hp} {b p:Addr} {o:HO} (h:Dq X pins H b) (n:b≠p):Dq X pins (upd H p o) b:=⟨by rw [Am n];exact h.1,h.2⟩
theorem N1 {P:Program} {w:World} {K:PySem.W.Frag} {elts:List Expr} {k:Nat} {pos:Pos} (a e it:Addr) (hne:e≠it):
    Turn P w K (.Tuple elts k pos) (Ite K a) [e,it] e (λ i h=>(∃ old,IsEnum h e it i old)/\h.IsListIter it a i) where
  mem:=by simp
  obj:=λ i h st b hb=>by
    obtain ⟨⟨old,he⟩,o,eo,c,d⟩:=st;rcases List.mem_cons.mp hb with z | z
    · subst z;exact ⟨_,he,λ v z=>by cases (show Data.fields _=Data.cell v from z)⟩
    · have z:b=it:=by simpa using z
      subst z;exact ⟨o,eo,λ v z=>by rw [d] at z;cases z⟩
  keep:=λ i h h' st kp=>by
    obtain ⟨⟨old,he⟩,hi⟩:=st;exact ⟨⟨old,kp e (by simp) _ he⟩,hi.at λ o z=>kp it (by simp) o z⟩
  item:=by
    intro X hP hw hK hc i pins s σ H E I hf st hg;subst hP hw hK;obtain ⟨xs,x,hq,hx⟩:=hg;obtain ⟨its,rv,p,hz⟩:=I.list hq;obtain ⟨u,hu,ru⟩:=rv.get hx;obtain ⟨⟨old,he⟩,hi⟩:=st;have hel:e<s.heap.objs.size:=Heap.lt_size he;have hil:it<s.heap.objs.size:=by obtain ⟨_,z,_⟩:=hi;exact Heap.lt_size z
    refine wpAny_pyNext_enum_item he hi p.isList (x:=u) (by simpa using hu) hne λ h' ho hi' hT hsz hk=> ?_;have I0:=I.laid (h':=s.heap.push { cls:= .type "tuple",data:= .seq #[.int i s.toks,u] }) (a:=s.heap.objs.size) (o:= .tup [.int i,x]) (t':=s.toks+1) (λ _ _ q=>Heap.get?_push_of_some _ q) (Nat.le_refl _)
      ⟨(by show 2<=sizeLine;decide),[.int i s.toks,u], .cons ⟨_,rfl⟩ (.cons ru .nil),⟨_,Heap.get?_push_size _ rfl,rfl,_,rfl⟩⟩
    have f0:∀ b∈[e,it],Dq X pins (upd H s.heap.objs.size (.tup [.int i,x])) b:=λ b hb=>Lw (hf b hb) (by
      rcases List.mem_cons.mp hb with z | z
      · rw [z];exact Nat.ne_of_lt hel
      · rw [show b=it by simpa using z];exact Nat.ne_of_lt hil)
    have I1:=Inv.turnedL (t':=s.toks+1) (h':=h') [e,it] I0 f0 (λ b o hb z=>by
      have hb1:b≠e:=λ q=>hb (by simp [q]);have hb2:b≠it:=λ q=>hb (by simp [q]);rcases Heap.get?_push_cases (show (s.heap.push { cls:= .type "tuple",data:= .seq #[.int i s.toks,u] }).get? b=some o from z) with ⟨q1,q2⟩ | q
      · rw [q1,q2];exact hT
      · exact hk b o hb1 hb2 q)
    refine ⟨.ref s.heap.objs.size,rfl,wpAny_letOwnedTupleGo_enum (s:={ s with heap:=h',toks:=s.toks+1 }) ho λ h2 he2 sb=> ?_⟩;refine ⟨.ref s.heap.objs.size,_,Inv.turnedL (t':=s.toks+1) (h':=h2) [e,it] I1 f0 (λ b o hb z=>(sb.2 b λ q=>hb (by simp [q])).trans z),rfl,⟨_,x,I.fresh,rfl,rfl,λ ys hy=>by rw [I.list_inj hy hq];exact hx⟩,⟨⟨u,by simpa using he2⟩,hi'.at λ o z=>(sb.2 it hne.symm).trans z⟩,λ b hb=>(f0 b hb).1⟩
  done:=by
    intro X hP hw hK hc i pins s σ H E I hf st hg;subst hP hw hK;obtain ⟨xs,hq,hx⟩:=hg;obtain ⟨its,rv,p,hz⟩:=I.list hq;obtain ⟨⟨old,he⟩,hi⟩:=st;have hl:=rv.length;exact wpAny_pyNext_enum_end (I.ok.hd hc) he hi p.isList (by simp;omega) λ h' eb=>⟨rfl,I.turnedL (t':=s.toks) [e,it] hf λ b o hb z=>eb b o (λ q=>hb (by simp [q])) z⟩
  self:=λ _ _ _ _ _ st h=>by
    obtain ⟨⟨old,he⟩,_⟩:=st;exact wpAny_pyIter_enum he h
section
variable {X:Cx} {elts:List Expr} {k:Nat} {tpos:Pos} {K:PySem.W.Frag}
def Sb (K:PySem.W.Frag) (ta:TA):TI:=λ σ H R=>ta σ H λ vs H1=>∃ a,vs=[.ref a]/\(∃ xs,SqL K H1 a xs)/\R (Ite K a) H1
theorem IU:bootBuiltins "enumerate"=some (.type "enumerate"):=by decide +kernel
theorem Pu:bootBuiltins "zip"=some (.type "zip"):=by decide +kernel
theorem RF {l:Expr} {ta:TA} {p pos:Pos} (hg:Gl X "enumerate") (hm:X.mg "enumerate"=none) (ha:PA X [l] ta) (hK:X.K=K:=by rfl) (hs:starEach [l] X.env=[(false,eval l X.env)]:=by rfl):PI X (.Tuple elts k tpos) (.Call (.Name "enumerate" p) [l] [] pos) (Sb K ta):=by
  subst hK;intro pins s σ H R I h;refine Call_ (CC I hg hm IU (PyProof.Rows.callWith_type1 (thn (ha pos pins s σ H _ I h) λ us s1 ⟨vs,H1,I1,r1,q1⟩=> ?_) hs rfl));obtain ⟨a,e,⟨xs,hq⟩,q⟩:=q1;subst e;cases r1 with
  | cons r rr=>
    cases rr;cases r;obtain ⟨its,rv,pl,hz⟩:=I1.list hq;refine call_enumerate_list pl.isList λ h' he hi hsz hk=> ?_;refine wpAny_pyIter_enum he ?_;have I2:=I1.kept (t':=s1.toks) hk;refine ⟨s1.heap.objs.size+1,[s1.heap.objs.size+1,s1.heap.objs.size],_,_,H1,rfl,I2,N1 a _ _ (Nat.succ_ne_self _),⟨⟨_,he⟩,hi⟩,λ b hb=> ?_,q⟩;have hb':s1.heap.objs.size<=b:=by
      rcases List.mem_cons.mp hb with z | z
      · rw [z];exact Nat.le_succ _
      · have z:b=s1.heap.objs.size:=by simpa using z
        rw [z];exact Nat.le_refl _
    exact I1.fpOk hb' (I1.hok.fresh hb')
end
section
variable {X:Cx} {elts:List Expr} {k:Nat} {tpos:Pos} {K:PySem.W.Frag}
end
def Bm (tp:Bool) (h:Heap) (it l:Addr) (i:Nat):Prop:=if tp=true then h.IsTupleIter it l i else h.IsListIter it l i
def Bx (tp:Bool) (h:Heap) (l:Addr) (xs:Array Value):Prop:=if tp=true then h.IsTuple l xs else h.IsList l xs
theorem Ay {tp:Bool} {h h':Heap} {it l:Addr} {i:Nat} (x:Bm tp h it l i) (k:∀ o,h.get? it=some o->h'.get? it=some o):Bm tp h' it l i:=by
  cases tp with
  | false=>obtain ⟨o,e,r⟩:=(show h.IsListIter it l i from x);exact (show h'.IsListIter it l i from ⟨o,k o e,r⟩)
  | true=>obtain ⟨o,e,r⟩:=(show h.IsTupleIter it l i from x);exact (show h'.IsTupleIter it l i from ⟨o,k o e,r⟩)
theorem B9 {tp:Bool} {h h':Heap} {l:Addr} {xs:Array Value} (x:Bx tp h l xs) (k:∀ o,h.get? l=some o->h'.get? l=some o):Bx tp h' l xs:=by
  cases tp with
  | false=>obtain ⟨o,e,r⟩:=(show h.IsList l xs from x);exact (show h'.IsList l xs from ⟨o,k o e,r⟩)
  | true=>obtain ⟨o,e,r⟩:=(show h.IsTuple l xs from x);exact (show h'.IsTuple l xs from ⟨o,k o e,r⟩)
theorem Bj {tp:Bool} {h:Heap} {it l:Addr} {i:Nat} (x:Bm tp h it l i):∃ o,h.get? it=some o/\o.data= .fields #[.ref l, .int i 0]:=by
  cases tp with
  | false=>obtain ⟨o,e,_,d⟩:=(show h.IsListIter it l i from x);exact ⟨o,e,d⟩
  | true=>obtain ⟨o,e,_,d⟩:=(show h.IsTupleIter it l i from x);exact ⟨o,e,d⟩
theorem DZ {tp:Bool} {h:Heap} {l:Addr} {xs:Array Value} (x:Bx tp h l xs):∃ o n,h.get? l=some o/\o.data= .seq xs n:=by
  cases tp with
  | false=>obtain ⟨o,e,_,n,d⟩:=(show h.IsList l xs from x);exact ⟨o,n,e,d⟩
  | true=>obtain ⟨o,e,_,n,d⟩:=(show h.IsTuple l xs from x);exact ⟨o,n,e,d⟩
section
variable {prog:Program} {w:World} {A:Around} {E:Value->Shared->Prop} {s:Shared}
theorem EW {tp:Bool} {it l:Addr} {i:Nat} {xs:Array Value} {x:Value} {Q:Value->Shared->Prop} (ht:Bm tp s.heap it l i) (hq:Bx tp s.heap l xs) (hx:xs[i]?=some x)
    (k:∀ h',Bm tp h' it l (i+1)->Heap.SameBut it s.heap h'->Q x { s with heap:=h' }):wpAny (model prog w) A (Builtin.SmallTypes.nextOf (.ref it)) Q E s:=by
  cases tp with
  | false=>exact wpAny_nextOf_list_item (show s.heap.IsListIter it l i from ht) (show s.heap.IsList l xs from hq) hx k
  | true=>
    have ht:s.heap.IsTupleIter it l i:=ht;obtain ⟨ob,eb,cb,db⟩:=id ht;obtain ⟨ol,el,_,nl,dl⟩:=(show s.heap.IsTuple l xs from hq);unfold Builtin.SmallTypes.nextOf;refine wpAny_bind (wpAny_callSpecial?_slot (name:=Str.ofString "__next__") ht.typeIs F.slot_tuple_iterator_next (wpAny_call_entry F.slot_tuple_iterator_next ht.typeIs F.entry_tuple_iterator_next ?_ (F.args_tuple_iterator_next_1 _)));show wpAny _ _ (field (.ref it) 0 >>= _) _ _ s;refine wpAny_bind (wpAny_field eb db (x:= .ref l) rfl ?_);show wpAny _ _ (if (Value.ref l == Value.none)=true then _ else _) _ _ s;rw [if_neg (show ¬ ((Value.ref l == Value.none)=true) from Bool.false_ne_true)];show wpAny _ _ (field (.ref it) 1 >>= _) _ _ s;refine wpAny_bind (wpAny_field eb db (x:= .int i 0) rfl ?_);show wpAny _ _ (seqItems? (.ref l) >>= _) _ _ s;refine wpAny_bind (wpAny_seqItems el dl ?_);simp only [Int.toNat_natCast,hx];refine wpAny_bind (wpAny_setField eb db (by simp) (wpAny_pure ⟨x,rfl,wpAny_pure (k _ ?_ (Heap.SameBut.update ..))⟩));exact (show Heap.IsTupleIter _ it l (i+1) from ⟨_,Heap.get?_update_self _ eb (Obj.isFreed_of_fields (Obj.data_mapFields db _)),(Obj.cls_mapFields ..).trans cb,by rw [Obj.data_mapFields db];simp [rawInt]⟩)
theorem GB {tp:Bool} {it l:Addr} {i:Nat} {xs:Array Value} {Q:Value->Shared->Prop} (hh:A.handled=none) (ht:Bm tp s.heap it l i) (hq:Bx tp s.heap l xs) (hx:xs[i]?=none)
    (k:∀ h' e,Heap.ExtBut it s.heap h'->(∃ o,h'.get? e=some o/\o.cls= .type "StopIteration")->E (.ref e) { s with heap:=h' }):wpAny (model prog w) A (Builtin.SmallTypes.nextOf (.ref it)) Q E s:=by
  cases tp with
  | false=>exact wpAny_nextOf_list_end hh (show s.heap.IsListIter it l i from ht) (show s.heap.IsList l xs from hq) hx k
  | true=>
    have ht:s.heap.IsTupleIter it l i:=ht;obtain ⟨ob,eb,cb,db⟩:=id ht;obtain ⟨ol,el,_,nl,dl⟩:=(show s.heap.IsTuple l xs from hq);unfold Builtin.SmallTypes.nextOf;refine wpAny_bind (wpAny_callSpecial?_slot (name:=Str.ofString "__next__") ht.typeIs F.slot_tuple_iterator_next (wpAny_call_entry F.slot_tuple_iterator_next ht.typeIs F.entry_tuple_iterator_next ?_ (F.args_tuple_iterator_next_1 _)));show wpAny _ _ (field (.ref it) 0 >>= _) _ _ s;refine wpAny_bind (wpAny_field eb db (x:= .ref l) rfl ?_);show wpAny _ _ (if (Value.ref l == Value.none)=true then _ else _) _ _ s;rw [if_neg (show ¬ ((Value.ref l == Value.none)=true) from Bool.false_ne_true)];show wpAny _ _ (field (.ref it) 1 >>= _) _ _ s;refine wpAny_bind (wpAny_field eb db (x:= .int i 0) rfl ?_);show wpAny _ _ (seqItems? (.ref l) >>= _) _ _ s;refine wpAny_bind (wpAny_seqItems el dl ?_);simp only [Int.toNat_natCast,hx];refine wpAny_bind (wpAny_rule (wpAny_bind (wpAny_setField eb db (by simp) ?_)));show wpAny _ _ (newExc (.type "StopIteration") [] >>= _) _ _ _;refine wpAny_bind ?_;simp only [newExc,newTuple];refine wpAny_bind (wpAny_newObj_type ?_ (by size_fits));refine wpAny_bind (m:=firstArgMember _ _) (wpAny_of_eq (a:=Value.none) (by first | rfl | (simp only [firstArgMember];rfl)) ?_);refine wpAny_newObj_type ?_ (by size_fits);simp only [raiseNew];refine wpAny_bind (wpAny_handled ?_)
    first | rw [show A.in1.handled=none from hh] | rw [hh]
    exact wpAny_bind (wpAny_pure (wpAny_throw (k _ _ (((Heap.SameBut.update ..).extBut.push _).push _) ⟨_,Heap.get?_push_size _ rfl,rfl⟩)))
end
section
variable {prog:Program} {w:World} {A:Around} {E:Value->Shared->Prop} {s:Shared}
structure ZipSt (t1 t2:Bool) (h:Heap) (z TI TO i1 i2 l1 l2:Addr) (k:Nat):Prop where
  hz:IsZip h z TI TO .none
  hTI:IsPair h TI (.ref i1) (.ref i2)
  hTO:∃ c d,IsPair h TO c d
  h1:Bm t1 h i1 l1 k
  h2:Bm t2 h i2 l2 k
theorem Nw {t1 t2:Bool} {z TI TO i1 i2 l1 l2:Addr} {k:Nat} {xs ys:Array Value} {x y:Value} {Q:Value->Shared->Prop} (D:ZipApart z TI TO i1 i2 l1 l2) (Z:ZipSt t1 t2 s.heap z TI TO i1 i2 l1 l2 k)
    (q1:Bx t1 s.heap l1 xs) (q2:Bx t2 s.heap l2 ys) (hx:xs[k]?=some x) (hy:ys[k]?=some y)
    (fin:∀ h',IsZip h' z TI TO (rawInt s.heap.objs.size)->IsPair h' TO x y->Bm t1 h' i1 l1 (k+1)->Bm t2 h' i2 l2 (k+1)->IsPair h' s.heap.objs.size x y->
      (∀ c o,c≠z->c≠TO->c≠i1->c≠i2->s.heap.get? c=some o->h'.get? c=some o)->Q (.ref s.heap.objs.size) { s with heap:=h' }):
    wpAny (model prog w) A (Builtin.«zip.__next__» ⟨[.ref z],[]⟩) (λ fin s'=>∃ v,fin= .done (.ret v)/\Q v s') E s:=by
  obtain ⟨hz,hTI,⟨c0,d0,hTO⟩,g1,g2⟩:=Z;show wpAny _ _ (field (.ref z) 2 >>= _) _ _ _;refine wpAny_bind (wpAny_field hz rfl (x:= .bool false) rfl ?_);show wpAny _ _ (field (.ref z) 3 >>= _) _ _ _;refine wpAny_bind (wpAny_field hz rfl (x:= .ref TI) rfl (wpAny_bind (wpAny_seqItems hTI rfl ?_)));show wpAny _ _ (Builtin.SmallTypes.ownedTupleIsFree (.ref z) >>= _) _ _ _;refine wpAny_bind ?_;unfold Builtin.SmallTypes.ownedTupleIsFree;refine wpAny_bind (wpAny_field hz rfl (x:= .none) rfl (wpAny_pure ?_));simp only [if_true];refine wpAny_bind (wpAny_rule (wpAny_bind (wpAny_field hz rfl (x:= .ref TO) rfl (wpAny_bind (wpAny_setField_rec hz (by simp) λ a1 za b1=> ?_)))));replace za:IsZip a1 z TI TO .ellipsis:=za;refine wpAny_bind ?_;simp only [List.zipIdx_cons,List.zipIdx_nil,List.forIn_cons,List.forIn_nil];refine wpAny_bind (wpAny_bind (wpAny_onRaise ?_));show wpAny _ _ (Builtin.SmallTypes.nextOf (.ref i1) >>= _) _ _ _;refine wpAny_bind (EW (s:={ s with heap:=a1 }) (Ay g1 λ o e=>b1.extBut _ o D.i1z e) (B9 q1 λ o e=>b1.extBut _ o D.l1z e) hx λ a2 i1a b2=>wpAny_pure ?_);have to2:IsPair a2 TO c0 d0:=b2.extBut _ _ D.TOi1 (b1.extBut _ _ D.TOz hTO);refine wpAny_bind (wpAny_seqItems to2 rfl (wpAny_bind (wpAny_updateSeq_pair to2 λ a3 to3 b3=> ?_)));replace to3:IsPair a3 TO x d0:=to3;refine wpAny_bind (wpAny_letGo (wpAny_pure (wpAny_bind (wpAny_bind (wpAny_onRaise ?_)))));show wpAny _ _ (Builtin.SmallTypes.nextOf (.ref i2) >>= _) _ _ _;have up3:∀ c o,c≠z->c≠i1->c≠TO->s.heap.get? c=some o->a3.get? c=some o:=λ c o n1 n2 n3 e=>b3.extBut _ o n3 (b2.extBut _ o n2 (b1.extBut _ o n1 e));refine wpAny_bind (EW (s:={ s with heap:=a3 }) (Ay g2 λ o e=>up3 _ o D.i2z D.i12.symm D.TOi2.symm e) (B9 q2 λ o e=>up3 _ o D.l2z D.l2i1 D.l2TO e) hy λ a4 i2a b4=>wpAny_pure ?_);have to4:IsPair a4 TO x d0:=b4.extBut _ _ D.TOi2 to3;refine wpAny_bind (wpAny_seqItems to4 rfl (wpAny_bind (wpAny_updateSeq_pair to4 λ a5 to5 b5=> ?_)));replace to5:IsPair a5 TO x y:=to5;refine wpAny_bind (wpAny_letGo (wpAny_pure (wpAny_pure (wpAny_bind (wpAny_seqItems to5 rfl (wpAny_bind (wpAny_newTuple ?_)))))));have sz:a5.objs.size=s.heap.objs.size:=by rw [b5.1,b4.1,b3.1,b2.1,b1.1]
  have z5:IsZip a5 z TI TO .ellipsis:=b5.extBut _ _ D.TOz.symm (b4.extBut _ _ D.i2z.symm (b3.extBut _ _ D.TOz.symm (b2.extBut _ _ D.i1z.symm za)));have k5:∀ c o,c≠z->c≠TO->c≠i1->c≠i2->s.heap.get? c=some o->a5.get? c=some o:=λ c o n1 n2 n3 n4 e=>b5.extBut _ _ n2 (b4.extBut _ _ n4 (up3 c o n1 n3 n2 e));have f1:Bm t1 a5 i1 l1 (k+1):=Ay i1a λ o e=>b5.extBut _ o D.TOi1.symm (b4.extBut _ o D.i12 (b3.extBut _ o D.TOi1.symm e));have f2:Bm t2 a5 i2 l2 (k+1):=Ay i2a λ o e=>b5.extBut _ o D.TOi2.symm e;have zlt:z<a5.objs.size:=Heap.lt_size z5;show wpAny _ _ (Builtin.SmallTypes.ownedTupleHandOut (.ref z) (.ref a5.objs.size) >>= _) _ _ _;refine wpAny_bind ?_;unfold Builtin.SmallTypes.ownedTupleHandOut;have z6:IsZip (a5.push { cls:= .type "tuple",data:= .seq #[x,y] }) z TI TO .ellipsis:=Heap.get?_push_of_some _ z5;refine wpAny_bind (wpAny_setField_rec z6 (by simp) λ a7 z7 b7=> ?_);replace z7:IsZip a7 z TI TO (rawInt a5.objs.size):=z7;refine wpAny_setField_rec z7 (by simp) λ a8 z8 b8=> ?_;replace z8:IsZip a8 z TI TO (rawInt a5.objs.size):=z8;have up:∀ c o,c≠z->a5.get? c=some o->a8.get? c=some o:=λ c o n e=>b8.extBut _ _ n (b7.extBut _ _ n (Heap.get?_push_of_some _ e));have t8:IsPair a8 a5.objs.size x y:=b8.extBut _ _ (Nat.ne_of_gt zlt) (b7.extBut _ _ (Nat.ne_of_gt zlt) (Heap.get?_push_size _ rfl));rw [sz] at z8 t8;refine wpAny_pure ⟨_,rfl,?_⟩;show Q (.ref a5.objs.size) _;rw [sz];exact fin a8 z8 (up _ _ D.TOz to5) (Ay f1 λ o e=>up _ o D.i1z e) (Ay f2 λ o e=>up _ o D.i2z e) t8 λ c o n1 n2 n3 n4 e=>up c o n1 (k5 c o n1 n2 n3 n4 e)
theorem P6 {t1 t2:Bool} {z TI TO i1 i2 l1 l2:Addr} {k:Nat} {xs ys:Array Value} {Q:Fin->Shared->Prop} (hh:A.handled=none) (D:ZipApart z TI TO i1 i2 l1 l2) (Z:ZipSt t1 t2 s.heap z TI TO i1 i2 l1 l2 k)
    (q1:Bx t1 s.heap l1 xs) (q2:Bx t2 s.heap l2 ys) (hend:xs[k]?=none\/ys[k]?=none)
    (fin:∀ h' e,(∀ c o,c≠z->c≠TO->c≠i1->c≠i2->s.heap.get? c=some o->h'.get? c=some o)->(∃ o,h'.get? e=some o/\o.cls= .type "StopIteration")->E (.ref e) { s with heap:=h' }):
    wpAny (model prog w) A (Builtin.«zip.__next__» ⟨[.ref z],[]⟩) Q E s:=by
  obtain ⟨hz,hTI,⟨c0,d0,hTO⟩,g1,g2⟩:=Z;show wpAny _ _ (field (.ref z) 2 >>= _) _ _ _;refine wpAny_bind (wpAny_field hz rfl (x:= .bool false) rfl ?_);show wpAny _ _ (field (.ref z) 3 >>= _) _ _ _;refine wpAny_bind (wpAny_field hz rfl (x:= .ref TI) rfl (wpAny_bind (wpAny_seqItems hTI rfl ?_)));show wpAny _ _ (Builtin.SmallTypes.ownedTupleIsFree (.ref z) >>= _) _ _ _;refine wpAny_bind ?_;unfold Builtin.SmallTypes.ownedTupleIsFree;refine wpAny_bind (wpAny_field hz rfl (x:= .none) rfl (wpAny_pure ?_));simp only [if_true];refine wpAny_bind (wpAny_rule (wpAny_bind (wpAny_field hz rfl (x:= .ref TO) rfl (wpAny_bind (wpAny_setField_rec hz (by simp) λ a1 za b1=> ?_)))));replace za:IsZip a1 z TI TO .ellipsis:=za;refine wpAny_bind ?_;simp only [List.zipIdx_cons,List.zipIdx_nil,List.forIn_cons,List.forIn_nil];refine wpAny_bind (wpAny_bind (wpAny_onRaise ?_));show wpAny _ _ (Builtin.SmallTypes.nextOf (.ref i1) >>= _) _ _ _;have g1':=Ay g1 λ o e=>b1.extBut _ o D.i1z e;have q1':=B9 q1 λ o e=>b1.extBut _ o D.l1z e;cases hx:xs[k]? with
  | none=>
    refine wpAny_bind (GB (s:={ s with heap:=a1 }) hh g1' q1' hx λ a2 e b2 he=> ?_);obtain ⟨oe,eo,ce⟩:=he;have z2:IsZip a2 z TI TO .ellipsis:=b2 _ _ D.i1z.symm za;have nz:e≠z:=λ q=>by subst q;rw [z2] at eo;cases eo;simp at ce
    exact wpAny_setField_rec z2 (by simp) λ a3 _ b3=>fin a3 e (λ c o n1 _ n3 _ q=>b3.extBut _ _ n1 (b2 _ _ n3 (b1.extBut _ _ n1 q))) ⟨oe,b3.extBut _ _ nz eo,ce⟩
  | some x=>
    have hy:ys[k]?=none:=by
      rcases hend with q | q
      · rw [hx] at q;cases q
      · exact q
    refine wpAny_bind (EW (s:={ s with heap:=a1 }) g1' q1' hx λ a2 i1a b2=>wpAny_pure ?_);have to2:IsPair a2 TO c0 d0:=b2.extBut _ _ D.TOi1 (b1.extBut _ _ D.TOz hTO);refine wpAny_bind (wpAny_seqItems to2 rfl (wpAny_bind (wpAny_updateSeq_pair to2 λ a3 to3 b3=> ?_)));refine wpAny_bind (wpAny_letGo (wpAny_pure (wpAny_bind (wpAny_bind (wpAny_onRaise ?_)))));show wpAny _ _ (Builtin.SmallTypes.nextOf (.ref i2) >>= _) _ _ _;have up3:∀ c o,c≠z->c≠i1->c≠TO->s.heap.get? c=some o->a3.get? c=some o:=λ c o n1 n2 n3 e=>b3.extBut _ o n3 (b2.extBut _ o n2 (b1.extBut _ o n1 e));refine wpAny_bind (GB (s:={ s with heap:=a3 }) hh (Ay g2 λ o e=>up3 _ o D.i2z D.i12.symm D.TOi2.symm e) (B9 q2 λ o e=>up3 _ o D.l2z D.l2i1 D.l2TO e) hy λ a4 e b4 he=> ?_);obtain ⟨oe,eo,ce⟩:=he;have z4:IsZip a4 z TI TO .ellipsis:=b4 _ _ D.i2z.symm (b3.extBut _ _ D.TOz.symm (b2.extBut _ _ D.i1z.symm za));have nz:e≠z:=λ q=>by subst q;rw [z4] at eo;cases eo;simp at ce
    exact wpAny_setField_rec z4 (by simp) λ a5 _ b5=>fin a5 e (λ c o n1 n2 n3 n4 q=>b5.extBut _ _ n1 (b4 _ _ n4 (up3 c o n1 n3 n2 q))) ⟨oe,b5.extBut _ _ nz eo,ce⟩
def ID (tp:Bool):String:=if tp=true then "tuple_iterator" else "list_iterator"
theorem Hx {tp:Bool} {l:Addr} {xs:Array Value} {Q:Value->Shared->Prop} (hq:Bx tp s.heap l xs) (k:Q (.ref s.heap.objs.size) { s with heap:=s.heap.push { cls:= .type (ID tp),data:= .fields #[.ref l, .int 0 0] } }):
    wpAny (model prog w) A (pyIter (.ref l)) Q E s:=by
  cases tp with
  | false=>exact wpAny_pyIter_list (show s.heap.IsList l xs from hq) k
  | true=>exact wpAny_pyIter_tuple (show s.heap.IsTuple l xs from hq) k
theorem FC {tp:Bool} {h:Heap} {l:Addr}:Bm tp (h.push { cls:= .type (ID tp),data:= .fields #[.ref l, .int 0 0] }) h.objs.size l 0:=by
  cases tp with
  | false=>exact (show Heap.IsListIter _ _ l 0 from ⟨_,Heap.get?_push_size _ rfl,rfl,rfl⟩)
  | true=>exact (show Heap.IsTupleIter _ _ l 0 from ⟨_,Heap.get?_push_size _ rfl,rfl,rfl⟩)
abbrev zs1 (t1:Bool) (h:Heap) (l1:Addr):Heap:=h.push { cls:= .type (ID t1),data:= .fields #[.ref l1, .int 0 0] }
abbrev zs2 (t1 t2:Bool) (h:Heap) (l1 l2:Addr):Heap:=(zs1 t1 h l1).push { cls:= .type (ID t2),data:= .fields #[.ref l2, .int 0 0] }
abbrev zs3 (t1 t2:Bool) (h:Heap) (l1 l2:Addr):Heap:=(zs2 t1 t2 h l1 l2).push { cls:= .type "tuple",data:= .seq #[.ref h.objs.size, .ref (zs1 t1 h l1).objs.size] }
abbrev zs4 (t1 t2:Bool) (h:Heap) (l1 l2:Addr):Heap:=(zs3 t1 t2 h l1 l2).push { cls:= .type "tuple",data:= .seq #[.none, .none] }
abbrev zs5 (t1 t2:Bool) (h:Heap) (l1 l2:Addr):Heap:=(zs4 t1 t2 h l1 l2).push { cls:= .type "zip",data:= .fields #[.none, .bool false, .bool false, .ref (zs2 t1 t2 h l1 l2).objs.size, .ref (zs3 t1 t2 h l1 l2).objs.size] }
theorem Ll (t1 t2:Bool) (l1 l2:Addr) (xs ys:Array Value):
    Meets (Builtin.«zip.__new__» ⟨[.type "zip", .ref l1, .ref l2],[]⟩) (λ _ R s=>Bx t1 s.heap l1 xs/\Bx t2 s.heap l2 ys/\
      R (.ok (.ret (.ref (zs4 t1 t2 s.heap l1 l2).objs.size))) { s with heap:=zs5 t1 t2 s.heap l1 l2 }):=
  .of_wp λ prog w A R s h=>by
    obtain ⟨hp,g,d,tk,os⟩:=s;obtain ⟨m1,m2,h⟩:=h;have hsub:=sub_zip;have M1:Bx t1 (Shared.heap ⟨hp,g,d,tk,os⟩) l1 xs:=m1;have M2:Bx t2 (Shared.heap ⟨hp.push { cls:= .type (ID t1),data:= .fields #[.ref l1, .int 0 0] },g,d,tk,os⟩) l2 ys:=B9 m2 λ o e=>Heap.get?_push_of_some _ e
    wp_walk using Hx M1,Hx M2
    exact ⟨_,rfl,h⟩
theorem NK {t1 t2:Bool} {l1 l2:Addr} {xs ys:Array Value} {Q:Value->Shared->Prop} (m1:Bx t1 s.heap l1 xs) (m2:Bx t2 s.heap l2 ys)
    (k:∀ h',ZipSt t1 t2 h' (s.heap.objs.size+4) (s.heap.objs.size+2) (s.heap.objs.size+3) s.heap.objs.size (s.heap.objs.size+1) l1 l2 0->
      (∀ c o,s.heap.get? c=some o->h'.get? c=some o)->Q (.ref (s.heap.objs.size+4)) { s with heap:=h' }):
    wpAny (model prog w) A (call (.type "zip") [.ref l1, .ref l2]) Q E s:=by
  refine callType_new F.called_zip (by decide) (F.typeCall_zip_2 _ _) (F.newCall_zip_2 _ _) (λ obj=>F.args_object_init_3 obj _ _) F.entry_zip_new (Ll t1 t2 l1 l2 xs ys) ⟨m1,m2,?_⟩;have n1:(zs1 t1 s.heap l1).objs.size=s.heap.objs.size+1:=Heap.size_push ..;have n2:(zs2 t1 t2 s.heap l1 l2).objs.size=s.heap.objs.size+2:=by rw [Heap.size_push,n1]
  have n3:(zs3 t1 t2 s.heap l1 l2).objs.size=s.heap.objs.size+3:=by rw [Heap.size_push,n2]
  have n4:(zs4 t1 t2 s.heap l1 l2).objs.size=s.heap.objs.size+4:=by rw [Heap.size_push,n3]
  have g5:(zs5 t1 t2 s.heap l1 l2).get? (zs4 t1 t2 s.heap l1 l2).objs.size=some _:=Heap.get?_push_size _ rfl;have g4:(zs5 t1 t2 s.heap l1 l2).get? (zs3 t1 t2 s.heap l1 l2).objs.size=some _:=Heap.get?_push_of_some _ (Heap.get?_push_size _ rfl);have g3:(zs5 t1 t2 s.heap l1 l2).get? (zs2 t1 t2 s.heap l1 l2).objs.size=some _:=Heap.get?_push_of_some _ (Heap.get?_push_of_some _ (Heap.get?_push_size _ rfl));have up2:∀ c o,(zs2 t1 t2 s.heap l1 l2).get? c=some o->(zs5 t1 t2 s.heap l1 l2).get? c=some o:=λ c o e=>Heap.get?_push_of_some _ (Heap.get?_push_of_some _ (Heap.get?_push_of_some _ e));have s2:Bm t2 (zs5 t1 t2 s.heap l1 l2) (zs1 t1 s.heap l1).objs.size l2 0:=Ay FC λ o e=>up2 _ o e;have s1:Bm t1 (zs5 t1 t2 s.heap l1 l2) s.heap.objs.size l1 0:=Ay FC λ o e=>up2 _ o (Heap.get?_push_of_some _ e);show _/\_;rw [n2,n3,n4] at g5;rw [n1,n2] at g3;rw [n3] at g4;rw [n1] at s2;rw [n4];exact ⟨⟨_,g5,rfl⟩,k _ ⟨g5,g3,⟨_,_,g4⟩,s1,s2⟩ λ c o e=>up2 c o (Heap.get?_push_of_some _ (Heap.get?_push_of_some _ e))⟩
end
def SqS (tp:Bool) (K:PySem.W.Frag) (H:Hp) (a:Addr) (xs:List V):Prop:=if tp=true then SqT K H a xs else SqL K H a xs
theorem BN {X:Cx} {pins:List (Addr × Obj)} {σ:St} {H:Hp} {s:Shared} {tp:Bool} {a:Addr} {xs:List V} (I:Inv X pins σ H s) (h:SqS tp X.K H a xs):∃ its:List Value,Vals xs its/\Bx tp s.heap a its.toArray:=by
  cases tp with
  | false=>
    obtain ⟨its,r,p,_⟩:=I.list (show SqL X.K H a xs from h);exact ⟨its,r,(show s.heap.IsList a its.toArray from p.isList)⟩
  | true=>
    obtain ⟨its,r,p,_⟩:=I.tuple (show SqT X.K H a xs from h);exact ⟨its,r,(show s.heap.IsTuple a its.toArray from p)⟩
theorem JR {X:Cx} {pins:List (Addr × Obj)} {σ:St} {H:Hp} {s:Shared} {tp:Bool} {a:Addr} {xs ys:List V} (I:Inv X pins σ H s) (h:SqS tp X.K H a xs) (h2:SqS tp X.K H a ys):xs=ys:=by
  cases tp with
  | false=>exact I.list_inj h h2
  | true=>exact I.tuple_inj h h2
def Izs (t1 t2:Bool) (K:PySem.W.Frag) (a b:Addr):It:=
  ⟨λ i H=>∃ xs ys x y,SqS t1 K H a xs/\SqS t2 K H b ys/\xs[i]?=some x/\ys[i]?=some y,
   λ i H v H'=>∃ p x y,H p=none/\v= .ref p/\H'=upd H p (.tup [x,y])/\(∀ xs,SqS t1 K H a xs->xs[i]?=some x)/\∀ ys,SqS t2 K H b ys->ys[i]?=some y,
   λ i H=>∃ xs ys,SqS t1 K H a xs/\SqS t2 K H b ys/\(xs.length<=i\/ys.length<=i)⟩
theorem RJ {P:Program} {w:World} {K:PySem.W.Frag} {elts:List Expr} {k:Nat} {pos:Pos} (t1 t2:Bool) (a b z TI TO i1 i2:Addr) (D:ZipApart z TI TO i1 i2 a b):
    Turn P w K (.Tuple elts k pos) (Izs t1 t2 K a b) [z,TI,TO,i1,i2] z (λ i h=>ZipSt t1 t2 h z TI TO i1 i2 a b i) where
  mem:=by simp
  obj:=λ i h st c hc=>by
    obtain ⟨hz,hTI,⟨x,y,hTO⟩,h1,h2⟩:=st;obtain ⟨o1,e1,d1⟩:=Bj h1;obtain ⟨o2,e2,d2⟩:=Bj h2;simp only [List.mem_cons,List.not_mem_nil,or_false] at hc;rcases hc with q | q | q | q | q
    · subst q;exact ⟨_,hz,λ v z=>by cases (show Data.fields _=Data.cell v from z)⟩
    · subst q;exact ⟨_,hTI,λ v z=>by cases (show Data.seq _ _=Data.cell v from z)⟩
    · subst q;exact ⟨_,hTO,λ v z=>by cases (show Data.seq _ _=Data.cell v from z)⟩
    · subst q;exact ⟨o1,e1,λ v z=>by rw [d1] at z;cases z⟩
    · subst q;exact ⟨o2,e2,λ v z=>by rw [d2] at z;cases z⟩
  keep:=λ i h h' st kp=>by
    obtain ⟨hz,hTI,⟨x,y,hTO⟩,h1,h2⟩:=st;exact ⟨kp z (by simp) _ hz,kp TI (by simp) _ hTI,⟨x,y,kp TO (by simp) _ hTO⟩,Ay h1 λ o q=>kp i1 (by simp) o q,Ay h2 λ o q=>kp i2 (by simp) o q⟩
  item:=by
    intro X hP hw hK hc i pins s σ H E I hf st hg;subst hP hw hK;obtain ⟨xs,ys,x,y,hq1,hq2,hx,hy⟩:=hg;obtain ⟨its,rv,p1⟩:=BN I hq1;obtain ⟨its2,rv2,p2⟩:=BN I hq2;obtain ⟨u,hu,ru⟩:=rv.get hx;obtain ⟨u2,hu2,ru2⟩:=rv2.get hy;have lt:∀ q∈[z,TI,TO,i1,i2],q<s.heap.objs.size:=λ q hq=>by
      obtain ⟨hz,hTI,⟨c,d,hTO⟩,h1,h2⟩:=id st;obtain ⟨_,e1,_⟩:=Bj h1;obtain ⟨_,e2,_⟩:=Bj h2;simp only [List.mem_cons,List.not_mem_nil,or_false] at hq;rcases hq with q' | q' | q' | q' | q'
      · subst q';exact Heap.lt_size hz
      · subst q';exact Heap.lt_size hTI
      · subst q';exact Heap.lt_size hTO
      · subst q';exact Heap.lt_size e1
      · subst q';exact Heap.lt_size e2
    have hT0:s.TypeIs (.ref z) "zip":=⟨_,st.hz,rfl⟩;unfold pyNext;refine wpAny_bind (wpAny_attempt (wpAny_callSpecial?_slot (name:=Str.ofString "__next__") hT0 F.slot_zip_next (wpAny_call_entry F.slot_zip_next hT0 F.entry_zip_next
      (Nw D st p1 p2 (x:=u) (y:=u2) (by simpa using hu) (by simpa using hu2) λ h' hz' hTO' h1' h2' hT hk=>wpAny_pure ?_) (F.args_zip_next_1 _))))
    have I0:=I.laid (h':=s.heap.push { cls:= .type "tuple",data:= .seq #[u,u2] }) (a:=s.heap.objs.size) (o:= .tup [x,y]) (t':=s.toks) (λ _ _ q=>Heap.get?_push_of_some _ q) (Nat.le_refl _)
      ⟨(by show 2<=sizeLine;decide),[u,u2], .cons ru (.cons ru2 .nil),⟨_,Heap.get?_push_size _ rfl,rfl,_,rfl⟩⟩
    have f0:∀ b∈[z,TI,TO,i1,i2],Dq X pins (upd H s.heap.objs.size (.tup [x,y])) b:=λ b hb=>Lw (hf b hb) (Nat.ne_of_lt (lt b hb));have I1:=Inv.turnedL (t':=s.toks) (h':=h') [z,TI,TO,i1,i2] I0 f0 (λ b o hb q=>by
      rcases Heap.get?_push_cases (show (s.heap.push { cls:= .type "tuple",data:= .seq #[u,u2] }).get? b=some o from q) with ⟨q1,q2⟩ | q
      · rw [q1,q2];exact hT
      · exact hk b o (λ e=>hb (by simp [e])) (λ e=>hb (by simp [e])) (λ e=>hb (by simp [e])) (λ e=>hb (by simp [e])) q)
    refine ⟨.ref s.heap.objs.size,rfl,wpAny_letOwnedTupleGo_zip (s:={ s with heap:=h' }) hz' λ h3 hz3 sb=> ?_⟩;refine ⟨.ref s.heap.objs.size,_,Inv.turnedL (t':=s.toks) (h':=h3) [z,TI,TO,i1,i2] I1 f0 (λ b o hb q=>(sb.2 b λ e=>hb (by simp [e])).trans q),rfl,
      ⟨_,x,y,I.fresh,rfl,rfl,λ l hl=>by rw [JR I hl hq1];exact hx,λ l hl=>by rw [JR I hl hq2];exact hy⟩,
      ⟨hz3,(sb.2 TI D.TIz).trans (hk TI _ D.TIz D.TITO D.TIi1 D.TIi2 st.hTI),⟨u,u2,(sb.2 TO D.TOz).trans hTO'⟩,Ay h1' λ o q=>(sb.2 i1 D.i1z).trans q,Ay h2' λ o q=>(sb.2 i2 D.i2z).trans q⟩,λ b hb=>(f0 b hb).1⟩
  done:=by
    intro X hP hw hK hc i pins s σ H E I hf st hg;subst hP hw hK;obtain ⟨xs,ys,hq1,hq2,hx⟩:=hg;obtain ⟨its,rv,p1⟩:=BN I hq1;obtain ⟨its2,rv2,p2⟩:=BN I hq2;have hl:=rv.length;have hl2:=rv2.length;have hT0:s.TypeIs (.ref z) "zip":=⟨_,st.hz,rfl⟩;unfold pyNext;refine wpAny_bind (wpAny_attempt (wpAny_callSpecial?_slot (name:=Str.ofString "__next__") hT0 F.slot_zip_next (wpAny_call_entry F.slot_zip_next hT0 F.entry_zip_next
      (P6 (I.ok.hd hc) D st p1 p2 (hx.elim (λ q=> .inl (by simp;omega)) λ q=> .inr (by simp;omega)) λ h' e eb he=> ?_) (F.args_zip_next_1 _))))
    obtain ⟨oe,eo,ce⟩:=he;refine wpAny_bind (wpAny_isInstance (T:="StopIteration") (b:=true) ⟨oe,eo,ce⟩ isSubtype_stop (wpAny_pure ?_));exact ⟨rfl,I.turnedL (t':=s.toks) [z,TI,TO,i1,i2] hf λ b o hb q=>eb b o (λ e=>hb (by simp [e])) (λ e=>hb (by simp [e])) (λ e=>hb (by simp [e])) (λ e=>hb (by simp [e])) q⟩
  self:=λ _ _ _ _ _ st h=>wpAny_pyIter_zip st.hz h
section
variable {X:Cx} {elts:List Expr} {k:Nat} {tpos:Pos} {K:PySem.W.Frag}
def iZs (K:PySem.W.Frag) (ta:TA):TI:=λ σ H R=>ta σ H λ vs H1=>∃ t1 t2 a b,vs=[.ref a, .ref b]/\(∃ xs,SqS t1 K H1 a xs)/\(∃ ys,SqS t2 K H1 b ys)/\R (Izs t1 t2 K a b) H1
theorem UZ {l m:Expr} {ta:TA} {p pos:Pos} (hg:Gl X "zip") (hm:X.mg "zip"=none) (ha:PA X [l,m] ta) (hK:X.K=K:=by rfl) (hs:starEach [l,m] X.env=[(false,eval l X.env),(false,eval m X.env)]:=by rfl) (hs2:starEach [m] X.env=[(false,eval m X.env)]:=by rfl):
    PI X (.Tuple elts k tpos) (.Call (.Name "zip" p) [l,m] [] pos) (iZs K ta):=by
  subst hK;intro pins s σ H R I h;refine Call_ (CC I hg hm Pu (PyProof.Rows.callWith_type1 (thn (ha pos pins s σ H _ I h) λ us s1 ⟨vs,H1,I1,r1,q1⟩=> ?_) (by rw [hs,hs2]) (by rw [hs2];rfl)));obtain ⟨t1,t2,a,b,e,⟨xs,hq⟩,⟨ys,hq2⟩,q⟩:=q1;subst e;cases r1 with
  | cons r rr=>
    cases rr with
    | cons r' rr=>
    cases rr;cases r;cases r';obtain ⟨its,rv,pl⟩:=BN I1 hq;obtain ⟨its2,rv2,pl2⟩:=BN I1 hq2;obtain ⟨oa,_,ea,_⟩:=DZ pl;obtain ⟨ob,_,eb,_⟩:=DZ pl2;refine NK pl pl2 λ h' st hk=> ?_;refine wpAny_pyIter_zip st.hz ?_;have I2:=I1.kept (t':=s1.toks) hk;refine ⟨s1.heap.objs.size+4,_,_,_,H1,rfl,I2,RJ t1 t2 a b _ _ _ _ _ (PySem.W.ktu_apart s1.heap.objs.size a b (Heap.lt_size ea) (Heap.lt_size eb)),st,λ c hc=> ?_,q⟩;have hb':s1.heap.objs.size<=c:=by
      simp only [List.mem_cons,List.not_mem_nil,or_false] at hc;rcases hc with q | q | q | q | q <;> rw [q] <;> first | exact Nat.le_refl _ | exact Nat.le_add_right _ _
    exact I1.fpOk hb' (I1.hok.fresh hb')
end
section
variable {X:Cx} {K:PySem.W.Frag}
theorem AD:bootBuiltins "list"=some (.type "list"):=by decide +kernel
theorem AY:bootBuiltins "tuple"=some (.type "tuple"):=by decide +kernel
theorem NV:bootBuiltins "any"=some (.builtin "any"):=by decide +kernel
theorem IK:bootBuiltins "min"=some (.builtin "min"):=by decide +kernel
theorem CI:bootBuiltins "max"=some (.builtin "max"):=by decide +kernel
theorem Tw {es:List Expr} {k:Nat} {t:TGs} {n:Nat} {pos:Pos} (hc:X.calm=true) (h:PGs X es t) (hK:X.K=K:=by rfl)
    (hn:(assignEach es X.env).length=n:=by rfl) (hst:(assignEach es X.env).findIdx? (·.1)=none:=by rfl):PG X (.Tuple es k pos) (JE K n t):=by
  subst hK;exact Oa hc h hn hst
variable {scope:Scope} {fr:List (Str × Nat)}
theorem QY {x y:Str} {px py pt:Pos} {k:Nat} (h:Eh X.env.scope X.N scope [x,y] fr=true) (hc:X.calm=true) (C:Addr) (ex:List Addr) (s:Shared) (H:Hp) (hK:X.K=K:=by rfl):
    PG (AV X scope [x,y] fr C ex s H) (.Tuple [.Name x px, .Name y py] k pt) (JE K 2 (B0 (AM 0) (B0 (AM 1) JX))):=by
  subst hK;exact Oa (X:=AV X scope [x,y] fr C ex s H) hc (Fd (Hh h rfl C ex s H) (Fd (Hh h rfl C ex s H) MA))
theorem CJ {elt iter:Expr} {x y:Str} {px py pt:Pos} {k:Nat} {ifs:List Expr} {pos:Pos} {wi:TI} {tc:TT} {te:TE} (hi:PI X (.Tuple [.Name x px, .Name y py] k pt) iter wi)
    (ht:∀ C ex s H,PTs (AV X scope [x,y] (Gh X.N scope) C ex s H) ifs tc) (he:∀ C ex s H,PE (AV X scope [x,y] (Gh X.N scope) C ex s H) elt te) (hK:X.K=K:=by rfl)
    (hb:Eh X.env.scope X.N scope [x,y] (Gh X.N scope)=true:=by with_unfolding_all rfl) (hc:X.calm=true:=by rfl)
    (hs:∀ x,foldedSetIterable iter X.env x=pure x:=by intro _;rfl):PE X (.ListComp elt [⟨.Tuple [.Name x px, .Name y py] k pt,iter,ifs,0⟩] scope pos) (GP wi [x,y] (Gh X.N scope) (JE K 2 (B0 (AM 0) (B0 (AM 1) JX))) tc te):=
  JP hc (.of hb) hi (λ C ex s H=>QY hb hc C ex s H hK) ht he hs
end
section
variable {K:PySem.W.Frag} {D:Addr} {σ0:St} {tc:TT} {te:TE} {Q:VK} {H:Hp}
end
inductive Dt where
  | non | bl (b:Bool) | int (i:Int) | str (z:Str) | lst (xs:List Dt) | tup (xs:List Dt)
inductive Rp (H:Hp) (F:Addr->Prop):Nat->V->Dt->Prop where
  | non {n:Nat}:Rp H F n .non .non
  | bl {n:Nat} (b:Bool):Rp H F n (.bl b) (.bl b)
  | int {n:Nat} (i:Int):Rp H F n (.int i) (.int i)
  | str {n:Nat} (z:Str):Rp H F n (.str z) (.str z)
  | lst {n:Nat} {a:Addr} {vs:List V} {ds:List Dt} (h:H a=some (.lst vs)) (f:F a) (b:vs.length<=100000) (l:vs.length=ds.length) (e:∀ (i:Nat) (v:V) (d:Dt),vs[i]?=some v->ds[i]?=some d->Rp H F n v d):Rp H F (n+1) (.ref a) (.lst ds)
  | tup {n:Nat} {a:Addr} {vs:List V} {ds:List Dt} (h:H a=some (.tup vs)) (b:vs.length<=100000) (l:vs.length=ds.length) (e:∀ (i:Nat) (v:V) (d:Dt),vs[i]?=some v->ds[i]?=some d->Rp H F n v d):Rp H F (n+1) (.ref a) (.tup ds)
theorem Rp.mono {H H':Hp} {F F':Addr->Prop} {n:Nat} {v:V} {d:Dt} (r:Rp H F n v d) (k:∀ a o,H a=some o->(∀ xs,o= .lst xs->F a)->H' a=some o) (f:∀ a,F a->F' a):Rp H' F' n v d:=by
  induction r with
  | non=>exact .non
  | bl b=>exact .bl b
  | int i=>exact .int i
  | str z=>exact .str z
  | lst h p b l e ih=>exact .lst (k _ _ h λ _ _=>p) (f _ p) b l λ i v d h1 h2=>ih i v d h1 h2
  | tup h b l e ih=>exact .tup (k _ _ h λ xs q=>by cases q) b l λ i v d h1 h2=>ih i v d h1 h2
theorem Rp.same {H H':Hp} {F:Addr->Prop} {n:Nat} {v:V} {d:Dt} (r:Rp H F n v d) (s:Same H H'):Rp H' F n v d:=r.mono (λ a o h _=>s a o h) λ _ h=>h
theorem Rp.imp {H:Hp} {F F':Addr->Prop} {n:Nat} {v:V} {d:Dt} (r:Rp H F n v d) (f:∀ a,F a->F' a):Rp H F' n v d:=r.mono (λ a o h _=>h) f
theorem Rp.up {H:Hp} {F:Addr->Prop} {n m:Nat} {v:V} {d:Dt} (r:Rp H F n v d) (h:n<=m):Rp H F m v d:=by
  induction r generalizing m with
  | non=>exact .non
  | bl b=>exact .bl b
  | int i=>exact .int i
  | str z=>exact .str z
  | lst h p b l e ih=>
    cases m with
    | zero=>exact absurd h (by omega)
    | succ m=>exact .lst ‹_› p b l λ i v d h1 h2=>ih i v d h1 h2 (by omega)
  | tup h b l e ih=>
    cases m with
    | zero=>exact absurd h (by omega)
    | succ m=>exact .tup ‹_› b l λ i v d h1 h2=>ih i v d h1 h2 (by omega)
abbrev FT:Addr->Prop:=λ _=>True
abbrev FN (H:Hp):Addr->Prop:=λ a=>H a=none
theorem Rp.any {H:Hp} {F:Addr->Prop} {n:Nat} {v:V} {d:Dt} (r:Rp H F n v d):Rp H FT n v d:=r.imp λ _ _=>trivial
theorem Rp.new {H:Hp} {F:Addr->Prop} {n:Nat} {v:V} {d:Dt} {p:Addr} {o:HO} (r:Rp H F n v d) (h:H p=none):Rp (L2.upd H p o) F n v d:=r.same λ b u e=>by rw [Am (AF e h)];exact e
def Sd (ns:List Int):Dt:= .lst (ns.map .int)
theorem JQ {H:Hp} {F:Addr->Prop} {n:Nat} {v:V} {ns:List Int} (r:Rp H F n v (Sd ns)):∃ a,v= .ref a/\H a=some (.lst (ns.map V.int))/\F a:=by
  unfold Sd at r;cases r with
  | @lst n a vs _ h f b l e=>
    refine ⟨a,rfl,?_,f⟩;rw [h];congr 2;refine List.ext_getElem (by simpa using l) λ i h1 h2=> ?_;have h2':i<ns.length:=by simpa using h2
    have:=e i vs[i] (.int ns[i]) (by simp [h1]) (by simp [h2']);cases hv:vs[i] <;> rw [hv] at this <;> cases this;simp
section
variable {t u:TS} {D:Ends} {σ:St} {H:Hp} {te ta tb tk:TE} {tt tu:TT} {g:TG} {Q:VK} {QT:Bool->Hp->Prop} {QA:List V->Hp->Prop} {i:Nat} {v x y:V} {r:R2} {tr:TA} {K:PySem.W.Frag}
theorem Pt (h:t { D with nx:=u D } σ H):W6 t u D σ H:=h
theorem Rv (h:D.nx σ H):SH D σ H:=h
theorem TK (h:te σ H λ x H1=>g x σ H1 D.nx):QH te g D σ H:=h
theorem QV {QS:St->Hp->Prop} (h:QS (σ.set i (some v)) H):AM i v σ H QS:=h
theorem T3 (e:σ[i]?=some (some v)) (h:Q v H):Tx i σ H Q:=⟨v,e,h⟩
theorem aa (h:Q v H):tC v σ H Q:=h
theorem UW (h:ta σ H λ x H1=>tb σ H1 λ y H2=>r x y H2 Q):tOp r ta tb σ H Q:=h
theorem UO {ru:V->Hp->VK->Prop} (h:ta σ H λ x H1=>ru x H1 Q):tUn ru ta σ H Q:=h
theorem A9 {C:Int->Int->Prop} {gg:Int->Int->V} {a b:Int} (c:C a b) (h:Q (gg a b) H):rI C gg (.int a) (.int b) H Q:=⟨a,b,rfl,rfl,c,h⟩
theorem SU {gg:Int->Int->V} {a b:Int} (h:Q (gg a b) H):rI0 gg (.int a) (.int b) H Q:=⟨a,b,rfl,rfl,h⟩
theorem Vv {gg:Int->V} {a:Int} (h:Q (gg a) H):rU gg (.int a) H Q:=⟨a,rfl,h⟩
theorem Tz {a b:Int} (h:Q (.bl (decide (a=b))) H):rEq (.int a) (.int b) H Q:=⟨rfl,by rw [show decide (V.int a=V.int b)=decide (a=b) by rw [Bool.eq_iff_iff];simp];exact h⟩
theorem To {a b:Int} (h:Q (.bl (!decide (a=b))) H):rNe (.int a) (.int b) H Q:=⟨rfl,by rw [show decide (V.int a=V.int b)=decide (a=b) by rw [Bool.eq_iff_iff];simp];exact h⟩
theorem SV (h:tt σ H λ c H1=>QT (!c) H1):Y6 tt σ H QT:=h
theorem Ra (h:te σ H λ x H'=>∃ k,x= .bl k/\QT k H'):Sw te σ H QT:=h
theorem W0 (h:te σ H λ x H'=>∃ k,x= .bl k/\QT k H'):tB te σ H QT:=h
theorem Wp {b:Bool} {R:Bool->Prop} (h:R b):∃ k,V.bl b= .bl k/\R k:=⟨b,rfl,h⟩
theorem Zs (h:tt σ H λ c H1=>if c=true then QT true H1 else tu σ H1 QT):tOr tt tu σ H QT:=h
theorem TZ (h:tt σ H λ c H1=>if c=true then tu σ H1 QT else QT false H1):Zd tt tu σ H QT:=h
theorem RC (h:ta σ H λ x H1=>∃ c,x= .bl c/\if c=true then tb σ H1 Q else Q (.bl false) H1):Sm ta tb σ H Q:=h
theorem Ru (h:ta σ H λ x H1=>∃ c,x= .bl c/\Q (.bl (!c)) H1):R7 ta σ H Q:=h
theorem Ub (h:tt σ H λ b H1=>if b=true then t D σ H1 else u D σ H1):Xw tt t u D σ H:=h
theorem VH (h:tt σ H λ c H1=>if c=true then ta σ H1 Q else tb σ H1 Q):tIf tt ta tb σ H Q:=h
theorem Tu (h:te σ H D.rt):Vd te D σ H:=h
theorem Qx (h:te σ H λ _ H1=>D.nx σ H1):R5 te D σ H:=h
theorem Tg (h:QA [] H):QU σ H QA:=h
theorem QF (h:te σ H λ x H1=>tr σ H1 λ xs H2=>QA (x::xs) H2):R6 te tr σ H QA:=h
theorem TF (h:tr σ H λ xs H1=>xs.length<=sizeLine/\∀ p,H1 p=none->Q (.ref p) (upd H1 p (.lst xs))):WD tr σ H Q:=h
theorem TH (h:tr σ H λ xs H1=>xs.length<=sizeLine/\∀ p,H1 p=none->Q (.ref p) (upd H1 p (.tup xs))):WY tr σ H Q:=h
theorem U0 {rr:List V->Hp->VK->Prop} (h:tr σ H λ vs H1=>rr vs H1 Q):tCB rr tr σ H Q:=h
theorem Ro {sp:Sp} {E:XK} (h:tr σ H λ vs H1=>sp vs H1 Q E):Ky sp [] E tr σ H Q:=by
  unfold Ky;simpa using h
theorem Vj {rs:V->Option Int->Option Int->Hp->VK->Prop} {tl th:TO} (h:te σ H λ x H1=>tl σ H1 λ l H2=>th σ H2 λ u H3=>rs x l u H3 Q):tSl rs te tl th σ H Q:=h
theorem RD {QO:Option Int->Hp->Prop} (h:te σ H λ x H1=>∃ i,x= .int i/\QO (some i) H1):SB te σ H QO:=h
theorem NY {QO:Option Int->Hp->Prop} (h:QO none H):Mi σ H QO:=h
theorem T1 {a:Int} {R:Int->Prop} (h:R a):∃ k,V.int a= .int k/\R k:=⟨a,rfl,h⟩
theorem LT {p:Addr} {xs:List V} {lo hi:Option Int} (c:SqL K H p xs) (h:∀ q,H q=none->Q (.ref q) (upd H q (.lst (Jd xs lo hi)))):TV K (.ref p) lo hi H Q:=⟨p,xs,rfl,c,h⟩
theorem QP {z:Str} (c:z.length<=sizeLine) (h:Q (.int z.length) H):Rc K [.str z] H Q:=⟨_,_,rfl,⟨c,rfl⟩,h⟩
theorem AC {p:Addr} {xs:List V} (c:SqL K H p xs) (h:Q (.int xs.length) H):Rc K [.ref p] H Q:=⟨_,_,rfl, .inl ⟨xs,c,rfl⟩,h⟩
theorem Mo {p:Addr} {xs:List V} (c:SqT K H p xs) (h:Q (.int xs.length) H):Rc K [.ref p] H Q:=⟨_,_,rfl, .inr ⟨xs,c,rfl⟩,h⟩
theorem Ly {p:Addr} {ns:List Int} (c:SqL K H p (ns.map V.int)) (h:Q (.int ns.sum) H):Um K [.ref p] H Q:=⟨p,ns,rfl,c,h⟩
theorem Jg {p:Addr} {bs:List Bool} (c:SqL K H p (bs.map V.bl)) (h:Q (.bl (bs.all id)) H):Yj K [.ref p] H Q:=⟨p,bs,rfl,c,h⟩
theorem Cj {n:String} {ty:Value} {b:Bool} (c:TyOf K H x ty) (e:PySem.W.kitOne K ty (.type n)=some b) (h:Q (.bl b) H):Sv K [x, .ty n] H Q:=⟨x,n,ty,b,rfl,c,e,h⟩
theorem G6 {p:Addr} {xs:List V} {k:Int} (c:SqL K H p xs) (e:atI xs k=some v) (h:Q v H):T7 K (.ref p) (.int k) H Q:=⟨p,xs,k,v,rfl,rfl,c,e,h⟩
theorem Bh {p:Addr} {xs:List V} {k:Int} (c:SqT K H p xs) (e:atI xs k=some v) (h:Q v H):Tv K (.ref p) (.int k) H Q:=⟨p,xs,k,v,rfl,rfl,c,e,h⟩
theorem SR {xs:List V} {B:Prop} (c:xs.length<=1000) (h:B):xs.length<=sizeLine/\B:=⟨Nat.le_trans c (by decide),h⟩
end
theorem Gg {p A B:Prop} [Decidable p] (h1:p->A) (h2:¬ p->B):if decide p=true then A else B:=by
  by_cases h:p
  · rw [if_pos (decide_eq_true h)];exact h1 h
  · rw [if_neg (λ q=>h (of_decide_eq_true q))];exact h2 h
theorem UI {p A B:Prop} [Decidable p] (h1:¬ p->A) (h2:p->B):if (!decide p)=true then A else B:=by
  by_cases h:p
  · rw [decide_eq_true h];exact HZ (h2 h)
  · rw [decide_eq_false h];exact Lu (h1 h)
theorem ZR {b:Bool} {A B:Prop} (h1:b=true->A) (h2:b=false->B):if b=true then A else B:=by
  cases b with
  | true=>exact Lu (h1 rfl)
  | false=>exact HZ (h2 rfl)
def GV:Dt->Bool | .lst _=>true | _=>false
def F5:Dt->Bool | .tup _=>true | _=>false
def Po:Dt->List Dt | .lst ds=>ds | .tup ds=>ds | _=>[]
theorem Rp.seq {K:PySem.W.Frag} {H:Hp} {F:Addr->Prop} {n:Nat} {v:V} {d:Dt} (r:Rp H F n v d) (h:(GV d||F5 d)=true):
    ∃ m a vs,n=m+1/\v= .ref a/\SqS (F5 d) K H a vs/\vs.length=(Po d).length/\vs.length<=100000/\∀ (i:Nat) (x:V) (e:Dt),vs[i]?=some x->(Po d)[i]?=some e->Rp H F m x e:=by
  cases r with
  | @lst m a vs ds q f b l e=>exact ⟨m,a,vs,rfl,rfl,(show SqL K H a vs from SqL.of q),l,b,e⟩
  | @tup m a vs ds q b l e=>exact ⟨m,a,vs,rfl,rfl,(show SqT K H a vs from SqT.of q),l,b,e⟩
  | non=>cases h
  | bl _=>cases h
  | int _=>cases h
  | str _=>cases h
theorem SqS.same {K:PySem.W.Frag} {H H':Hp} {tp:Bool} {p:Addr} {xs:List V} (c:SqS tp K H p xs) (s:Same H H'):SqS tp K H' p xs:=by
  cases tp with
  | false=>exact (show SqL K H' p xs from s.seq c)
  | true=>
    rcases (show SqT K H p xs from c) with (q | ⟨o,q⟩) | q
    · exact (show SqT K H' p xs from .inl (.inl (s _ _ q)))
    · exact (show SqT K H' p xs from .inl (.inr ⟨o,s _ _ q⟩))
    · exact (show SqT K H' p xs from .inr q)
theorem Ak {H:Hp} {p:Addr} {o:HO} (h:H p=none):Same H (upd H p o):=λ b u e=>by rw [Am (AF e h)];exact e
theorem DU {H H':Hp} {D:Addr} {o:HO} (s:Same H H') (h:H D=none):Same H (upd H' D o):=λ b u e=>by rw [Am (AF e h)];exact s b u e
structure SrcOk (J:It) (g:TG) (σ0:St) (H:Hp) (n:Nat) (st:Nat->St):Prop where
  go:∀ i H',i<n->Same H H'->J.go i H'
  stop:∀ H',Same H H'->J.stop n H'
  yld:∀ i H' x H'' (R:St->Hp->Prop),i<n->Same H H'->J.yld i H' x H''->(∀ H3,Same H' H3->R (st i) H3)->g x σ0 H'' R
  kp:∀ i,i<n->Kp σ0 (st i)
section
variable {J:It} {g:TG} {σ0:St} {H:Hp} {n:Nat} {st:Nat->St} {tc:TT} {te:TE} {Q:VK} {D:Addr}
theorem Rp.off {H:Hp} {F:Addr->Prop} {m:Nat} {v:V} {d:Dt} {D:Addr} {xs:List V} {o:HO} (r:Rp H F m v d) (hD:H D=some (.lst xs)) (hF:¬ F D):Rp (L2.upd H D o) F m v d:=by
  refine r.mono (λ a u e q=> ?_) λ _ h=>h;have n:a≠D:=λ z=>by
    subst z;rw [hD] at e;cases e;exact hF (q _ rfl)
  rw [Am n];exact e
theorem FW {m:Nat} {p:Nat->Bool} {G:Nat->Dt} (S:SrcOk J g σ0 H n st) (hD:H D=none) (hn:n<=100000)
    (ht:∀ i H' (R:Bool->Hp->Prop),i<n->Same H H'->(∀ H3,Same H' H3->R (p i) H3)->tc (st i) H' R)
    (he:∀ i H' (R:VK),i<n->p i=true->Same H H'->(∀ H3 y,Same H' H3->Rp H3 (FN H') m y (G i)->R y H3)->te (st i) H' R)
    (hd:∀ H' ys,Same H H'->H' D=some (.lst ys)->Rp H' (FN H) (m+1) (.ref D) (.lst (((List.range n).filter p).map G))->Q (.ref D) H'):
    F4 J σ0 g tc te Q H D:=by
  refine ⟨λ i k ys H'=>k=n - i/\i<=n/\Same H H'/\H' D=some (.lst ys)/\ys.length=(((List.range i).filter p).map G).length/\∀ (j:Nat) (y:V) (d:Dt),ys[j]?=some y->(((List.range i).filter p).map G)[j]?=some d->Rp H' (λ a=>H a=none/\a≠D) m y d,
    ⟨_,rfl,Nat.zero_le _,DU (Same.refl _) hD,Ad,rfl,λ j y d q=>by simp at q⟩,?_⟩
  rintro i k ys H1 ⟨rfl,hi,s1,hl,len,el⟩;have bnd:∀ i,(((List.range i).filter p).map G).length<=i:=λ i=>by
    rw [List.length_map];exact Nat.le_trans (List.length_filter_le _ _) (by simp)
  by_cases hlt:i<n
  · refine .inr ⟨S.go i H1 hlt s1,λ ys' H'=>Same H H'/\H' D=some (.lst ys')/\ys'.length=(((List.range (i+1)).filter p).map G).length/\∀ (j:Nat) (y:V) (d:Dt),ys'[j]?=some y->(((List.range (i+1)).filter p).map G)[j]?=some d->Rp H' (λ a=>H a=none/\a≠D) m y d,
      λ ys' H' q=>⟨n - (i+1),by omega,rfl,hlt,q⟩,λ x H2 y=> ?_⟩
    refine S.yld i H1 x H2 _ hlt s1 y λ H3 s3=>⟨S.kp i hlt,?_⟩;refine ht i H3 _ hlt (s1.trans s3) λ H4 s4=> ?_;have hl4:H4 D=some (.lst ys):=s4 _ _ (s3 _ _ hl);have s14:Same H H4:=s1.trans (s3.trans s4);cases hp:p i with
    | false=>
      refine HZ ⟨s14,hl4,?_,?_⟩
      · rw [List.range_succ,List.filter_append,List.filter_cons,hp];simpa using len
      · intro j y d h1 h2;have e:((List.range (i+1)).filter p).map G=((List.range i).filter p).map G:=by
          rw [List.range_succ,List.filter_append,List.filter_cons,hp];simp
        rw [e] at h2;exact (el j y d h1 h2).same (s3.trans s4)
    | true=>
      refine Lu ?_;refine he i H4 _ hlt hp s14 λ H5 y s5 ry=> ?_;have hl5:H5 D=some (.lst ys):=s5 _ _ hl4;have e:((List.range (i+1)).filter p).map G=((List.range i).filter p).map G++[G i]:=by
        rw [List.range_succ,List.filter_append,List.filter_cons,hp];simp
      refine ⟨hl5,?_,?_,Ad,?_,?_⟩
      · have:=bnd i;exact Nat.lt_of_le_of_lt (by omega:ys.length<=100000) (by decide)
      · exact DU (s14.trans s5) hD
      · rw [e,List.length_append,List.length_append,len];rfl
      · intro j z d h1 h2;rw [e] at h2;have nF:¬ (H D=none/\D≠D):=λ q=>q.2 rfl;by_cases hj:j<ys.length
        · rw [List.getElem?_append_left hj] at h1;rw [List.getElem?_append_left (by omega)] at h2;exact ((el j z d h1 h2).same (s3.trans (s4.trans s5))).off hl5 nF
        · have ej:j=ys.length:=by
            have:=(List.getElem?_eq_some_iff.mp h1).1;rw [List.length_append] at this;have:([y]:List V).length=1:=rfl;omega
          subst ej;rw [List.getElem?_append_right (Nat.le_refl _),Nat.sub_self] at h1;rw [len,List.getElem?_append_right (Nat.le_refl _),Nat.sub_self] at h2;cases h1;cases h2;refine (ry.imp (F':=λ a=>H a=none/\a≠D) λ a ha=>⟨s14.free ha,λ q=> ?_⟩).off hl5 nF;subst q;rw [show H4 a=none from ha] at hl4;cases hl4
  · have e:i=n:=by omega
    subst e;refine .inl ⟨S.stop H1 s1,hd H1 ys s1 hl (.lst hl hD ?_ len λ j y d h1 h2=>(el j y d h1 h2).imp λ a q=>q.1)⟩;have:=bnd i;omega
theorem A7 {m:Nat} {G:Nat->Dt} (S:SrcOk J g σ0 H n st) (hD:H D=none) (hn:n<=100000)
    (he:∀ i H' (R:VK),i<n->Same H H'->(∀ H3 y,Same H' H3->Rp H3 (FN H') m y (G i)->R y H3)->te (st i) H' R)
    (hd:∀ H' ys,Same H H'->H' D=some (.lst ys)->Rp H' (FN H) (m+1) (.ref D) (.lst ((List.range n).map G))->Q (.ref D) H'):
    F4 J σ0 g RZ te Q H D:=by
  refine FW (p:=λ _=>true) (m:=m) (G:=G) S hD hn (λ i H' R _ _ k=>k H' (Same.refl _)) (λ i H' R hi _ s k=>he i H' R hi s k) λ H' ys s hl r=>hd H' ys s hl ?_;have e:(List.range n).filter (λ _=>true)=List.range n:=by simp
  rw [e] at r;exact r
variable {K:PySem.W.Frag} {a b:Addr} {xs zs:List V}
theorem AB (h:SqL K H a xs) (h0:σ0[0]?=some none):SrcOk (Itl K a) (AM 0) σ0 H xs.length (λ i=>σ0.set 0 (some (xs.getD i .non))) where
  go:=λ i H' hi s=>⟨xs,xs[i],s.seq h,by simp [hi]⟩
  stop:=λ H' s=>⟨xs,s.seq h,Nat.le_refl _⟩
  yld:=λ i H' x H'' R hi s y k=>by
    obtain ⟨e,hv⟩:=y;subst e;have e:x=xs.getD i .non:=by
      have:=hv xs (s.seq h);rw [List.getD_eq_getElem?_getD,this];rfl
    subst e;exact k _ (Same.refl _)
  kp:=λ i hi=>(Kp.refl _).set h0
theorem GH (h:SqT K H a xs) (h0:σ0[0]?=some none):SrcOk (Itt K a) (AM 0) σ0 H xs.length (λ i=>σ0.set 0 (some (xs.getD i .non))) where
  go:=λ i H' hi s=>⟨xs,xs[i],(SqS.same (tp:=true) h s),by simp [hi]⟩
  stop:=λ H' s=>⟨xs,(SqS.same (tp:=true) h s),Nat.le_refl _⟩
  yld:=λ i H' x H'' R hi s y k=>by
    obtain ⟨e,hv⟩:=y;subst e;have e:x=xs.getD i .non:=by
      have:=hv xs (SqS.same (tp:=true) h s);rw [List.getD_eq_getElem?_getD,this];rfl
    subst e;exact k _ (Same.refl _)
  kp:=λ i hi=>(Kp.refl _).set h0
theorem Ec {lo:Int} {n:Nat} (h0:σ0[0]?=some none):SrcOk (Itr lo n) (AM 0) σ0 H n (λ i=>σ0.set 0 (some (.int (lo+i)))) where
  go:=λ i H' hi s=>hi
  stop:=λ H' s=>Nat.le_refl _
  yld:=λ i H' x H'' R hi s y k=>by
    obtain ⟨e,hv⟩:=y;subst e hv;exact k _ (Same.refl _)
  kp:=λ i hi=>(Kp.refl _).set h0
theorem O7 (h:SqL K H a xs) (h0:σ0[0]?=some none) (h1:σ0[1]?=some none):SrcOk (Ite K a) (JE K 2 (B0 (AM 0) (B0 (AM 1) JX))) σ0 H xs.length (λ i=>(σ0.set 0 (some (.int i))).set 1 (some (xs.getD i .non))) where
  go:=λ i H' hi s=>⟨xs,xs[i],s.seq h,by simp [hi]⟩
  stop:=λ H' s=>⟨xs,s.seq h,Nat.le_refl _⟩
  yld:=λ i H' x H'' R hi s y k=>by
    obtain ⟨p,v,hp,rfl,rfl,hv⟩:=y;have e:v=xs.getD i .non:=by
      have:=hv xs (s.seq h);rw [List.getD_eq_getElem?_getD,this];rfl
    subst e;exact ⟨p,_,rfl,SqT.of Ad,rfl,_,_,rfl,_,_,rfl,rfl,k _ (Ak hp)⟩
  kp:=λ i hi=>((Kp.refl _).set h0).set h1
end
theorem Ar {α β:Type} (f:α->β) (xs:List α) (d:α):(List.range xs.length).map (λ i=>f (xs.getD i d))=xs.map f:=by
  refine List.ext_getElem (by simp) λ i h1 h2=> ?_;have hi:i<xs.length:=by simpa using h2
  simp [List.getD_eq_getElem?_getD,hi]
section
variable {X:Cx} {tg:Expr}
def WV:List V->Hp->VK->Prop:=λ xs H Q=>∃ b:Bool,xs=[.bl b]/\Q (.int (if b=true then 1 else 0)) H
end
theorem O6 {X:Cx}:AU X (.type "int") WV:=by
  intro pins s σ H xs us Q I r h;obtain ⟨b,rfl,q⟩:=h;exact Nf pins s σ H _ us Q I r (.inr ⟨b,rfl,q⟩)
section
variable {X:Cx} {K:PySem.W.Frag} {e st:Expr} {te ts:TE} {pos p2:Pos}
end
end L2
namespace MM
theorem snoc_ind {α:Type} {p:List α->Prop} (h0:p []) (h1:∀ l a,p l->p (l++[a])):∀ l,p l:=λ l=>by
  have h:∀ r:List α,p r.reverse:=λ r=>by
    induction r with
    | nil=>exact h0
    | cons a r ih=>rw [List.reverse_cons];exact h1 _ _ ih
  have:=h l.reverse
  rwa [List.reverse_reverse] at this
theorem or_add_and (a:Nat):∀ b:Nat,(a ||| b)+(a &&& b)=a+b:=by
  induction a using Nat.strongRecOn with
  | ind a ih=>
    intro b;by_cases h:a=0
    · subst h;simp
    · have ih':=ih (a / 2) (by omega) (b / 2);have e1:(a ||| b)=2*((a ||| b) / 2)+(a ||| b)%2:=by omega
      have e2:(a &&& b)=2*((a &&& b) / 2)+(a &&& b)%2:=by omega
      have d1:(a ||| b) / 2=a / 2 ||| b / 2:=by simpa using Nat.or_div_two (a:=a) (b:=b)
      have d2:(a &&& b) / 2=a / 2 &&& b / 2:=by simpa using Nat.and_div_two (a:=a) (b:=b)
      have m1:(a ||| b)%2+(a &&& b)%2=a%2+b%2:=by
        have z:∀ x:Nat,x%2=(x.testBit 0).toNat:=λ x=>by rw [Nat.toNat_testBit];simp
        rw [z (a ||| b),z (a &&& b),z a,z b,Nat.testBit_or,Nat.testBit_and];cases a.testBit 0 <;> cases b.testBit 0 <;> rfl
      rw [d1] at e1;rw [d2] at e2;omega
def ofB (f:Nat->Bool):Nat->Nat
  | 0=>0
  | w+1=>ofB f w+(f w).toNat*2 ^ w
theorem ofB_lt (f:Nat->Bool):∀ w,ofB f w<2 ^ w
  | 0=>by simp [ofB]
  | w+1=>by
    have:=ofB_lt f w;unfold ofB;rw [Nat.pow_succ];cases f w <;> simp <;> omega
theorem ofB_bit (f:Nat->Bool):∀ w i,(ofB f w).testBit i=(decide (i<w)&&f i)
  | 0,i=>by simp [ofB]
  | w+1,i=>by
    have hl:=ofB_lt f w;unfold ofB;have e:ofB f w+(f w).toNat*2 ^ w=2 ^ w*(f w).toNat+ofB f w:=by rw [Nat.mul_comm];omega
    rw [e,Nat.testBit_two_pow_mul_add _ hl];by_cases h:i<w
    · rw [if_pos h,ofB_bit f w i];simp [h,Nat.lt_succ_of_lt h]
    · rw [if_neg h];by_cases h2:i=w
      · subst h2;cases f i <;> simp
      · have h3:¬ i<w+1:=by omega
        have h4:i - w≠0:=by omega
        have h5:(1:Nat).testBit (i - w)=false:=by
          obtain ⟨d,hd⟩:∃ d,i - w=d+1:=⟨i - w - 1,by omega⟩;rw [hd,Nat.testBit_succ];simp
        cases f w
        · simp [h3]
        · simp only [Bool.toNat_true,h5,h3,decide_false,Bool.false_and]
theorem ofB_self (m w:Nat) (h:m<2 ^ w):ofB m.testBit w=m:=by
  refine Nat.eq_of_testBit_eq λ i=> ?_;rw [ofB_bit];by_cases hi:i<w
  · simp [hi]
  · have:m.testBit i=false:=Nat.testBit_lt_two_pow (Nat.lt_of_lt_of_le h (Nat.pow_le_pow_right (by decide) (by omega)));simp [hi,this]
theorem bit_div (m e:Nat):m / 2 ^ e%2=(m.testBit e).toNat:=by
  rw [Nat.testBit_eq_decide_div_mod_eq];have:m / 2 ^ e%2<2:=Nat.mod_lt _ (by decide);by_cases h:m / 2 ^ e%2=1
  · simp [h]
  · have:m / 2 ^ e%2=0:=by omega
    simp [this]
def mOf (ns:List Nat):Nat:=ns.foldl (λ m n=>m ||| 2 ^ (n - 1)) 0
theorem mOf_snoc (ns:List Nat) (n:Nat):mOf (ns++[n])=mOf ns ||| 2 ^ (n - 1):=by unfold mOf;rw [List.foldl_append];rfl
theorem mOf_bit (ns:List Nat) (i:Nat):(mOf ns).testBit i=ns.any λ n=>decide (n - 1=i):=by
  refine snoc_ind (p:=λ ns=>(mOf ns).testBit i=ns.any λ n=>decide (n - 1=i)) (by simp [mOf]) (λ l a ih=> ?_) ns
  · rw [mOf_snoc,Nat.testBit_or,ih,List.any_append,Nat.testBit_two_pow];simp
theorem mOf_lt {ns:List Nat} {w:Nat} (h:∀ n∈ns,n - 1<w):mOf ns<2 ^ w:=by
  refine Nat.lt_pow_two_of_testBit _ λ i hi=> ?_;rw [mOf_bit,List.any_eq_false];intro n hn;have:=h n hn;simp;omega
def uOf (ms:List Nat):Nat:=ms.foldl (λ m n=>m ||| n) 0
theorem uOf_snoc (ns:List Nat) (n:Nat):uOf (ns++[n])=uOf ns ||| n:=by unfold uOf;rw [List.foldl_append];rfl
theorem uOf_bit (ns:List Nat) (i:Nat):(uOf ns).testBit i=ns.any λ n=>n.testBit i:=by
  refine snoc_ind (p:=λ ns=>(uOf ns).testBit i=ns.any λ n=>n.testBit i) (by simp [uOf]) (λ l a ih=> ?_) ns;rw [uOf_snoc,Nat.testBit_or,ih,List.any_append];simp
def bits (m:Nat):Nat:=if m=0 then 0 else m.log2+1
theorem GC (m:Nat):m<2 ^ bits m:=by
  unfold bits;split
  · subst_vars;decide
  · exact Nat.lt_log2_self
theorem bits_le {m w:Nat} (h:m<2 ^ w):bits m<=w:=by
  unfold bits;split
  · exact Nat.zero_le _
  · rename_i h0
    exact (Nat.log2_lt h0).mpr h
def nOf (m:Nat):List Nat:=((List.range (bits m)).filter m.testBit).map (· + 1)
theorem nOf_mem (m n:Nat):n∈nOf m↔1<=n/\m.testBit (n - 1)=true:=by
  unfold nOf;simp only [List.mem_map,List.mem_filter,List.mem_range];constructor
  · rintro ⟨k,⟨_,h⟩,rfl⟩;exact ⟨by omega,by simpa using h⟩
  · rintro ⟨h1,h2⟩;refine ⟨n - 1,⟨?_,h2⟩,by omega⟩;rcases Nat.lt_or_ge (n - 1) (bits m) with q | q
    · exact q
    · rw [Nat.testBit_lt_two_pow (Nat.lt_of_lt_of_le (GC m) (Nat.pow_le_pow_right (by decide) q))] at h2;cases h2
theorem nOf_wide {m w:Nat} (h:m<2 ^ w):nOf m=((List.range w).filter m.testBit).map (· + 1):=by
  unfold nOf;have hb:=bits_le h;obtain ⟨d,rfl⟩:∃ d,w=bits m+d:=⟨w - bits m,by omega⟩;congr 1;rw [List.range_add,List.filter_append];have e:((List.range d).map (bits m+ ·)).filter m.testBit=[]:=by
    rw [List.filter_eq_nil_iff];intro x hx;obtain ⟨k,_,rfl⟩:=List.mem_map.mp hx;rw [Nat.testBit_lt_two_pow (Nat.lt_of_lt_of_le (GC m) (Nat.pow_le_pow_right (by decide) (Nat.le_add_right _ _)))];simp
  rw [e,List.append_nil]
theorem nOf_len {m w:Nat} (h:m<2 ^ w):(nOf m).length<=w:=by
  rw [nOf_wide h,List.length_map];exact Nat.le_trans (List.length_filter_le _ _) (by simp)
theorem mOf_nOf (m:Nat):mOf (nOf m)=m:=by
  refine Nat.eq_of_testBit_eq λ i=> ?_;rw [mOf_bit];rw [Bool.eq_iff_iff,List.any_eq_true];constructor
  · rintro ⟨n,hn,e⟩;have:=(nOf_mem m n).mp hn;rw [<-of_decide_eq_true e];exact this.2
  · intro h;exact ⟨i+1,(nOf_mem m (i+1)).mpr ⟨by omega,by simpa using h⟩,by simp⟩
end MM
namespace L2
open PySem PySem.Spec PyProof.Rows
section
variable {X:Cx}
theorem Fw {x:Str} {i:Int} {pos:Pos} (h:∃ t,X.mg x=some (.int i t)) (hg:Gl X x:=by rfl) (hd:(x == ("__debug__":Str))=false:=by decide):PE X (.Name x pos) (tC (.int i)):=by
  obtain ⟨t,e⟩:=h;exact Jj hg e ⟨t,rfl⟩ hd
theorem Pg {x z:Str} {pos:Pos} (h:∃ t,X.mg x=some (.str z t)) (hg:Gl X x:=by rfl) (hd:(x == ("__debug__":Str))=false:=by decide):PE X (.Name x pos) (tC (.str z)):=by
  obtain ⟨t,e⟩:=h;exact Jj hg e ⟨t,rfl⟩ hd
theorem WP {P:Program} {w:World} {k:Key} {u:Value} (h:(AR P w).is k u=true):RelV (kV k) u:=by
  cases k with
  | inl i=>obtain ⟨t,e⟩:=Value.isInt_shape (show u.isInt i=true from h);exact ⟨t,e⟩
  | inr z=>obtain ⟨t,e⟩:=Value.isStrOf_shape (show u.isStrOf z=true from h);exact ⟨t,e⟩
theorem Oe {κ:Type}:∀ {kvs:List (κ × V)} {vs:List (κ × Value)},KV kvs vs->∀ (j:Nat) (k:κ) (x:Value),vs[j]?=some (k,x)->∃ v,kvs[j]?=some (k,v)
  | _,_, .nil,j,k,x,h=>by simp at h
  | p::_,_, .cons h t,0,k,x,e=>by
    simp only [List.getElem?_cons_zero,Option.some.injEq] at e;subst e;exact ⟨p.2,by rw [List.getElem?_cons_zero];congr 1;exact Prod.ext h.1 rfl⟩
  | _,_, .cons h t,j+1,k,x,e=>by
    rw [List.getElem?_cons_succ] at e ⊢;exact Oe t j k x e
theorem Jr:∀ {xs:List V} {us:List Value},us.length=xs.length->(∀ (j:Nat) (u:Value),us[j]?=some u->∃ x,xs[j]?=some x/\RelV x u)->Vals xs us
  | [],[],_,_=> .nil
  | x::xs,u::us,hl,h=>by
    obtain ⟨y,e,r⟩:=h 0 u rfl;simp only [List.getElem?_cons_zero,Option.some.injEq] at e;subst e;exact .cons r (Jr (by simpa using hl) λ j v hv=>by simpa using h (j+1) v (by simpa using hv))
  | [],_::_,hl,_=>by simp at hl
  | _::_,[],hl,_=>by simp at hl
def PP (xs:List V) (H:Hp) (Q:VK):Prop:=∃ a kvs,xs=[V.ref a]/\H a=some (.dK kvs)/\∀ l,H l=none->Q (.ref l) (upd H l (.lst (kvs.map λ kv=>kV kv.1)))
theorem LE (hc:X.calm=true):AU X (.type "list") PP:=by
  intro pins s σ H xs us Q I r h;obtain ⟨a,kvs,rfl,ha,q⟩:=h;obtain ⟨u,rfl,ru⟩:=Cg r;cases ru;obtain ⟨z,hd,vs,rel,dd⟩:=O9 I.hok ha;obtain ⟨ep,hat⟩:=dd.dictAt;have hl:=Paired.length rel;refine PySem.W.kdl_call (PySem.W.kdl_dict (knd:=AR X.prog X.w) (kvs:=vs) (ep:=ep) hd) (I.ok.hd hc) hat (by omega) λ h' tk acc c hk hS hacc=> ?_;refine ⟨.ref s.heap.objs.size,_,I.laid (a:=s.heap.objs.size) (o:= .lst (kvs.map λ kv=>kV kv.1)) (h':=h') (t':=tk) hk (Nat.le_refl _) ⟨by simpa using z,acc.toList,c,?_,by simpa using hS⟩,rfl,q _ (I.hok.fresh (Nat.le_refl _))⟩;refine Jr (by rw [List.length_map,Array.length_toList,hacc.1];omega) λ j u hu=> ?_;obtain ⟨k,x,e,hk⟩:=hacc.2 j u (by rw [<-Array.getElem?_toList];exact hu);obtain ⟨v,e'⟩:=Oe rel j k x e;exact ⟨kV k,by rw [List.getElem?_map,e'];rfl,WP hk⟩
end
section
variable {H:Hp} {Q:VK} {σ:St} {td ty tv:TE} {D:Ends} {a:Addr} {kvs:List (Key × V)}
theorem PB (ha:H a=some (.dK kvs)) (h:∀ l,H l=none->Q (.ref l) (upd H l (.lst (kvs.map λ kv=>kV kv.1)))):PP [.ref a] H Q:=⟨a,kvs,rfl,ha,h⟩
theorem QX (h:td σ H λ x H1=>ty σ H1 λ y H2=>∃ a v,x= .ref a/\DGet H2 a y (some v)/\Q v H2):Sq td ty σ H Q:=h
theorem Nl (h:ty σ H λ y H1=>td σ H1 λ x H2=>∃ a o,x= .ref a/\DGet H2 a y o/\Q (.bl (!o.isSome)) H2):MO ty td σ H Q:=h
theorem Q2 (h:tv σ H λ v H1=>td σ H1 λ x H2=>ty σ H2 λ y H3=>∃ a H4,x= .ref a/\DPut H3 a y v H4/\D.nx σ H4):So td ty tv D σ H:=h
theorem Qq {trs:List (TE × TE)} (h:∀ p,H p=none->Et trs σ (upd H p (.dK [])) λ ps H2=>H2 p=some (.dK [])/\∃ kvs:List (Key × V),ps=kvs.map (λ kv=>(kV kv.1,kv.2))/\kvs.length<=15/\Q (.ref p) (upd H2 p (.dK (EC [] kvs)))):Sk trs σ H Q:=h
theorem RH {R:List (V × V)->Hp->Prop} (h:R [] H):Et [] σ H R:=h
theorem Qe {tk tw:TE} {r:List (TE × TE)} {R:List (V × V)->Hp->Prop} (h:tk σ H λ x H1=>tw σ H1 λ y H2=>Et r σ H2 λ ps H3=>R ((x,y)::ps) H3):Et ((tk,tw)::r) σ H R:=h
end
theorem Room.units1 {k:Nat} {A:Around} (r:Room k A):A.units+1<cLine:=by have:=r.un;omega
section
variable {H:Hp} {Q:VK} {σ:St} {K:PySem.W.Frag} {to:TE} {t:TA} {r:V->List V->Hp->VK->Prop} {T:String} {l p q:Addr} {xs ys:List V} {y:V}
theorem Td (h:to σ H λ x H1=>tyV K T x H1/\r x [] H1 Q):S3 K T r to σ H Q:=h
theorem VY (h:to σ H λ x H1=>tyV K T x H1/\t σ H1 λ xs H2=>r x xs H2 Q):tBM K T r to t σ H Q:=h
theorem tyL {B:Prop} (c:SqL K H l xs) (h:B):tyV K "list" (.ref l) H/\B:=⟨.inl ⟨rfl,xs,c⟩,h⟩
theorem tyI {B:Prop} {i:Int} (h:B):tyV K "int" (.int i) H/\B:=⟨rfl,h⟩
theorem Lm (c:H l=some (.lst xs)) (b:xs.length<16777216) (h:Q .non (upd H l (.lst (xs++[y])))):rAppend (.ref l) [y] H Q:=⟨l,xs,y,rfl,rfl,c,by rw [sizeLine_eq];exact b,h⟩
theorem EL (c:SqL K H l xs) (d:SqL K H p ys) (b:xs.length+ys.length<=16777216) (h:∀ q,H q=none->Q (.ref q) (upd H q (.lst (xs++ys)))):Pb K (.ref l) (.ref p) H Q:=⟨l,p,xs,ys,rfl,rfl,c,d,by rw [sizeLine_eq];exact b,h⟩
theorem EV {k:Int} (c:H l=some (.lst xs)) (b1:0<=k) (b2:k<=100000) (b3:xs.length<=100) (h:∀ q,H q=none->Q (.ref q) (upd H q (.lst (List.replicate k.toNat xs).flatten))):Vo (.ref l) (.int k) H Q:=
  ⟨l,k,xs,rfl,rfl,c,by omega,by omega,by
    rw [sizeLine_eq];have h1:k.toNat<=100000:=by omega
    exact Nat.le_trans (Nat.mul_le_mul b3 h1) (by decide),h⟩
theorem Rn {as bs:List Int} (c:SqL K H l (as.map V.int)) (d:SqL K H p (bs.map V.int)) (h:Q (.bl (decide (as=bs))) H):LR K false (.ref l) (.ref p) H Q:=
  ⟨l,p,_,_,rfl,rfl,c,d,E3 as,E3 bs,by rw [Kw];exact h⟩
theorem Me {as bs:List Int} (c:SqL K H l (as.map V.int)) (d:SqL K H p (bs.map V.int)) (h:Q (.bl (!decide (as=bs))) H):LR K true (.ref l) (.ref p) H Q:=
  ⟨l,p,_,_,rfl,rfl,c,d,E3 as,E3 bs,by rw [Kw];exact h⟩
theorem FE {z:Addr} (c:SqL K H z xs) (h:∀ q,H q=none->Q (.ref q) (upd H q (.lst xs))):Jn K [.ref z] H Q:=⟨z,xs,rfl, .inl c,h⟩
theorem Be {z:Addr} (c:SqT K H z xs) (h:∀ q,H q=none->Q (.ref q) (upd H q (.lst xs))):Jn K [.ref z] H Q:=⟨z,xs,rfl, .inr c,h⟩
theorem BH {z:Addr} (c:SqL K H z xs) (h:∀ q,H q=none->Q (.ref q) (upd H q (.tup xs))):KL K [.ref z] H Q:=⟨z,xs,rfl, .inl ⟨c,h⟩⟩
end
end L2
namespace L2
open PySem
open Sem (wp)
open AutoSeq1 (wpAny_loadPart')
section
variable {prog:Program} {w:World} {A:Around} {E:Value->Shared->Prop} {s:Shared}
theorem J7 {T newId:String} {Bn:Builtin} {v:Value} {x:Str} {u:Value} {Q:Value->Shared->Prop} (ft:TypeCalled T newId "object.__init__") (hne:(some newId != some "object.__new__")=true)
    (hct:checkTypeCall T ⟨[v],[(x,u)]⟩=pure ()) (hcn:checkBuiltinCall newId ⟨[.type T,v],[(x,u)]⟩=pure ()) (hok:∀ obj,argsOk "object.__init__" ⟨[obj,v],[(x,u)]⟩) (entryN:entryFor table newId=some Bn)
    (g:wpAny (model prog w) A.in1.in1 (Bn ⟨[.type T,v],[(x,u)]⟩) (λ fin s1=>∃ obj,fin= .done (.ret obj)/\s1.TypeIs obj T/\Q obj s1) E s):wpAny (model prog w) A (call (.type T) [v] [(x,u)]) Q E s:=by
  obtain ⟨c,tl,hmro⟩:=ft.mro;have hmade:=ft.made;have hsub:=ft.sub;refine wpAny_call (codeAny_of_tree ?_);show wpAny _ _ (callAny (.type T) _) _ _ _;refine wpAny_pure ⟨Code.quiet_builtin _ (by decide +kernel),codeAny_builtin F.entry_type_call ?_⟩;rw [Around.under_plain (weight_type_call_type T [v] [(x,u)]) (units_type_call_type T [v] [(x,u)])];have h1:=ft.notType;have h2:=ft.canCreate
  repeat (any_goals (first | assumption | wp_step))
  refine codeAny_call_builtin ft.plain entryN (wpAny_of_eq hcn (wpAny_mono g (λ fin s1 q=> ?_) λ _ _ q=>q));obtain ⟨obj,rfl,hT,q⟩:=q;have hli:=ft.init.lookup;have hbi:=ft.init.bind obj;show wpAny _ _ _ _ _ _
  repeat (any_goals (first | assumption | wp_step))
  refine codeAny_call_builtin ft.init.plain F.entry_object_init (ft.init.check _ _ _ _ _ _ _ _ hT (hok obj) ?_)
  repeat (any_goals (first | assumption | wp_step))
  trace_state
theorem Km {v:Value} {t:Tok} {Q:Value->Shared->Prop}
    (h:wpAny (model prog w) A (pyIter v) (λ itv s1=>Q (.ref s1.heap.objs.size) { s1 with heap:=s1.heap.push { cls:= .type "enumerate",data:= .fields #[.none, .bool false,itv,rawInt 1, .none, .none] } }) E s):
    wpAny (model prog w) A (Builtin.«enumerate.__new__» ⟨[.type "enumerate",v],[("start", .int 1 t)]⟩) (λ fin s1=>∃ obj,fin= .done (.ret obj)/\Q obj s1) E s:=by
  have hsub:=sub_enumerate;have hit:∀ {R:Value->Shared->Prop},(∀ itv s1,Q (.ref s1.heap.objs.size) { s1 with heap:=s1.heap.push { cls:= .type "enumerate",data:= .fields #[.none, .bool false,itv,rawInt 1, .none, .none] } }->R itv s1)->wpAny (model prog w) A (pyIter v) R E s:=λ k=>wpAny_mono h k λ _ _ q=>q;unfold Builtin.«enumerate.__new__»
  wp_walk
  refine wpAny_stack_any λ st=>wpAny_pure ?_;split
  · rename_i c _ _ _ _ _
    cases (c == Value.type "enumerate")
    · wp_walk using hit
      intro itv s1 q
      wp_walk
      exact ⟨_,rfl,q⟩
    · wp_walk using hit
      intro itv s1 q
      wp_walk
      exact ⟨_,rfl,q⟩
  · wp_walk using hit
    intro itv s1 q
    wp_walk
    exact ⟨_,rfl,q⟩
theorem Lo {v:Value} {t:Tok} {Q:Value->Shared->Prop}
    (h:wpAny (model prog w) A.in1.in1 (pyIter v) (λ itv s1=>∃ it,itv= .ref it/\∀ h',IsEnum h' s1.heap.objs.size it 1 .none->(∀ b o,s1.heap.get? b=some o->h'.get? b=some o)->h'.objs.size=s1.heap.objs.size+1->Q (.ref s1.heap.objs.size) { s1 with heap:=h' }) E s):
    wpAny (model prog w) A (call (.type "enumerate") [v] [("start", .int 1 t)]) Q E s:=by
  refine J7 F.called_enumerate (by decide) (by kernel_rfl) (by kernel_rfl) (λ obj=>by unfold argsOk;kernel_rfl) F.entry_enumerate_new (Km (wpAny_mono h (λ itv s1 q=> ?_) λ _ _ q=>q));obtain ⟨it,rfl,q⟩:=q;refine ⟨⟨_,Heap.get?_push_size _ rfl,rfl⟩,q _ (Heap.get?_push_size _ rfl) (λ b o e=>Heap.get?_push_of_some _ e) (Heap.size_push ..)⟩
end
theorem SW {prog:Program} {w:World} {A:Around} {it:Addr} {fp:List Addr} {n:Nat} {Pv:Nat->Value->Prop} {St:Nat->Heap->Prop} (k:Nat) (D:Draws prog w A it fp n Pv St):
    Draws prog w A it fp (n+k) (λ i v=>∃ j,i=j+k/\Pv j v) (λ i h=>∃ j,i=j+k/\St j h) where
  live:=λ i h ⟨j,_,st⟩=>D.live j h st
  frame:=λ i h h' ⟨j,e,st⟩ q=>⟨j,e,D.frame j h h' st q⟩
  item:=λ i s Q E hi ⟨j,e,st⟩ hQ=>D.item j s Q E (by omega) st λ x h' tk p st' sb=>hQ x h' tk ⟨j,e,p⟩ ⟨j+1,by omega,st'⟩ sb
  done:=λ s Q E ⟨j,e,st⟩ hE=>D.done s Q E (by
    have q:j=n:=by omega
    rw [q] at st;exact st) hE
theorem Kl {M:Model} {A:Around} {E:Value->Shared->Prop} {s:Shared} {pos:Pos} {T:String} {args:List (Bool × Sem Value)} {kws:List (Option Str × Sem Value)} {Q:Value->Shared->Prop}
    (hp:args.any (·.1)=false) (hk:kws.any (·.1.isNone)=false) (h:wpAny M A (evalArgs (.type T) true args kws) (λ a s1=>wpAny M A (call (.type T) a.pos a.kw) Q E s1) E s):wpAny M A (callWith pos (.type T) [] args kws) Q E s:=by
  unfold callWith;refine wpAny_bind (wpAny_holding (wpAny_mono h (λ a s1 h1=>wpAny_bind (wpAny_standAt ?_)) λ _ _ q=>q));simp only [hp,hk,Bool.or_false];refine wpAny_bind (wpAny_pure ?_);refine wpAny_bind (wpAny_mono h1 (λ r s2 hr=> ?_) λ _ _ q=>q);exact wpAny_bind (wpAny_holding (wpAny_point (wpAny_pure hr)))
end L2
namespace L2
open PySem PySem.Spec PyProof.Rows
theorem Tn {prog:Program} {w:World} {A:Around} (hh:A.handled=none) (tp:Bool) (it l:Addr) (hne:l≠it) (items:Array Value):
    Draws prog w A it [it,l] items.size (λ i v=>items[i]?=some v) (λ i h=>Bm tp h it l i/\Bx tp h l items) where
  live:=λ _ _ st=>let ⟨o,e,_⟩:=Bj st.1;⟨o,e⟩
  frame:=λ _ _ _ st hk=>⟨Ay st.1 λ o e=>hk it (by simp) o e,B9 st.2 λ o e=>hk l (by simp) o e⟩
  item:=λ i s Q E hi st hQ=>EW st.1 st.2 (x:=items[i]) (by simp [hi]) λ h' hit sb=>hQ _ h' s.toks (by simp [hi]) ⟨hit,B9 st.2 λ o e=>(sb.2 l hne).trans e⟩ sb
  done:=λ s Q E st hE=>GB hh st.1 st.2 (by simp) hE
def Px (tp:Bool) (K:PySem.W.Frag) (a:Addr):It:=
  ⟨λ i H=>∃ xs x,SqS tp K H a xs/\xs[i]?=some x,λ i H v H'=>∃ p x,H p=none/\v= .ref p/\H'=upd H p (.tup [.int ((i+1:Nat):Int),x])/\∀ xs,SqS tp K H a xs->xs[i]?=some x,λ i H=>∃ xs,SqS tp K H a xs/\xs.length<=i⟩
theorem LN {P:Program} {w:World} {K:PySem.W.Frag} {elts:List Expr} {k:Nat} {pos:Pos} (tp:Bool) (a e it:Addr) (hne:e≠it):
    Turn P w K (.Tuple elts k pos) (Px tp K a) [e,it] e (λ i h=>(∃ old,IsEnum h e it ((i+1:Nat):Int) old)/\Bm tp h it a i) where
  mem:=by simp
  obj:=λ i h st b hb=>by
    obtain ⟨⟨old,he⟩,hi⟩:=st;obtain ⟨o,eo,d⟩:=Bj hi;rcases List.mem_cons.mp hb with z | z
    · subst z;exact ⟨_,he,λ v z=>by cases (show Data.fields _=Data.cell v from z)⟩
    · have z:b=it:=by simpa using z
      subst z;exact ⟨o,eo,λ v z=>by rw [d] at z;cases z⟩
  keep:=λ i h h' st kp=>by
    obtain ⟨⟨old,he⟩,hi⟩:=st;exact ⟨⟨old,kp e (by simp) _ he⟩,Ay hi λ o z=>kp it (by simp) o z⟩
  item:=by
    intro X hP hw hK hc i pins s σ H E I hf st hg;subst hP hw hK;obtain ⟨xs,x,hq,hx⟩:=hg;obtain ⟨its,rv,p⟩:=BN I hq;obtain ⟨u,hu,ru⟩:=rv.get hx;obtain ⟨⟨old,he⟩,hi⟩:=st;obtain ⟨oi,ei,di⟩:=Bj hi;obtain ⟨oa,na,ea,da⟩:=DZ p;have hel:e<s.heap.objs.size:=Heap.lt_size he;have hil:it<s.heap.objs.size:=Heap.lt_size ei;have nia:a≠it:=λ z=>by
      subst z;rw [ei] at ea;cases ea;rw [di] at da;cases da
    have nea:e≠a:=λ z=>by
      subst z;rw [show s.heap.get? e=_ from he] at ea;cases ea;cases (show Data.fields _=Data.seq _ _ from da)
    have hlt:i<its.toArray.size:=by
      have:=(List.getElem?_eq_some_iff.mp hu).1;simpa using this
    have D:=SW 1 (Tn (prog:=X.prog) (w:=X.w) (A:=X.A.in1) (I.ok.hd hc) tp it a nia its.toArray);refine wpAny_pyNext_enum_itemD (i:=i+1) D he ⟨i,rfl,hi,p⟩ (by omega) hne (by simp [hne,nea]) λ v h' tk pv ho st' hT hsz hk=> ?_;obtain ⟨j,ej,ev⟩:=pv;obtain ⟨j2,ej2,hi',p'⟩:=st';have ej:j=i:=by omega
    have ej2:j2=i+1:=by omega
    subst ej ej2;have ev:v=u:=by
      rw [show its.toArray[j]?=some u by simpa using hu] at ev;exact (Option.some.inj ev).symm
    subst ev;have I0:=I.laid (h':=s.heap.push { cls:= .type "tuple",data:= .seq #[.int ((j+1:Nat):Int) tk,v] }) (a:=s.heap.objs.size) (o:= .tup [.int ((j+1:Nat):Int),x]) (t':=tk+1) (λ _ _ q=>Heap.get?_push_of_some _ q) (Nat.le_refl _)
      ⟨(by show 2<=sizeLine;decide),[.int ((j+1:Nat):Int) tk,v], .cons ⟨_,rfl⟩ (.cons ru .nil),⟨_,Heap.get?_push_size _ rfl,rfl,_,rfl⟩⟩
    have f0:∀ b∈[e,it],Dq X pins (upd H s.heap.objs.size (.tup [.int ((j+1:Nat):Int),x])) b:=λ b hb=>Lw (hf b hb) (by
      rcases List.mem_cons.mp hb with z | z
      · rw [z];exact Nat.ne_of_lt hel
      · rw [show b=it by simpa using z];exact Nat.ne_of_lt hil)
    have I1:=Inv.turnedL (t':=tk+1) (h':=h') [e,it] I0 f0 (λ b o hb z=>by
      have hb1:b≠e:=λ q=>hb (by simp [q]);have hb2:b≠it:=λ q=>hb (by simp [q]);rcases Heap.get?_push_cases (show (s.heap.push { cls:= .type "tuple",data:= .seq #[.int ((j+1:Nat):Int) tk,v] }).get? b=some o from z) with ⟨q1,q2⟩ | q
      · rw [q1,q2];exact hT
      · exact hk b o hb1 hb2 q)
    refine ⟨.ref s.heap.objs.size,rfl,wpAny_letOwnedTupleGo_enum (s:={ s with heap:=h',toks:=tk+1 }) ho λ h2 he2 sb=> ?_⟩;exact ⟨.ref s.heap.objs.size,_,Inv.turnedL (t':=tk+1) (h':=h2) [e,it] I1 f0 (λ b o hb z=>(sb.2 b λ q=>hb (by simp [q])).trans z),rfl,⟨_,x,I.fresh,rfl,rfl,λ ys hy=>by rw [JR I hy hq];exact hx⟩,
      ⟨⟨v,by simpa using he2⟩,Ay hi' λ o z=>(sb.2 it hne.symm).trans z⟩,λ b hb=>(f0 b hb).1⟩
  done:=by
    intro X hP hw hK hc i pins s σ H E I hf st hg;subst hP hw hK;obtain ⟨xs,hq,hx⟩:=hg;obtain ⟨its,rv,p⟩:=BN I hq;obtain ⟨⟨old,he⟩,hi⟩:=st;obtain ⟨oi,ei,di⟩:=Bj hi;obtain ⟨oa,na,ea,da⟩:=DZ p;have hT:s.TypeIs (.ref e) "enumerate":=⟨_,he,rfl⟩;have hl:=rv.length;unfold pyNext;refine wpAny_bind (wpAny_attempt (wpAny_callSpecial?_slot (name:=Str.ofString "__next__") hT F.slot_enumerate_next (wpAny_call_entry F.slot_enumerate_next hT F.entry_enumerate_next ?_ (F.args_enumerate_next_1 _))));show wpAny _ _ (field (.ref e) 2 >>= _) _ _ _;refine wpAny_bind (wpAny_field he rfl (x:= .ref it) rfl ?_);refine wpAny_bind (GB (A:=X.A.in1) (I.ok.hd hc) hi p (by simp;omega) λ h' x eb hx'=> ?_);obtain ⟨o,ho,hc2⟩:=hx';exact wpAny_bind (wpAny_isInstance (T:="StopIteration") (b:=true) ⟨o,ho,hc2⟩ isSubtype_stop (wpAny_pure ⟨rfl,I.turnedL (t':=s.toks) [e,it] hf λ b o hb z=>eb b o (λ q=>hb (by simp [q])) z⟩))
  self:=λ _ _ _ _ _ st h=>by
    obtain ⟨⟨old,he⟩,_⟩:=st;exact wpAny_pyIter_enum he h
section
variable {X:Cx} {elts:List Expr} {k:Nat} {tpos:Pos} {K:PySem.W.Frag}
def Pf (K:PySem.W.Frag) (ta:TA):TI:=λ σ H R=>ta σ H λ vs H1=>∃ tp a,vs=[.ref a]/\(∃ xs,SqS tp K H1 a xs)/\R (Px tp K a) H1
theorem Fk {l:Expr} {ta:TA} {p pos kp cp:Pos} {cj:Nat} (hg:Gl X "enumerate") (hm:X.mg "enumerate"=none) (ha:PA X [l] ta) (hK:X.K=K:=by rfl) (hs:starEach [l] X.env=[(false,eval l X.env)]:=by rfl):
    PI X (.Tuple elts k tpos) (.Call (.Name "enumerate" p) [l] [⟨some "start", .Constant (.int 1) cj cp,kp⟩] pos) (Pf K ta):=by
  subst hK;intro pins s σ H R I h;refine wpAny_Call_Name_kw (CC I hg hm IU (Kl (by rw [hs];rfl) rfl (PyProof.Rows.evalArgs_kw2 rfl ?_ (by rw [hs];rfl))));refine thn (ha pos pins s σ H _ I h) λ us s1 ⟨vs,H1,I1,r1,q1⟩=>PyProof.Rows.kwAll_cons ?_;refine Ag pins s1 σ H1 (λ v H2=>v= .int 1/\H2=H1) I1 ⟨rfl,rfl⟩ |> λ z=>thn z λ u s2 ⟨v,H2,I2,r2,ev,eh⟩=> ?_
  subst ev eh;obtain ⟨t,rfl⟩:=r2;refine PyProof.Rows.kwAll_nil ?_;obtain ⟨tp,a,e,⟨xs,hq⟩,q⟩:=q1;subst e;cases r1 with
  | cons r rr=>
    cases rr;cases r;obtain ⟨its,rv,pl⟩:=BN I2 hq;refine Lo ?_;refine Hx pl ⟨_,rfl,λ h' he hk hsz=> ?_⟩;refine wpAny_pyIter_enum he ?_;have hz:(s2.heap.push { cls:= .type (ID tp),data:= .fields #[.ref a, .int 0 0] }).objs.size=s2.heap.objs.size+1:=Heap.size_push ..;have hk2:∀ b o,s2.heap.get? b=some o->h'.get? b=some o:=λ b o z=>hk b o (Heap.get?_push_of_some _ z);have I3:=I2.kept (t':=s2.toks) hk2;have st:Bm tp h' s2.heap.objs.size a 0:=Ay FC λ o z=>hk _ o z;refine ⟨_,[_,s2.heap.objs.size],_,_,H2,rfl,I3,LN tp a _ _ (by rw [hz];exact Nat.succ_ne_self _),⟨⟨_,he⟩,st⟩,λ b hb=> ?_,q⟩;have hb':s2.heap.objs.size<=b:=by
      rcases List.mem_cons.mp hb with z | z
      · rw [z,hz];exact Nat.le_succ _
      · have z:b=s2.heap.objs.size:=by simpa using z
        rw [z];exact Nat.le_refl _
    exact I2.fpOk hb' (I2.hok.fresh hb')
end
def Isq (tp:Bool) (K:PySem.W.Frag) (a:Addr):It:=if tp=true then Itt K a else Itl K a
section
variable {X:Cx} {tg:Expr} {K:PySem.W.Frag}
def iSq (K:PySem.W.Frag) (tl:TE):TI:=λ σ H R=>tl σ H λ x H1=>∃ tp a,x= .ref a/\(∃ xs,SqS tp K H1 a xs)/\R (Isq tp K a) H1
theorem KN {l:Expr} {tl:TE} (hl:PE X l tl) (hK:X.K=K:=by rfl):PI X tg l (iSq K tl):=by
  subst hK;intro pins s σ H R I h;refine thn (hl pins s σ H _ I h) λ v s1 ⟨x,H1,I1,r1,q1⟩=> ?_;obtain ⟨tp,a,e,⟨xs,hq⟩,q⟩:=q1;subst e;cases r1;cases tp with
  | false=>
    obtain ⟨its,rv,p,hz⟩:=I1.list (show SqL X.K H1 a xs from hq);refine wpAny_pyIter_list p.isList ?_;refine ⟨s1.heap.objs.size,[s1.heap.objs.size],_,_,H1,rfl,I1.kept (t':=s1.toks) λ b o e=>Heap.get?_push_of_some _ e,Ja a _,⟨_,Heap.get?_push_size _ rfl,rfl,rfl⟩,λ b hb=> ?_,q⟩;have e:b=s1.heap.objs.size:=by simpa using hb
    subst e;exact I1.fpOk (Nat.le_refl _) (I1.hok.fresh (Nat.le_refl _))
  | true=>
    obtain ⟨its,rv,p,hz⟩:=I1.tuple (show SqT X.K H1 a xs from hq);refine wpAny_pyIter_tuple (show s1.heap.IsTuple a its.toArray from p) ?_;refine ⟨s1.heap.objs.size,[s1.heap.objs.size],_,_,H1,rfl,I1.kept (t':=s1.toks) λ b o e=>Heap.get?_push_of_some _ e,Hr a _,⟨_,Heap.get?_push_size _ rfl,rfl,rfl⟩,λ b hb=> ?_,q⟩;have e:b=s1.heap.objs.size:=by simpa using hb
    subst e;exact I1.fpOk (Nat.le_refl _) (I1.hok.fresh (Nat.le_refl _))
end
structure FSrc (J:It) (g:TG) (H:Hp) (n:Nat) (set:Nat->St->St):Prop where
  go:∀ i H',i<n->Same H H'->J.go i H'
  stop:∀ H',Same H H'->J.stop n H'
  yld:∀ i σ H' x H'' (R:St->Hp->Prop),i<n->Same H H'->J.yld i H' x H''->(∀ H3,Same H' H3->R (set i σ) H3)->g x σ H'' R
theorem DS {J:It} {g:TG} {H:Hp} {n:Nat} {set:Nat->St->St} {tb:TS} {D:Ends} {σ:St} (S:FSrc J g H n set) (Pv:Nat->St->Hp->Prop) (h0:Pv 0 σ H) (hk:∀ i σ H',Pv i σ H'->Same H H')
    (hs:∀ i σ H' H3,i<n->Pv i σ H'->Same H' H3->tb { D with nx:=Pv (i+1),ct:=Pv (i+1),bk:=D.nx } (set i σ) H3) (hd:∀ σ H',Pv n σ H'->D.nx σ H'):
    ∃ W:Nat->Nat->St->Hp->Prop,(∃ m,W 0 m σ H)/\∀ i m σ H,W i m σ H->
      (J.stop i H/\D.nx σ H)\/(J.go i H/\∃ N:St->Hp->Prop,(∀ σ' H',N σ' H'->∃ m',m'<m/\W (i+1) m' σ' H')/\∀ x H',J.yld i H x H'->g x σ H' λ σ2 H2=>tb { D with nx:=N,ct:=N,bk:=D.nx } σ2 H2):=by
  refine ⟨λ i m σ H'=>m=n - i/\i<=n/\Pv i σ H',⟨n,by simp,Nat.zero_le _,h0⟩,?_⟩;rintro i m σ H1 ⟨rfl,hi,p⟩;by_cases hlt:i<n
  · exact .inr ⟨S.go i H1 hlt (hk _ _ _ p),Pv (i+1),λ σ' H' p'=>⟨n - (i+1),by omega,rfl,hlt,p'⟩,λ x H' y=>S.yld i σ H1 x H' _ hlt (hk _ _ _ p) y λ H3 s3=>hs i σ H1 H3 hlt p s3⟩
  · have e:i=n:=by omega
    subst e;exact .inl ⟨S.stop H1 (hk _ _ _ p),hd σ H1 p⟩
section
variable {K:PySem.W.Frag} {H:Hp} {a b:Addr} {xs zs:List V} {tp t1 t2:Bool} {i1 i2:Nat}
theorem KY (h:SqS tp K H a xs):FSrc (Isq tp K a) (AM i1) H xs.length (λ i σ=>σ.set i1 (some (xs.getD i .non))):=by
  cases tp with
  | false=>exact {
      go:=λ i H' hi s=>⟨xs,xs[i],SqS.same (tp:=false) h s,by simp [hi]⟩
      stop:=λ H' s=>⟨xs,SqS.same (tp:=false) h s,Nat.le_refl _⟩
      yld:=λ i σ H' x H'' R hi s y k=>by
        obtain ⟨e,hv⟩:=y;subst e;have e:x=xs.getD i .non:=by
          rw [List.getD_eq_getElem?_getD,hv xs (SqS.same (tp:=false) h s)];rfl
        subst e;exact k _ (Same.refl _) }
  | true=>exact {
      go:=λ i H' hi s=>⟨xs,xs[i],SqS.same (tp:=true) h s,by simp [hi]⟩
      stop:=λ H' s=>⟨xs,SqS.same (tp:=true) h s,Nat.le_refl _⟩
      yld:=λ i σ H' x H'' R hi s y k=>by
        obtain ⟨e,hv⟩:=y;subst e;have e:x=xs.getD i .non:=by
          rw [List.getD_eq_getElem?_getD,hv xs (SqS.same (tp:=true) h s)];rfl
        subst e;exact k _ (Same.refl _) }
theorem L9 (h:SqL K H a xs):FSrc (Itl K a) (AM i1) H xs.length (λ i σ=>σ.set i1 (some (xs.getD i .non))):=KY (tp:=false) h
theorem Kh {lo:Int} {n:Nat}:FSrc (Itr lo n) (AM i1) H n (λ i σ=>σ.set i1 (some (.int (lo+i)))) where
  go:=λ i H' hi s=>hi
  stop:=λ H' s=>Nat.le_refl _
  yld:=λ i σ H' x H'' R hi s y k=>by
    obtain ⟨e,hv⟩:=y;subst e hv;exact k _ (Same.refl _)
theorem P5 (h:SqS tp K H a xs):FSrc (Px tp K a) (JE K 2 (B0 (AM i1) (B0 (AM i2) JX))) H xs.length (λ i σ=>(σ.set i1 (some (.int ((i+1:Nat):Int)))).set i2 (some (xs.getD i .non))) where
  go:=λ i H' hi s=>⟨xs,xs[i],h.same s,by simp [hi]⟩
  stop:=λ H' s=>⟨xs,h.same s,Nat.le_refl _⟩
  yld:=λ i σ H' x H'' R hi s y k=>by
    obtain ⟨p,v,hp,rfl,rfl,hv⟩:=y;have e:v=xs.getD i .non:=by
      rw [List.getD_eq_getElem?_getD,hv xs (h.same s)];rfl
    subst e;exact ⟨p,_,rfl,SqT.of Ad,rfl,_,_,rfl,_,_,rfl,rfl,k _ (Ak hp)⟩
theorem WK (h:SqS t1 K H a xs) (h':SqS t2 K H b zs) (hl:xs.length=zs.length):
    FSrc (Izs t1 t2 K a b) (JE K 2 (B0 (AM i1) (B0 (AM i2) JX))) H xs.length (λ i σ=>(σ.set i1 (some (xs.getD i .non))).set i2 (some (zs.getD i .non))) where
  go:=λ i H' hi s=>⟨xs,zs,xs[i],zs[i]'(by omega),h.same s,h'.same s,by simp [hi],by simp⟩
  stop:=λ H' s=>⟨xs,zs,h.same s,h'.same s, .inl (Nat.le_refl _)⟩
  yld:=λ i σ H' x H'' R hi s y k=>by
    obtain ⟨p,v,z,hp,rfl,rfl,hv,hz⟩:=y;have e:v=xs.getD i .non:=by
      rw [List.getD_eq_getElem?_getD,hv xs (h.same s)];rfl
    have e2:z=zs.getD i .non:=by
      rw [List.getD_eq_getElem?_getD,hz zs (h'.same s)];rfl
    subst e e2;exact ⟨p,_,rfl,SqT.of Ad,rfl,_,_,rfl,_,_,rfl,rfl,k _ (Ak hp)⟩
theorem FSrc.src {J:It} {g:TG} {n:Nat} {set:Nat->St->St} {σ0:St} (S:FSrc J g H n set) (kp:∀ i,i<n->Kp σ0 (set i σ0)):SrcOk J g σ0 H n (λ i=>set i σ0) where
  go:=S.go
  stop:=S.stop
  yld:=λ i H' x H'' R hi s y k=>S.yld i σ0 H' x H'' R hi s y k
  kp:=kp
theorem PL {σ0:St} (h:SqS tp K H a xs) (h0:σ0[0]?=some none):SrcOk (Isq tp K a) (AM 0) σ0 H xs.length (λ i=>σ0.set 0 (some (xs.getD i .non))):=(KY h).src λ i _=>(Kp.refl _).set h0
theorem Eb {σ0:St} (h:SqS tp K H a xs) (h0:σ0[0]?=some none) (h1:σ0[1]?=some none):SrcOk (Px tp K a) (JE K 2 (B0 (AM 0) (B0 (AM 1) JX))) σ0 H xs.length (λ i=>(σ0.set 0 (some (.int ((i+1:Nat):Int)))).set 1 (some (xs.getD i .non))):=
  (P5 h).src λ i _=>((Kp.refl _).set h0).set h1
end
theorem bA (a b:Nat):Builtin.bitAnd (a:Int) (b:Int)=((a &&& b:Nat):Int):=by
  rw [PyProof.Rows.bitAnd_pp (by omega) (by omega)];rfl
theorem bO (a b:Nat):Builtin.bitOr (a:Int) (b:Int)=((a ||| b:Nat):Int):=by
  have h:=MM.or_add_and a b;rw [PyProof.Rows.bitOr_and,bA];omega
theorem QL (m:Nat):((Builtin.Int.intBits (m:Int):Nat):Int)=((MM.bits m:Nat):Int):=by
  unfold Builtin.Int.intBits MM.bits;by_cases h:m=0
  · subst h;rfl
  · have e:((m:Int) == 0)=false:=by simp [h]
    rw [e,if_neg h];simp
theorem K5 (n:Nat):(1:Int)*2 ^ n=((2 ^ n:Nat):Int):=by
  rw [Int.one_mul];push_cast;rfl
section
variable {X:Cx}
def rBits:V->List V->Hp->VK->Prop:=λ x vs H Q=>∃ i:Int,x= .int i/\vs=[]/\Q (.int (Builtin.Int.intBits i:Nat)) H
theorem Ih:MtM X "int.bit_length" rBits:=by
  intro pins s σ H x vs v us Q I rx rv h;obtain ⟨i,rfl,rfl,q⟩:=h;obtain ⟨t,rfl⟩:=rx;have hus:=rv.zero;subst hus;exact PyProof.Rows.call_int_bit_length ⟨.int _,H,I.tok _,⟨_,rfl⟩,q⟩
end
section
variable {H:Hp} {Q:VK} {σ:St} {D:Ends} {te:TE} {ti:TIp} {i:Nat} {x:V}
theorem RA {m:Nat} (h:Q (.int (MM.bits m:Nat)) H):rBits (.int (m:Nat)) [] H Q:=⟨m,rfl,rfl,by rw [QL];exact h⟩
theorem JI (e:σ[i]?=some (some x)) (h:te σ H λ y H1=>ti x y H1 λ z H2=>D.nx (σ.set i (some z)) H2):UG i te ti D σ H:=⟨x,e,h⟩
end
abbrev nV (n:Nat):V:= .int (n:Nat)
theorem Aq {ns:List Nat} {i:Nat} (h:i<(ns.map nV).length):(ns.map nV).getD i .non= .int (ns.getD i 0:Nat):=by
  have h':i<ns.length:=by simpa using h
  simp [List.getD_eq_getElem?_getD,h']
theorem Kc {ns:List Int} {i:Nat} (h:i<(ns.map V.int).length):(ns.map V.int).getD i .non= .int (ns.getD i 0):=by
  have h':i<ns.length:=by simpa using h
  simp [List.getD_eq_getElem?_getD,h']
theorem G8 {ns:List Nat} {k:Int} (h0:0<=k) (h1:k<ns.length):atI (ns.map nV) k=some (.int (ns.getD k.toNat 0:Nat)):=by
  obtain ⟨j,rfl⟩:∃ j:Nat,k=j:=⟨k.toNat,by omega⟩;have h':j<ns.length:=by omega
  refine A4 ?_;rw [show ((j:Int)).toNat=j by omega];simp [List.getD_eq_getElem?_getD,h']
theorem IG {ns:List Nat} {i:Nat} (h:i<ns.length):ns.take (i+1)=ns.take i++[ns.getD i 0]:=by
  rw [List.take_succ_eq_append_getElem h];simp [List.getD_eq_getElem?_getD,h]
theorem AN {J:It} {g:TG} {σ0:St} {H:Hp} {n:Nat} {st:Nat->St} {te:TE} {Q:VK} {D:Addr} {G:Nat->Int} (S:SrcOk J g σ0 H n st) (hD:H D=none) (hn:n<=100000)
    (he:∀ i H' (R:VK),i<n->Same H H'->(∀ H3,Same H' H3->R (.int (G i)) H3)->te (st i) H' R)
    (hd:∀ H',Same H H'->H' D=some (.lst (((List.range n).map G).map V.int))->Q (.ref D) H'):F4 J σ0 g RZ te Q H D:=by
  refine A7 (m:=0) (G:=λ i=> .int (G i)) S hD hn (λ i H' R hi s k=>he i H' R hi s λ H3 s3=>k H3 _ s3 (.int _)) λ H' ys s hl r=> ?_;have e:(List.range n).map (λ i=>Dt.int (G i))=((List.range n).map G).map Dt.int:=by rw [List.map_map];rfl
  rw [e] at r;obtain ⟨b,eb,hb,fb⟩:=JQ r;cases eb;exact hd H' s hb
theorem A1 {J:It} {g:TG} {σ0:St} {H:Hp} {n:Nat} {st:Nat->St} {tc:TT} {te:TE} {Q:VK} {D:Addr} {p:Nat->Bool} {G:Nat->Int} (S:SrcOk J g σ0 H n st) (hD:H D=none) (hn:n<=100000)
    (ht:∀ i H' (R:Bool->Hp->Prop),i<n->Same H H'->(∀ H3,Same H' H3->R (p i) H3)->tc (st i) H' R)
    (he:∀ i H' (R:VK),i<n->p i=true->Same H H'->(∀ H3,Same H' H3->R (.int (G i)) H3)->te (st i) H' R)
    (hd:∀ H',Same H H'->H' D=some (.lst ((((List.range n).filter p).map G).map V.int))->Q (.ref D) H'):F4 J σ0 g tc te Q H D:=by
  refine FW (m:=0) (p:=p) (G:=λ i=> .int (G i)) S hD hn ht (λ i H' R hi hp s k=>he i H' R hi hp s λ H3 s3=>k H3 _ s3 (.int _)) λ H' ys s hl r=> ?_;have e:((List.range n).filter p).map (λ i=>Dt.int (G i))=(((List.range n).filter p).map G).map Dt.int:=by rw [List.map_map];rfl
  rw [e] at r;obtain ⟨b,eb,hb,fb⟩:=JQ r;cases eb;exact hd H' s hb
theorem Ds {J:It} {g:TG} {σ0:St} {H:Hp} {n:Nat} {st:Nat->St} {te:TE} {Q:VK} {D:Addr} {G:Nat->Bool} (S:SrcOk J g σ0 H n st) (hD:H D=none) (hn:n<=100000)
    (he:∀ i H' (R:VK),i<n->Same H H'->(∀ H3,Same H' H3->R (.bl (G i)) H3)->te (st i) H' R)
    (hd:∀ H',Same H H'->H' D=some (.lst (((List.range n).map G).map V.bl))->Q (.ref D) H'):F4 J σ0 g RZ te Q H D:=by
  refine A7 (m:=0) (G:=λ i=> .bl (G i)) S hD hn (λ i H' R hi s k=>he i H' R hi s λ H3 s3=>k H3 _ s3 (.bl _)) λ H' ys s hl r=> ?_;have e:ys=((List.range n).map G).map V.bl:=by
    cases r with
    | @lst _ _ vs _ q f b l ee=>
      rw [hl] at q;cases q;refine List.ext_getElem (by simpa using l) λ i h1 h2=> ?_;have hi:i<n:=by simpa using h2
      have:=ee i ys[i] (.bl (G i)) (by simp [h1]) (by simp [hi]);cases hv:ys[i] <;> rw [hv] at this <;> cases this;simp
  rw [e] at hl;exact hd H' s hl
def Pw (P:Program) (w:World) (K:PySem.W.Frag) (mg:Str->Option Value) (base:Heap) (x:Str) (C:Addr) (k:Nat) (ps:List Str) (sp:Sp):Prop:=
  ∃ f fd,mg x=some (.ref C)/\Mk K C f/\FnOk P w K mg base CX0 k f fd ps sp/\Binds K fd ps []
def Bk (P:Program) (w:World) (K:PySem.W.Frag) (mg:Str->Option Value) (base:Heap) (C:Addr) (m:Str) (k:Nat) (ps:List Str) (sp:Sp):Prop:=
  ∃ f fd,Cls K C/\Meth K C m f/\FnOk P w K mg base CX0 k f fd ps sp/\Binds K fd ps []
section
variable {X:Cx} {x m:Str} {C:Addr} {k:Nat} {ps:List Str} {sp:Sp} {o e:Expr} {es:List Expr} {t:TA} {ta:TE} {p pos apos:Pos}
theorem Ql (h:Pw X.prog X.w X.K X.mg X.base x C k ps sp) (hr:Room (k+1) X.A) (ha:PA X (e::es) t) (hg:Gl X x:=by rfl) (hdb:(x == ("__debug__":Str))=false:=by decide)
    (he:starEach (e::es) X.env=(false,eval e X.env)::starEach es X.env:=by rfl) (hpl:(backTo pos (starEach es X.env)).any (·.1)=false:=by rfl):
    PE X (.Call (.Name x p) (e::es) [] pos) (Kx C sp [] E0 t):=by
  obtain ⟨f,fd,hm,M,F,hb⟩:=h;exact L8 M F hr hg hm hb .nil MR ha hdb he hpl
theorem J8 {pl:Sem Bool} (he:PE X o ta) (h:Bk X.prog X.w X.K X.mg X.base C m k ps sp) (hr:Room k X.A) (ha:PA X (e::es) t)
    (hst:starEach (e::es) X.env=(false,eval e X.env)::starEach es X.env:=by rfl) (hpl:(backTo pos (starEach es X.env)).any (·.1)=false:=by rfl)
    (ht:eval (.Call (.Attribute o m apos) (e::es) [] pos) X.env=(do
      let ov <-eval o X.env
      standAt apos.atName
      let (f,first) <-holding [ov] (getMethod ov m pl)
      callWith pos f first (backTo pos (starEach (e::es) X.env)) (backToKw pos (keywordEach [] X.env))):=by rfl):
    PE X (.Call (.Attribute o m apos) (e::es) [] pos) (IW C m sp [] E0 ta t):=by
  obtain ⟨f,fd,c,hm,F,hb⟩:=h;exact RN (pl:=pl) he c hm F hr hb .nil MR ha hst hpl ht
theorem A3 {pl:Sem Bool} (he:PE X o ta) (h:Bk X.prog X.w X.K X.mg X.base C m k ps sp) (hr:Room k X.A)
    (ht:eval (.Call (.Attribute o m apos) [] [] pos) X.env=(do
      let ov <-eval o X.env
      standAt apos.atName
      let (f,first) <-holding [ov] (getMethod ov m pl)
      callWith pos f first (backTo pos (starEach [] X.env)) (backToKw pos (keywordEach [] X.env))):=by rfl):
    PE X (.Call (.Attribute o m apos) [] [] pos) (IW C m sp [] E0 ta QU):=by
  obtain ⟨f,fd,c,hm,F,hb⟩:=h;exact Ol (pl:=pl) he c hm F hr hb .nil MR ht
theorem F3 {x:Str} {C:Addr} {pos:Pos} (h:X.mg x=some (.ref C)) (hg:Gl X x:=by rfl) (hd:(x == ("__debug__":Str))=false:=by decide):PE X (.Name x pos) (tC (.ref C)):=Jj hg h rfl hd
end
structure Kind (K:PySem.W.Frag) (C:Addr):Prop where
  cl:Cls K C
  ha:PySem.W.findIn K (.ref C) "__class__"=some (some (.builtin "object.__class__"))
  hn:PySem.W.specialIn K (.builtin "object.__class__") "__get__"=some (some (.builtin "getset_descriptor.__get__"))
  htk:PySem.W.takesIn K (.builtin "object.__class__")=some true
  hm:PySem.W.mroIn K C (.type "object")=some true
section
variable {K:PySem.W.Frag} {H:Hp} {Q:VK} {σ:St} {D:Ends} {te tv:TE} {t:TA} {a C dx:Addr} {fs:List (Str × V)} {f:Str} {v:V} {sp:Sp}
theorem Ua (h:te σ H λ x H1=>∃ a C dx fs v,x= .ref a/\H1 a=some (.ins C dx fs)/\Cls K C/\NoAttr K C f/\fs.lookup f=some v/\Q v H1):TJ K te f σ H Q:=h
theorem SY (h:tv σ H λ y H1=>te σ H1 λ x H2=>∃ a C dx fs,x= .ref a/\H2 a=some (.ins C dx fs)/\Cls K C/\NoAttr K C f/\fs.length<1000/\D.nx σ (upd H2 a (.ins C dx (AO f y fs)))):Zb K te tv f D σ H:=h
theorem CY {y:V} (e:H a=some (.ins C dx fs)) (c:Cls K C) (n:NoAttr K C f) (l:fs.length<1000) (h:D.nx σ (upd H a (.ins C dx (AO f y fs)))):∃ a' C' dx' fs',V.ref a= .ref a'/\H a'=some (.ins C' dx' fs')/\Cls K C'/\NoAttr K C' f/\fs'.length<1000/\D.nx σ (upd H a' (.ins C' dx' (AO f y fs'))):=⟨a,C,dx,fs,rfl,e,c,n,l,h⟩
theorem RY (h:t σ H λ vs H1=>∀ x dx,H1 x=none->H1 dx=none->dx≠x->sp (.ref x::vs) (upd (upd H1 dx (.own x)) x (.ins C dx [])) (λ v H2=>v= .non/\Q (.ref x) H2) E0):Kx C sp [] E0 t σ H Q:=by
  unfold Kx;simpa using h
theorem Re {m:Str} (h:te σ H λ x H1=>∃ a dx fs,x= .ref a/\H1 a=some (.ins C dx fs)/\fs.lookup m=none/\t σ H1 λ vs H2=>sp (x::vs) H2 Q E0):IW C m sp [] E0 te t σ H Q:=by
  unfold IW;simpa using h
end
theorem Oq {r r':R2} {ta tb tc:TE} {σ:St} {H:Hp} {Q:VK} (h:ta σ H λ x H1=>tb σ H1 λ y H2=>r x y H2 λ z H3=>∃ k,z= .bl k/\(if k=true then tc σ H3 λ w' H4=>r' y w' H4 Q else Q (.bl false) H3)):Qb r r' ta tb tc σ H Q:=h
def Bq (x:V) (a b:Int):Bool:=match x with | .int i=>decide (a<=i)&&decide (i<=b) | _=>false
theorem F7 {b b':Bool} {Q:VK} {H:Hp} (e:b=b') (h:Q (.bl b') H):Q (.bl b) H:=e▸h
theorem N4 {b:Bool} {A B:Prop} (h1:b=true->A) (h2:b=false->B):if b=true then A else B:=by
  cases b with
  | true=>exact h1 rfl
  | false=>exact h2 rfl
theorem Hy {H:Hp} {x dx:Addr} {o:HO} {u:HO} (h1:H x=none) (h2:H dx=none):Same H (upd (upd H dx u) x o):=λ b q e=>by
  rw [Am (AF e h1),Am (AF e h2)];exact e
mutual
def eqD:Dt->Dt->Bool
  | .non, .non=>true
  | .bl a, .bl b=>a == b
  | .int a, .int b=>a == b
  | .str a, .str b=>a == b
  | .bl a, .int b=>(if a then 1 else 0) == b
  | .int a, .bl b=>a == (if b then 1 else 0)
  | .lst xs, .lst ys=>Cc xs ys
  | .tup xs, .tup ys=>Cc xs ys
  | _,_=>false
def Cc:List Dt->List Dt->Bool
  | [],[]=>true
  | x::xs,y::ys=>eqD x y&&Cc xs ys
  | _,_=>false
end
theorem BR:∀ {xs ys:List Dt},xs.length≠ys.length->Cc xs ys=false
  | [],[],h=>absurd rfl h
  | [],_::_,_=>by unfold Cc;rfl
  | _::_,[],_=>by unfold Cc;rfl
  | x::xs,y::ys,h=>by
    unfold Cc;rw [BR (xs:=xs) (ys:=ys) (λ e=>h (by simp [e])),Bool.and_false]
theorem Cb:∀ {xs ys:List Dt},xs.length=ys.length->Cc xs ys=(List.range xs.length).all λ i=>eqD (xs.getD i .non) (ys.getD i .non)
  | [],[],_=>by unfold Cc;rfl
  | [],_::_,h=>by simp at h
  | _::_,[],h=>by simp at h
  | x::xs,y::ys,h=>by
    unfold Cc;rw [Cb (xs:=xs) (ys:=ys) (by simpa using h),List.length_cons,List.range_succ_eq_map,List.all_cons,List.all_map];rfl
mutual
theorem Bt:∀ d:Dt,eqD d d=true
  | .non=>by unfold eqD;rfl
  | .bl a=>by unfold eqD;simp
  | .int a=>by unfold eqD;simp
  | .str a=>by unfold eqD;simp
  | .lst xs=>by unfold eqD;exact FJ xs
  | .tup xs=>by unfold eqD;exact FJ xs
theorem FJ:∀ d:List Dt,Cc d d=true
  | []=>by unfold Cc;rfl
  | x::xs=>by unfold Cc;rw [Bt x,FJ xs];rfl
end
theorem Rp.inj {H:Hp} {F G:Addr->Prop} {n m:Nat} {v:V} {d e:Dt} (r:Rp H F n v d) (r2:Rp H G m v e):d=e:=by
  induction r generalizing m e with
  | non=>cases r2;rfl
  | bl b=>cases r2;rfl
  | int i=>cases r2;rfl
  | str z=>cases r2;rfl
  | @lst n a vs ds h f b l el ih=>
    cases r2 with
    | @lst m _ vs2 ds2 h2 f2 b2 l2 el2=>
      rw [h] at h2;cases h2;congr 1;refine List.ext_getElem (by omega) λ i h1 h3=> ?_;have hv:i<vs.length:=by omega
      exact ih i vs[i] ds[i] (by simp [hv]) (by simp [h1]) (el2 i vs[i] ds2[i] (by simp [hv]) (by simp [h3]))
    | tup h2 _ _ _=>rw [h] at h2;cases h2
  | @tup n a vs ds h b l el ih=>
    cases r2 with
    | @tup m _ vs2 ds2 h2 b2 l2 el2=>
      rw [h] at h2;cases h2;congr 1;refine List.ext_getElem (by omega) λ i h1 h3=> ?_;have hv:i<vs.length:=by omega
      exact ih i vs[i] ds[i] (by simp [hv]) (by simp [h1]) (el2 i vs[i] ds2[i] (by simp [hv]) (by simp [h3]))
    | lst h2 _ _ _ _=>rw [h] at h2;cases h2
section
variable {X:Cx} {pins:List (Addr × Obj)} {σ:St} {H:Hp} {s:Shared}
theorem DW {F G:Addr->Prop} {n:Nat} {xs ys:List V} {ds es:List Dt} {its its2:List Value} {A:Around} (r:Vals xs its) (r2:Vals ys its2) (l1:xs.length=ds.length) (l2:ys.length=es.length)
    (el:∀ (i:Nat) (v:V) (d:Dt),xs[i]?=some v->ds[i]?=some d->Rp H F n v d) (el2:∀ (i:Nat) (v:V) (d:Dt),ys[i]?=some v->es[i]?=some d->Rp H G n v d)
    (ih:∀ {v u:V} {d e:Dt} {rv ru:Value},Rp H F n v d->Rp H G n u e->RelV v rv->RelV u ru->SeqAt.EqAt A s rv ru (eqD d e)):
    ∀ j (h1:j<its.toArray.size) (h2:j<its2.toArray.size),SeqAt.EqAt A s its.toArray[j] its2.toArray[j] (eqD (ds.getD j .non) (es.getD j .non)):=λ j h1 h2=>by
  have k1:=r.length;have k2:=r2.length;have h1':j<its.length:=by simpa using h1
  have h2':j<its2.length:=by simpa using h2
  have g1:xs[j]?=some (xs.getD j .non):=by rw [List.getD_eq_getElem?_getD,List.getElem?_eq_getElem (by omega)];rfl
  have g2:ys[j]?=some (ys.getD j .non):=by rw [List.getD_eq_getElem?_getD,List.getElem?_eq_getElem (by omega)];rfl
  have d1:ds[j]?=some (ds.getD j .non):=by rw [List.getD_eq_getElem?_getD,List.getElem?_eq_getElem (by omega)];rfl
  have d2:es[j]?=some (es.getD j .non):=by rw [List.getD_eq_getElem?_getD,List.getElem?_eq_getElem (by omega)];rfl
  obtain ⟨u,e1,ru⟩:=r.get g1;obtain ⟨u2,e2,ru2⟩:=r2.get g2;have q1:its.toArray[j]=u:=by rw [List.getElem?_eq_getElem h1'] at e1;simpa using Option.some.inj e1
  have q2:its2.toArray[j]=u2:=by rw [List.getElem?_eq_getElem h2'] at e2;simpa using Option.some.inj e2
  rw [q1,q2];exact ih (el j _ _ g1 d1) (el2 j _ _ g2 d2) ru ru2
theorem A8 (A:Around):A.in1.units=A.units+1:=rfl
theorem FX (I:Inv X pins σ H s) {F G:Addr->Prop}:∀ {n:Nat} {A:Around} {v u:V} {d e:Dt} {rv ru:Value},Rp H F n v d->Rp H G n u e->RelV v rv->RelV u ru->A.units+n<cLine->SeqAt.EqAt A s rv ru (eqD d e):=by
  intro n;have sc:∀ {n m:Nat} {A:Around} {v u:V} {d e:Dt} {rv ru:Value},Rp H F n v d->Rp H G m u e->(GV d||F5 d)=false->(GV e||F5 e)=false->RelV v rv->RelV u ru->SeqAt.EqAt A s rv ru (eqD d e):=by
    intro n m A v u d e rv ru r r2 n1 n2 rr rr2;cases r with
    | non=>
      cases rr;cases r2 with
      | non=>
        cases rr2;simp only [eqD];exact (show SeqAt.EqAt A s Value.none Value.none true from SeqAt.EqAt.same _)
      | bl x2=>
        cases rr2;simp only [eqD];exact SeqAt.EqAt.none_bool _
      | int x2=>
        obtain ⟨t2,rfl⟩:=rr2;simp only [eqD];exact SeqAt.EqAt.none_int _ _
      | str x2=>
        obtain ⟨t2,rfl⟩:=rr2;simp only [eqD];exact SeqAt.EqAt.none_str _ _
      | lst _ _ _ _ _=>cases n2
      | tup _ _ _ _=>cases n2
    | bl x1=>
      cases rr;cases r2 with
      | non=>
        cases rr2;simp only [eqD];exact SeqAt.EqAt.bool_none _
      | bl x2=>
        cases rr2;simp only [eqD];exact SeqAt.EqAt.bool_bool _ _
      | int x2=>
        obtain ⟨t2,rfl⟩:=rr2;simp only [eqD];exact SeqAt.EqAt.bool_int _ _ _
      | str x2=>
        obtain ⟨t2,rfl⟩:=rr2;simp only [eqD];exact SeqAt.EqAt.bool_str _ _ _
      | lst _ _ _ _ _=>cases n2
      | tup _ _ _ _=>cases n2
    | int x1=>
      obtain ⟨t1,rfl⟩:=rr;cases r2 with
      | non=>
        cases rr2;simp only [eqD];exact SeqAt.EqAt.int_none _ _
      | bl x2=>
        cases rr2;simp only [eqD];exact SeqAt.EqAt.int_bool _ _ _
      | int x2=>
        obtain ⟨t2,rfl⟩:=rr2;simp only [eqD];exact SeqAt.EqAt.int_int _ _ _ _
      | str x2=>
        obtain ⟨t2,rfl⟩:=rr2;simp only [eqD];exact SeqAt.EqAt.int_str _ _ _ _
      | lst _ _ _ _ _=>cases n2
      | tup _ _ _ _=>cases n2
    | str x1=>
      obtain ⟨t1,rfl⟩:=rr;cases r2 with
      | non=>
        cases rr2;simp only [eqD];exact SeqAt.EqAt.str_none _ _
      | bl x2=>
        cases rr2;simp only [eqD];exact SeqAt.EqAt.str_bool _ _ _
      | int x2=>
        obtain ⟨t2,rfl⟩:=rr2;simp only [eqD];exact SeqAt.EqAt.str_int _ _ _ _
      | str x2=>
        obtain ⟨t2,rfl⟩:=rr2;simp only [eqD];exact SeqAt.EqAt.str_str _ _ _ _
      | lst _ _ _ _ _=>cases n2
      | tup _ _ _ _=>cases n2
    | lst _ _ _ _ _=>cases n1
    | tup _ _ _ _=>cases n1
  induction n with
  | zero=>
    intro A v u d e rv ru r r2 rr rr2 hu;exact sc r r2 (by cases r <;> rfl) (by cases r2 <;> rfl) rr rr2
  | succ n ih=>
    intro A v u d e rv ru r r2 rr rr2 hu;have hu':A.units<cLine:=by omega
    cases h1:(GV d||F5 d) with
    | false=>
      cases h2:(GV e||F5 e) with
      | false=>exact sc r r2 h1 h2 rr rr2
      | true=>
        cases r2 with
        | @lst _ b ys es q2 f2 b2 l2 el2=>
          obtain rfl:ru=Value.ref b:=rr2;obtain ⟨its2,rv2,pl2,_⟩:=I.list (SqL.of q2);cases r with
          | non=>cases rr;simp only [eqD];exact SeqAt.EqAt.none_list pl2.isList hu'
          | bl x1=>cases rr;simp only [eqD];exact SeqAt.EqAt.bool_list _ pl2.isList hu'
          | int x1=>obtain ⟨t,rfl⟩:=rr;simp only [eqD];exact SeqAt.EqAt.int_list _ _ pl2.isList hu'
          | str x1=>obtain ⟨t,rfl⟩:=rr;simp only [eqD];exact SeqAt.EqAt.str_list _ _ pl2.isList hu'
          | lst _ _ _ _ _=>cases h1
          | tup _ _ _ _=>cases h1
        | @tup _ b ys es q2 b2 l2 el2=>
          obtain rfl:ru=Value.ref b:=rr2;obtain ⟨its2,rv2,pl2,_⟩:=I.tuple (SqT.of q2);have pl2:s.heap.IsTuple b its2.toArray:=pl2;cases r with
          | non=>cases rr;simp only [eqD];exact SeqAt.EqAt.none_tuple pl2 hu'
          | bl x1=>cases rr;simp only [eqD];exact SeqAt.EqAt.bool_tuple _ pl2 hu'
          | int x1=>obtain ⟨t,rfl⟩:=rr;simp only [eqD];exact SeqAt.EqAt.int_tuple _ _ pl2 hu'
          | str x1=>obtain ⟨t,rfl⟩:=rr;simp only [eqD];exact SeqAt.EqAt.str_tuple _ _ pl2 hu'
          | lst _ _ _ _ _=>cases h1
          | tup _ _ _ _=>cases h1
        | _=>cases h2
    | true=>
      cases r with
      | @lst _ a xs ds q1 f1 b1 l1 el1=>
        obtain rfl:rv=Value.ref a:=rr;obtain ⟨its,rv1,pl,_⟩:=I.list (SqL.of q1);have k1:=rv1.length;cases r2 with
        | @lst _ b ys es q2 f2 b2 l2 el2=>
          obtain rfl:ru=Value.ref b:=rr2;obtain ⟨its2,rv2,pl2,_⟩:=I.list (SqL.of q2);have k2:=rv2.length;by_cases hab:a=b
          · subst hab;have e:=(Rp.lst (n:=n) q1 f1 b1 l1 el1).inj (Rp.lst (n:=n) q2 f2 b2 l2 el2);rw [e,Bt];exact SeqAt.EqAt.same _
          · refine SeqAt.EqAt.of_refs hab ?_;simp only [eqD];by_cases hl:ds.length=es.length
            · rw [Cb hl];have q:=SeqAt.RcAt.lists (A:=A) (e:=λ i=>eqD (ds.getD i .non) (es.getD i .non)) pl.isList pl2.isList (by simp;omega) hu' (DW rv1 rv2 l1 l2 el1 el2 λ r r2 rr rr2=>ih r r2 rr rr2 (by rw [A8];omega));rw [show its.toArray.size=ds.length by simp;omega] at q;exact q
            · rw [BR hl];exact SeqAt.RcAt.lists_lengths pl.isList pl2.isList (by simp;omega) hu'
        | @tup _ b ys es q2 b2 l2 el2=>
          obtain rfl:ru=Value.ref b:=rr2;obtain ⟨its2,rv2,pl2,_⟩:=I.tuple (SqT.of q2);simp only [eqD];exact SeqAt.EqAt.list_tuple pl.isList (show s.heap.IsTuple b its2.toArray from pl2) hu'
        | non=>cases rr2;simp only [eqD];exact SeqAt.EqAt.list_none pl.isList hu'
        | bl x1=>cases rr2;simp only [eqD];exact SeqAt.EqAt.list_bool _ pl.isList hu'
        | int x1=>obtain ⟨t,rfl⟩:=rr2;simp only [eqD];exact SeqAt.EqAt.list_int _ _ pl.isList hu'
        | str x1=>obtain ⟨t,rfl⟩:=rr2;simp only [eqD];exact SeqAt.EqAt.list_str _ _ pl.isList hu'
      | @tup _ a xs ds q1 b1 l1 el1=>
        obtain rfl:rv=Value.ref a:=rr;obtain ⟨its,rv1,pl,_⟩:=I.tuple (SqT.of q1);have pl:s.heap.IsTuple a its.toArray:=pl;have k1:=rv1.length;cases r2 with
        | @tup _ b ys es q2 b2 l2 el2=>
          obtain rfl:ru=Value.ref b:=rr2;obtain ⟨its2,rv2,pl2,_⟩:=I.tuple (SqT.of q2);have pl2:s.heap.IsTuple b its2.toArray:=pl2;have k2:=rv2.length;by_cases hab:a=b
          · subst hab;have e:=(Rp.tup (n:=n) (F:=F) q1 b1 l1 el1).inj (Rp.tup (n:=n) (F:=G) q2 b2 l2 el2);rw [e,Bt];exact SeqAt.EqAt.same _
          · refine SeqAt.EqAt.of_refs hab ?_;simp only [eqD];have q:=SeqAt.RcAt.tuples (A:=A) (e:=λ i=>eqD (ds.getD i .non) (es.getD i .non)) pl pl2 hu' (DW rv1 rv2 l1 l2 el1 el2 λ r r2 rr rr2=>ih r r2 rr rr2 (by rw [A8];omega));have e1:its.toArray.size=ds.length:=by simp;omega
            have e2:its2.toArray.size=es.length:=by simp;omega
            rw [e1,e2] at q;by_cases hl:ds.length=es.length
            · rw [Cb hl];rw [<-hl,Nat.min_self,beq_self_eq_true,Bool.and_true] at q;exact q
            · rw [BR hl];rw [beq_eq_false_iff_ne.mpr hl,Bool.and_false] at q;exact q
        | @lst _ b ys es q2 f2 b2 l2 el2=>
          obtain rfl:ru=Value.ref b:=rr2;obtain ⟨its2,rv2,pl2,_⟩:=I.list (SqL.of q2);simp only [eqD];exact SeqAt.EqAt.tuple_list pl pl2.isList hu'
        | non=>cases rr2;simp only [eqD];exact SeqAt.EqAt.tuple_none pl hu'
        | bl x1=>cases rr2;simp only [eqD];exact SeqAt.EqAt.tuple_bool _ pl hu'
        | int x1=>obtain ⟨t,rfl⟩:=rr2;simp only [eqD];exact SeqAt.EqAt.tuple_int _ _ pl hu'
        | str x1=>obtain ⟨t,rfl⟩:=rr2;simp only [eqD];exact SeqAt.EqAt.tuple_str _ _ pl hu'
      | _=>cases h1
def ZE (neg:Bool):R2:=λ x y H Q=>∃ (n:Nat) (d e:Dt),n<=30/\Rp H FT n x d/\Rp H FT n y e/\(GV d&&GV e||F5 d&&F5 e)=true/\Q (.bl (if neg then !eqD d e else eqD d e)) H
theorem Te (hu:X.A.units+64<cLine):OpR X (compareOp .Eq) (ZE false):=by
  intro pins s σ H x y v u Q I rx ry h;obtain ⟨n,d,e,hn,r,r2,hs,q⟩:=h;cases r with
  | @lst m a xs ds q1 f1 b1 l1 el1=>
    cases r2 with
    | @lst _ b ys es q2 f2 b2 l2 el2=>
      obtain rfl:v=Value.ref a:=rx;obtain rfl:u=Value.ref b:=ry;obtain ⟨its,rv1,pl,_⟩:=I.list (SqL.of q1);obtain ⟨its2,rv2,pl2,_⟩:=I.list (SqL.of q2);have k1:=rv1.length;have k2:=rv2.length;have q:Q (.bl (Cc ds es)) H:=by
        have q:=q;unfold eqD at q;exact q
      by_cases hl:ds.length=es.length
      · refine SeqAt.eq_listAt (e:=λ i=>eqD (ds.getD i .non) (es.getD i .non)) pl.isList pl2.isList (by simp;omega) (by omega) (DW rv1 rv2 l1 l2 el1 el2 λ r r2 rr rr2=>FX I r r2 rr rr2 (by rw [A8];omega)) ⟨.bl _,H,I,rfl,?_⟩;rw [show its.toArray.size=ds.length by simp;omega, <-Cb hl];exact q
      · refine SeqAt.eq_list_lengthsAt pl.isList pl2.isList (by simp;omega) (by omega) ⟨.bl _,H,I,rfl,?_⟩;rw [<-BR hl];exact q
    | _=>cases hs
  | @tup m a xs ds q1 b1 l1 el1=>
    cases r2 with
    | @tup _ b ys es q2 b2 l2 el2=>
      obtain rfl:v=Value.ref a:=rx;obtain rfl:u=Value.ref b:=ry;obtain ⟨its,rv1,pl,_⟩:=I.tuple (SqT.of q1);obtain ⟨its2,rv2,pl2,_⟩:=I.tuple (SqT.of q2);have k1:=rv1.length;have k2:=rv2.length;have q:Q (.bl (Cc ds es)) H:=by
        have q:=q;unfold eqD at q;exact q
      refine SeqAt.eq_tupleAt (e:=λ i=>eqD (ds.getD i .non) (es.getD i .non)) (show s.heap.IsTuple a its.toArray from pl) (show s.heap.IsTuple b its2.toArray from pl2) (by omega) (DW rv1 rv2 l1 l2 el1 el2 λ r r2 rr rr2=>FX I r r2 rr rr2 (by rw [A8];omega)) ⟨.bl _,H,I,rfl,?_⟩;have e1:its.toArray.size=ds.length:=by simp;omega
      have e2:its2.toArray.size=es.length:=by simp;omega
      rw [e1,e2];by_cases hl:ds.length=es.length
      · rw [<-hl,Nat.min_self,beq_self_eq_true,Bool.and_true, <-Cb hl];exact q
      · rw [beq_eq_false_iff_ne.mpr hl,Bool.and_false, <-BR hl];exact q
    | _=>cases hs
  | _=>cases hs
theorem LG (hu:X.A.units+64<cLine):OpR X (compareOp .NotEq) (ZE true):=by
  intro pins s σ H x y v u Q I rx ry h;obtain ⟨n,d,e,hn,r,r2,hs,q⟩:=h;cases r with
  | @lst m a xs ds q1 f1 b1 l1 el1=>
    cases r2 with
    | @lst _ b ys es q2 f2 b2 l2 el2=>
      obtain rfl:v=Value.ref a:=rx;obtain rfl:u=Value.ref b:=ry;obtain ⟨its,rv1,pl,_⟩:=I.list (SqL.of q1);obtain ⟨its2,rv2,pl2,_⟩:=I.list (SqL.of q2);have k1:=rv1.length;have k2:=rv2.length;have q:Q (.bl (!Cc ds es)) H:=by
        have q:=q;unfold eqD at q;exact q
      by_cases hl:ds.length=es.length
      · refine SeqAt.RcNeAt.lists (e:=λ i=>eqD (ds.getD i .non) (es.getD i .non)) pl.isList pl2.isList (by simp;omega) (by omega) (DW rv1 rv2 l1 l2 el1 el2 λ r r2 rr rr2=>FX I r r2 rr rr2 (by rw [A8];omega)) _ _ _ _ ⟨.bl _,H,I,rfl,?_⟩;rw [show its.toArray.size=ds.length by simp;omega, <-Cb hl];exact q
      · refine SeqAt.RcNeAt.lists_lengths pl.isList pl2.isList (by simp;omega) (by omega) _ _ _ _ ⟨.bl _,H,I,rfl,?_⟩;rw [BR hl] at q;exact q
    | _=>cases hs
  | @tup m a xs ds q1 b1 l1 el1=>
    cases r2 with
    | @tup _ b ys es q2 b2 l2 el2=>
      obtain rfl:v=Value.ref a:=rx;obtain rfl:u=Value.ref b:=ry;obtain ⟨its,rv1,pl,_⟩:=I.tuple (SqT.of q1);obtain ⟨its2,rv2,pl2,_⟩:=I.tuple (SqT.of q2);have k1:=rv1.length;have k2:=rv2.length;have q:Q (.bl (!Cc ds es)) H:=by
        have q:=q;unfold eqD at q;exact q
      refine SeqAt.RcNeAt.tuples (e:=λ i=>eqD (ds.getD i .non) (es.getD i .non)) (show s.heap.IsTuple a its.toArray from pl) (show s.heap.IsTuple b its2.toArray from pl2) (by omega) (DW rv1 rv2 l1 l2 el1 el2 λ r r2 rr rr2=>FX I r r2 rr rr2 (by rw [A8];omega)) _ _ _ _ ⟨.bl _,H,I,rfl,?_⟩;have e1:its.toArray.size=ds.length:=by simp;omega
      have e2:its2.toArray.size=es.length:=by simp;omega
      rw [e1,e2];by_cases hl:ds.length=es.length
      · rw [<-hl,Nat.min_self,beq_self_eq_true,Bool.and_true, <-Cb hl];exact q
      · rw [beq_eq_false_iff_ne.mpr hl,Bool.and_false, <-BR hl];exact q
    | _=>cases hs
  | _=>cases hs
end
end L2
namespace L2
open PySem PySem.Spec PyProof.Rows
abbrev dN (n:Nat):Dt:= .int (n:Nat)
def dL (ns:List Nat):Dt:= .lst (ns.map dN)
def dT (ns:List Nat):Dt:= .tup (ns.map dN)
def dS (zs:List Str):Dt:= .lst (zs.map .str)
def dST (zs:List Str):Dt:= .tup (zs.map .str)
def dLL (ls:List (List Nat)):Dt:= .lst (ls.map dL)
def dTT (ls:List (List Nat)):Dt:= .tup (ls.map dT)
section
variable {H:Hp} {F:Addr->Prop} {n:Nat} {v:V}
theorem E9 {α:Type} {f:α->V} {g:α->Dt} (uniq:∀ (a:α) (v:V),Rp H F n v (g a)->v=f a) {vs:List V} {as:List α} (l:vs.length=(as.map g).length)
    (e:∀ (i:Nat) (v:V) (d:Dt),vs[i]?=some v->(as.map g)[i]?=some d->Rp H F n v d):vs=as.map f:=by
  refine List.ext_getElem (by simpa using l) λ i h1 h2=> ?_;have h3:i<as.length:=by simpa using h2
  rw [List.getElem_map];exact uniq _ _ (e i vs[i] (g as[i]) (by simp [h1]) (by simp [h3]))
theorem Oy (a:Nat) (v:V) (r:Rp H F n v (dN a)):v=nV a:=by cases r;rfl
theorem P3 (a:Str) (v:V) (r:Rp H F n v (.str a)):v= .str a:=by cases r;rfl
theorem K0 {ns:List Nat} (r:Rp H F n v (dL ns)):∃ a,v= .ref a/\H a=some (.lst (ns.map nV))/\F a/\ns.length<=100000:=by
  unfold dL at r;cases r with
  | @lst m a vs _ h f b l e=>
    have q:=E9 (f:=nV) (λ a v r=>Oy a v r) l e;subst q;exact ⟨a,rfl,h,f,by simpa using b⟩
theorem Hu {ns:List Nat} (r:Rp H F n v (dT ns)):∃ a,v= .ref a/\H a=some (.tup (ns.map nV))/\ns.length<=100000:=by
  unfold dT at r;cases r with
  | @tup m a vs _ h b l e=>
    have q:=E9 (f:=nV) (λ a v r=>Oy a v r) l e;subst q;exact ⟨a,rfl,h,by simpa using b⟩
theorem Os {zs:List Str} (r:Rp H F n v (dS zs)):∃ a,v= .ref a/\H a=some (.lst (zs.map V.str))/\F a/\zs.length<=100000:=by
  unfold dS at r;cases r with
  | @lst m a vs _ h f b l e=>
    have q:=E9 (f:=V.str) (λ a v r=>P3 a v r) l e;subst q;exact ⟨a,rfl,h,f,by simpa using b⟩
theorem OB {zs:List Str} (r:Rp H F n v (dST zs)):∃ a,v= .ref a/\H a=some (.tup (zs.map V.str))/\zs.length<=100000:=by
  unfold dST at r;cases r with
  | @tup m a vs _ h b l e=>
    have q:=E9 (f:=V.str) (λ a v r=>P3 a v r) l e;subst q;exact ⟨a,rfl,h,by simpa using b⟩
theorem Jv {α:Type} {f:α->V} {g:α->Dt} {as:List α} (k:∀ a∈as,Rp H F n (f a) (g a)):∀ (i:Nat) (v:V) (d:Dt),(as.map f)[i]?=some v->(as.map g)[i]?=some d->Rp H F n v d:=by
  intro i v d h1 h2;rw [List.getElem?_map] at h1 h2;cases e:as[i]? with
  | none=>rw [e] at h1;cases h1
  | some a=>
    rw [e] at h1 h2;cases h1;cases h2;exact k a (List.mem_of_getElem? e)
theorem Dm {a:Addr} {ns:List Nat} (h:H a=some (.lst (ns.map nV))) (f:F a) (b:ns.length<=100000):Rp H F (n+1) (.ref a) (dL ns):= .lst h f (by simpa using b) (by simp) (Jv λ k _=> .int _)
theorem TR {a:Addr} {ns:List Nat} (h:H a=some (.tup (ns.map nV))) (b:ns.length<=100000):Rp H F (n+1) (.ref a) (dT ns):= .tup h (by simpa using b) (by simp) (Jv λ k _=> .int _)
theorem Nr {a:Addr} {zs:List Str} (h:H a=some (.lst (zs.map V.str))) (f:F a) (b:zs.length<=100000):Rp H F (n+1) (.ref a) (dS zs):= .lst h f (by simpa using b) (by simp) (Jv λ k _=> .str _)
theorem Sg {a:Addr} {zs:List Str} (h:H a=some (.tup (zs.map V.str))) (b:zs.length<=100000):Rp H F (n+1) (.ref a) (dST zs):= .tup h (by simpa using b) (by simp) (Jv λ k _=> .str _)
theorem FA {ds:List Dt} (r:Rp H F n v (.lst ds)):∃ m a vs,n=m+1/\v= .ref a/\H a=some (.lst vs)/\F a/\vs.length=ds.length/\vs.length<=100000/\∀ i,i<ds.length->Rp H F m (vs.getD i .non) (ds.getD i .non):=by
  cases r with
  | @lst m a vs _ h f b l e=>
    refine ⟨m,a,vs,rfl,rfl,h,f,l,b,λ i hi=>e i _ _ ?_ ?_⟩
    · rw [List.getD_eq_getElem?_getD,List.getElem?_eq_getElem (by omega)];rfl
    · rw [List.getD_eq_getElem?_getD,List.getElem?_eq_getElem hi];rfl
theorem JH {ds:List Dt} (r:Rp H F n v (.tup ds)):∃ m a vs,n=m+1/\v= .ref a/\H a=some (.tup vs)/\vs.length=ds.length/\vs.length<=100000/\∀ i,i<ds.length->Rp H F m (vs.getD i .non) (ds.getD i .non):=by
  cases r with
  | @tup m a vs _ h b l e=>
    refine ⟨m,a,vs,rfl,rfl,h,l,b,λ i hi=>e i _ _ ?_ ?_⟩
    · rw [List.getD_eq_getElem?_getD,List.getElem?_eq_getElem (by omega)];rfl
    · rw [List.getD_eq_getElem?_getD,List.getElem?_eq_getElem hi];rfl
theorem AQ {α β:Type} (f:α->β) (as:List α) (i:Nat) (x:β) (y:α) (h:i<as.length):(as.map f).getD i x=f (as.getD i y):=by simp [List.getD_eq_getElem?_getD,h]
theorem E8 {zs:List Str} {i:Nat} (h:i<(zs.map V.str).length):(zs.map V.str).getD i .non= .str (zs.getD i Str.empty):=AQ V.str zs i .non Str.empty (by simpa using h)
theorem Au {α:Type} {as:List α} {i:Nat} {y:α} (h:i<as.length):as.getD i y∈as:=by
  rw [List.getD_eq_getElem?_getD,List.getElem?_eq_getElem h];exact List.getElem_mem h
theorem CF {α β:Type} (f:α->β) (as:List α) (y:α):(List.range as.length).map (λ i=>f (as.getD i y))=as.map f:=Ar f as y
end
theorem Rp.ins {H:Hp} {F:Addr->Prop} {n:Nat} {v:V} {d:Dt} {x C dx:Addr} {fs:List (Str × V)} {o:HO} (r:Rp H F n v d) (h:H x=some (.ins C dx fs)):Rp (L2.upd H x o) F n v d:=by
  induction r with
  | non=>exact .non
  | bl b=>exact .bl b
  | int i=>exact .int i
  | str z=>exact .str z
  | @lst n a vs ds q f b l e ih=>
    refine .lst ?_ f b l ih;rw [Am (Fv q h (by intro z;cases z))];exact q
  | @tup n a vs ds q b l e ih=>
    refine .tup ?_ b l ih;rw [Am (Fv q h (by intro z;cases z))];exact q
def But (x:Addr) (H H':Hp):Prop:=∀ b o,H b=some o->b≠x->H' b=some o
theorem But.same {x:Addr} {H H1 H2:Hp} (b:But x H H1) (s:Same H1 H2):But x H H2:=λ a o e n=>s _ _ (b a o e n)
theorem But.of {x:Addr} {H H1:Hp} (s:Same H H1):But x H H1:=λ a o e _=>s _ _ e
theorem But.put {x:Addr} {H H1:Hp} {o:HO} (b:But x H H1):But x H (upd H1 x o):=λ a u e n=>by rw [Am n];exact b a u e n
theorem But.rp {x:Addr} {H H':Hp} {F:Addr->Prop} {n:Nat} {v:V} {d:Dt} {C dx:Addr} {fs:List (Str × V)} (k:But x H H') (h:H x=some (.ins C dx fs)) (r:Rp H F n v d):Rp H' F n v d:=by
  induction r with
  | non=>exact .non
  | bl b=>exact .bl b
  | int i=>exact .int i
  | str z=>exact .str z
  | @lst n a vs ds q f b l e ih=>exact .lst (k _ _ q (Fv q h (by intro z;cases z))) f b l ih
  | @tup n a vs ds q b l e ih=>exact .tup (k _ _ q (Fv q h (by intro z;cases z))) b l ih
theorem Rp.tupd {H:Hp} {F:Addr->Prop} {n:Nat} {D t:Addr} {ds:List Dt} {ys:List V} (r:Rp H F (n+1) (.ref D) (.lst ds)) (hl:H D=some (.lst ys)) (ht:H t=none):Rp (L2.upd H t (.tup ys)) F (n+1) (.ref t) (.tup ds):=by
  cases r with
  | @lst _ _ vs _ q f b l ee=>
    rw [hl] at q;cases q;exact .tup Ad b l λ i v e h1 h2=>(ee i v e h1 h2).new ht
theorem Sy (ls:List (List Nat)):(List.range ls.length).map (λ i=>dT (ls.getD i []))=ls.map dT:=Ar dT ls []
theorem Sa (ls:List (List Nat)):(List.range ls.length).map (λ i=>dL (ls.getD i []))=ls.map dL:=Ar dL ls []
section
variable {H:Hp} {a:Addr} {kvs:List (Key × V)}
end
theorem OP {xs:List V} {k:Int} (h:0<=k):Jd xs (some k) none=xs.drop k.toNat:=by
  unfold Jd;have e2:HT.sIx xs.length xs.length none=xs.length:=rfl;rw [e2];have e1:HT.sIx xs.length 0 (some k)=min k.toNat xs.length:=by
    unfold HT.sIx;simp only;split <;> omega
  rw [e1];by_cases q:k.toNat<=xs.length
  · rw [Nat.min_eq_left q,List.take_of_length_le (by simp)]
  · rw [Nat.min_eq_right (by omega),List.drop_of_length_le (Nat.le_refl _),List.drop_of_length_le (by omega)];simp
theorem N9 {xs:List V} {k:Int} (h:0<=k):Jd xs none (some k)=xs.take k.toNat:=by
  unfold Jd;have e2:HT.sIx xs.length 0 none=0:=rfl;rw [e2,List.drop_zero];have e1:HT.sIx xs.length xs.length (some k)=min k.toNat xs.length:=by
    unfold HT.sIx;simp only;split <;> omega
  rw [e1,Nat.sub_zero];by_cases q:k.toNat<=xs.length
  · rw [Nat.min_eq_left q]
  · rw [Nat.min_eq_right (by omega),List.take_of_length_le (Nat.le_refl _),List.take_of_length_le (by omega)]
section
variable {K:PySem.W.Frag} {wi:TI} {own:List Str} {fr:List (Str × Nat)} {g:TG} {tc:TT} {te tl:TE} {tb:TS} {D:Ends} {σ:St} {H:Hp} {Q:VK} {R:It->Hp->Prop} {ta:TA}
theorem QE (h:wi σ H λ J H1=>∀ D,H1 D=none->F4 J (Fa own fr σ) g tc te Q H1 D):GP wi own fr g tc te σ H Q:=h
theorem Ts (h:wi σ H λ J H1=>∃ W:Nat->Nat->St->Hp->Prop,(∃ m,W 0 m σ H1)/\∀ i m σ H,W i m σ H->
  (J.stop i H/\D.nx σ H)\/(J.go i H/\∃ N:St->Hp->Prop,(∀ σ' H',N σ' H'->∃ m',m'<m/\W (i+1) m' σ' H')/\∀ x H',J.yld i H x H'->g x σ H' λ σ2 H2=>tb { D with nx:=N,ct:=N,bk:=D.nx } σ2 H2)):Yi wi g tb D σ H:=h
theorem W2 (h:tl σ H λ x H1=>∃ a,x= .ref a/\(∃ xs,SqL K H1 a xs)/\R (Itl K a) H1):Oh K tl σ H R:=h
theorem YD (h:tl σ H λ x H1=>∃ a,x= .ref a/\(∃ xs,SqT K H1 a xs)/\R (Itt K a) H1):S6 K tl σ H R:=h
theorem Vq (h:tl σ H λ x H1=>∃ tp a,x= .ref a/\(∃ xs,SqS tp K H1 a xs)/\R (Isq tp K a) H1):iSq K tl σ H R:=h
theorem Yp (h:ta σ H λ vs H1=>∃ a,vs=[.ref a]/\(∃ xs,SqL K H1 a xs)/\R (Ite K a) H1):Sb K ta σ H R:=h
theorem W5 (h:ta σ H λ vs H1=>∃ tp a,vs=[.ref a]/\(∃ xs,SqS tp K H1 a xs)/\R (Px tp K a) H1):Pf K ta σ H R:=h
theorem Zg (h:ta σ H λ vs H1=>∃ t1 t2 a b,vs=[.ref a, .ref b]/\(∃ xs,SqS t1 K H1 a xs)/\(∃ ys,SqS t2 K H1 b ys)/\R (Izs t1 t2 K a b) H1):iZs K ta σ H R:=h
theorem YO (h:ta σ H λ vs H1=>∃ j:Int,vs=[.int j]/\ -(2 ^ 62)<=j/\j<2 ^ 62/\R (Itr 0 j.toNat) H1):SG ta σ H R:=h
theorem Y5 (h:ta σ H λ vs H1=>∃ i j:Int,vs=[.int i, .int j]/\(-(2 ^ 62)<=i/\i<2 ^ 62/\ -(2 ^ 62)<=j/\j<2 ^ 62)/\R (Itr i (j - i).toNat) H1):Sf ta σ H R:=h
end
theorem Fm {J:It} {g:TG} {H0 H:Hp} {n:Nat} {set:Nat->St->St} {tb:TS} {D:Ends} {σ:St} (S:FSrc J g H0 n set) (Pv:Nat->St->Hp->Prop) (h0:Pv 0 σ H) (hk:∀ i σ H',Pv i σ H'->Same H0 H')
    (hs:∀ i σ H' H3,i<n->Pv i σ H'->Same H' H3->tb { D with nx:=Pv (i+1),ct:=Pv (i+1),bk:=D.nx } (set i σ) H3) (hd:∀ σ H',Pv n σ H'->D.nx σ H'):
    ∃ W:Nat->Nat->St->Hp->Prop,(∃ m,W 0 m σ H)/\∀ i m σ H,W i m σ H->
      (J.stop i H/\D.nx σ H)\/(J.go i H/\∃ N:St->Hp->Prop,(∀ σ' H',N σ' H'->∃ m',m'<m/\W (i+1) m' σ' H')/\∀ x H',J.yld i H x H'->g x σ H' λ σ2 H2=>tb { D with nx:=N,ct:=N,bk:=D.nx } σ2 H2):=by
  refine ⟨λ i m σ H'=>m=n - i/\i<=n/\Pv i σ H',⟨n,by simp,Nat.zero_le _,h0⟩,?_⟩;rintro i m σ H1 ⟨rfl,hi,p⟩;by_cases hlt:i<n
  · exact .inr ⟨S.go i H1 hlt (hk _ _ _ p),Pv (i+1),λ σ' H' p'=>⟨n - (i+1),by omega,rfl,hlt,p'⟩,λ x H' y=>S.yld i σ H1 x H' _ hlt (hk _ _ _ p) y λ H3 s3=>hs i σ H1 H3 hlt p s3⟩
  · have e:i=n:=by omega
    subst e;exact .inl ⟨S.stop H1 (hk _ _ _ p),hd σ H1 p⟩
theorem FF {H:Hp} {i1 n:Nat}:FSrc (Itr 0 n) (AM i1) H n (λ i σ=>σ.set i1 (some (.int (i:Nat)))):=by
  have:=Kh (H:=H) (i1:=i1) (lo:=0) (n:=n);simpa using this
theorem ZZ {H:Hp} {F:Addr->Prop} {n:Nat} {a:Addr} {x y:V} {d e:Dt} (h:H a=some (.lst [x,y])) (f:F a) (r1:Rp H F n x d) (r2:Rp H F n y e):Rp H F (n+1) (.ref a) (.lst [d,e]):=by
  refine .lst h f (by simp) rfl λ i v u h1 h2=> ?_
  match i with
  | 0=>cases h1;cases h2;exact r1
  | 1=>cases h1;cases h2;exact r2
  | i+2=>cases h1
theorem Ce {H:Hp} {F:Addr->Prop} {n:Nat} {a:Addr} {x y:V} {d e:Dt} (h:H a=some (.tup [x,y])) (r1:Rp H F n x d) (r2:Rp H F n y e):Rp H F (n+1) (.ref a) (.tup [d,e]):=by
  refine .tup h (by simp) rfl λ i v u h1 h2=> ?_
  match i with
  | 0=>cases h1;cases h2;exact r1
  | 1=>cases h1;cases h2;exact r2
  | i+2=>cases h1
theorem Xa {A B:Prop} (h:B):if (!true)=true then A else B:=by simpa using h
theorem VW {A B:Prop} (h:A):if (!false)=true then A else B:=by simpa using h
theorem RB {H:Hp} {F:Addr->Prop} {n:Nat} {a:Addr} {v0 v1 v2 v3 v4 v5 v6:V} {d0 d1 d2 d3 d4 d5 d6:Dt} (h:H a=some (.tup [v0,v1,v2,v3,v4,v5,v6])) (r0:Rp H F n v0 d0) (r1:Rp H F n v1 d1) (r2:Rp H F n v2 d2) (r3:Rp H F n v3 d3) (r4:Rp H F n v4 d4) (r5:Rp H F n v5 d5) (r6:Rp H F n v6 d6):
    Rp H F (n+1) (.ref a) (.tup [d0,d1,d2,d3,d4,d5,d6]):=by
  refine .tup h (by simp) rfl λ i v u h1 h2=> ?_
  match i with
  | 0=>cases h1;cases h2;exact r0
  | 1=>cases h1;cases h2;exact r1
  | 2=>cases h1;cases h2;exact r2
  | 3=>cases h1;cases h2;exact r3
  | 4=>cases h1;cases h2;exact r4
  | 5=>cases h1;cases h2;exact r5
  | 6=>cases h1;cases h2;exact r6
  | i+7=>cases h1
theorem B3 {α:Type} {xs:List α} {n:Nat} (h:xs.length=n+1):∃ x ys,xs=x::ys/\ys.length=n:=by
  cases xs with
  | nil=>cases h
  | cons x ys=>exact ⟨x,ys,rfl,Nat.succ.inj h⟩
theorem Q7 {H:Hp} {F:Addr->Prop} {n:Nat} {v:V} {d0 d1 d2 d3 d4 d5 d6:Dt} (r:Rp H F n v (.tup [d0,d1,d2,d3,d4,d5,d6])):∃ m a v0 v1 v2 v3 v4 v5 v6,n=m+1/\v= .ref a/\H a=some (.tup [v0,v1,v2,v3,v4,v5,v6])/\
    Rp H F m v0 d0/\Rp H F m v1 d1/\Rp H F m v2 d2/\Rp H F m v3 d3/\Rp H F m v4 d4/\Rp H F m v5 d5/\Rp H F m v6 d6:=by
  cases r with
  | @tup m a vs _ h b l e=>
    replace l:vs.length=7:=l;obtain ⟨v0,w0,rfl,l0⟩:=B3 l;obtain ⟨v1,w1,rfl,l1⟩:=B3 l0;obtain ⟨v2,w2,rfl,l2⟩:=B3 l1;obtain ⟨v3,w3,rfl,l3⟩:=B3 l2;obtain ⟨v4,w4,rfl,l4⟩:=B3 l3;obtain ⟨v5,w5,rfl,l5⟩:=B3 l4;obtain ⟨v6,w6,rfl,l6⟩:=B3 l5;cases List.eq_nil_of_length_eq_zero l6;exact ⟨m,a,v0,v1,v2,v3,v4,v5,v6,rfl,rfl,h,e 0 _ _ rfl rfl,e 1 _ _ rfl rfl,e 2 _ _ rfl rfl,e 3 _ _ rfl rfl,e 4 _ _ rfl rfl,e 5 _ _ rfl rfl,e 6 _ _ rfl rfl⟩
theorem R1 (s:Nat) (ns:List Nat):inV (nV s) (ns.map nV)=decide (s∈ns):=by
  unfold inV;rw [Bool.eq_iff_iff,List.any_eq_true,decide_eq_true_eq];constructor
  · rintro ⟨y,hy,e⟩;obtain ⟨k,hk,rfl⟩:=List.mem_map.mp hy;have e:((k:Nat):Int)=(s:Nat):=by simpa [eqV] using e
    have:k=s:=by omega
    exact this▸hk
  · intro h;exact ⟨nV s,List.mem_map.mpr ⟨s,h,rfl⟩,by simp [eqV]⟩
theorem OV (ns:List Nat):(ns.map nV).all A0=true:=by simp [A0]
theorem TL {K:PySem.W.Frag} {H:Hp} {Q:VK} {tp:Bool} {p:Addr} {s:Nat} {ns:List Nat} (c:SqS tp K H p (ns.map nV)) (h:Q (.bl (decide (s∈ns))) H):rIn K false (nV s) (.ref p) H Q:=by
  refine ⟨p,_,rfl,?_,rfl,OV ns,by rw [R1];exact h⟩;cases tp with
  | false=>exact .inl c
  | true=>exact .inr c
theorem Jp {n:Nat} (G:Nat->Nat):(((List.range n).map λ i=>((G i:Nat):Int))).sum=(((List.range n).map G).sum:Nat):=by
  induction n with
  | zero=>rfl
  | succ n ih=>rw [List.range_succ,List.map_append,List.map_append,List.sum_append,List.sum_append,ih];simp
end L2
namespace L2
theorem Fq {α:Type} {as:List α} {i:Nat} {y:α} (h:i<as.length):as.getD i y=as[i]:=by
  rw [List.getD_eq_getElem?_getD,List.getElem?_eq_getElem h];rfl
end L2
namespace L2
open PySem PySem.Spec PyProof.Rows
theorem LV {n j y:Nat} (h:j<n):(List.range n).getD j y=j:=by
  rw [Fq (by simpa using h),List.getElem_range]
theorem NR {α:Type} (f:Nat->α) {n j:Nat} {y:α} (h:j<n):((List.range n).map f).getD j y=f j:=by
  rw [AQ f (List.range n) j y 0 (by simpa using h),LV h]
section
variable {prog:Program} {w:World} {A:Around} {E:Value->Shared->Prop} {s:Shared} {T:String} {r d:Addr} {n:Nat} {P:Nat->Value->Prop} {St:Nat->Heap->Prop}
end
section
variable {prog:Program} {w:World} {A:Around} {E:Value->Shared->Prop} {s:Shared}
end
section
variable {X:Cx} {K:PySem.W.Frag} {e o:Expr} {ta:TA} {to:TE} {p p2 pos pos2 apos cpos:Pos}
end
section
variable {X:Cx} {K:PySem.W.Frag} {e o:Expr} {es:List Expr} {ta to:TE} {t:TA} {f name:Str} {pos apos cpos:Pos} {T id:String} {r:V->List V->Hp->VK->Prop}
theorem Bl (he:PE X e ta) (hb:attributeBase e f X.env (eval e X.env)=eval e X.env) (hK:X.K=K:=by rfl):PE X (.Attribute e f pos) (TJ K ta f):=by
  subst hK;exact S4 he hb
theorem SK (pa:PlainAttrs T) (slot:Slot T name id) (hty:typeOf (.builtin id)=pure (.type "method_descriptor")) (hm:MtR X id r) (ho:PE X o to) (hK:X.K=K:=by rfl)
    (hbase:attributeBase o name X.env (eval o X.env)=eval o X.env:=by rfl) (hline:(apos.endLine == cpos.line)=true:=by rfl):PE X (.Call (.Attribute o name apos) [] [] cpos) (S3 K T r to):=by
  subst hK;exact S5 pa slot hty hm ho hbase hline
theorem Mj (pa:PlainAttrs T) (slot:Slot T name id) (hty:typeOf (.builtin id)=pure (.type "method_descriptor")) (hm:MtR X id r) (ho:PE X o to) (ha:PA X (e::es) t) (hK:X.K=K:=by rfl)
    (hbase:attributeBase o name X.env (eval o X.env)=eval o X.env:=by rfl)
    (hfew:((backTo cpos (starEach (e::es) X.env)).all (λ x=> !x.1)&&(backToKw cpos (keywordEach [] X.env)).all (λ x=>x.1.isSome)
      && decide ((e::es).length+([]:List Keyword).length+(if ([]:List Keyword).isEmpty then 0 else 1)<30))=true:=by rfl)
    (hline:(apos.endLine == cpos.line)=true:=by rfl) (hs:starEach (e::es) X.env=(false,eval e X.env)::starEach es X.env:=by rfl) (hplain:(backTo cpos (starEach es X.env)).any (·.1)=false:=by rfl):
    PE X (.Call (.Attribute o name apos) (e::es) [] cpos) (tBM K T r to t):=by
  subst hK;exact Wx pa slot hty hm ho ha hbase hfew hline hs hplain
end
section
variable {prog:Program} {w:World} {A:Around} {E:Value->Shared->Prop} {s:Shared}
end
section
variable {X:Cx} {K:PySem.W.Frag} {e o:Expr} {ta:TA} {to:TE} {p p2 pos pos2 apos cpos:Pos}
end
def YY (P:Program) (w:World) (K:PySem.W.Frag) (mg:Str->Option Value) (base:Heap) (k:Nat) (f:Addr) (sp:Sp):Prop:=
  ∃ fd ps,PySem.W.keepIn K (.ref f)=true/\FnOk P w K mg base CX0 k f fd ps sp/\Binds K fd ps []
theorem CallF.val {P:Program} {w:World} {K:PySem.W.Frag} {mg:Str->Option Value} {base:Heap} {x:Str} {k:Nat} {ps:List Str} {sp:Sp} (h:CallF P w K mg base x k ps sp):∃ f,mg x=some (.ref f)/\YY P w K mg base k f sp:=
  let ⟨f,fd,hm,hk,F,hb⟩:=h;⟨f,hm,fd,ps,hk,F,hb⟩
section
variable {X:Cx} {k:Nat} {e o:Expr} {es:List Expr} {t:TA} {to:TE} {pos:Pos} {S:Addr->Sp->Prop}
end
theorem arg1 {α:Type} {P:List α->Prop} (h:∀ a0,P [a0]):∀ us:List α,us.length=1->P us:=λ us hl=>match us,hl with | [a0],_=>h a0
theorem arg2 {α:Type} {P:List α->Prop} (h:∀ a0 a1,P [a0,a1]):∀ us:List α,us.length=2->P us:=λ us hl=>match us,hl with | [a0,a1],_=>h a0 a1
theorem arg3 {α:Type} {P:List α->Prop} (h:∀ a0 a1 a2,P [a0,a1,a2]):∀ us:List α,us.length=3->P us:=λ us hl=>match us,hl with | [a0,a1,a2],_=>h a0 a1 a2
theorem arg4 {α:Type} {P:List α->Prop} (h:∀ a0 a1 a2 a3,P [a0,a1,a2,a3]):∀ us:List α,us.length=4->P us:=λ us hl=>match us,hl with | [a0,a1,a2,a3],_=>h a0 a1 a2 a3
theorem arg5 {α:Type} {P:List α->Prop} (h:∀ a0 a1 a2 a3 a4,P [a0,a1,a2,a3,a4]):∀ us:List α,us.length=5->P us:=λ us hl=>match us,hl with | [a0,a1,a2,a3,a4],_=>h a0 a1 a2 a3 a4
theorem arg6 {α:Type} {P:List α->Prop} (h:∀ a0 a1 a2 a3 a4 a5,P [a0,a1,a2,a3,a4,a5]):∀ us:List α,us.length=6->P us:=λ us hl=>match us,hl with | [a0,a1,a2,a3,a4,a5],_=>h a0 a1 a2 a3 a4 a5
theorem arg7 {α:Type} {P:List α->Prop} (h:∀ a0 a1 a2 a3 a4 a5 a6,P [a0,a1,a2,a3,a4,a5,a6]):∀ us:List α,us.length=7->P us:=λ us hl=>match us,hl with | [a0,a1,a2,a3,a4,a5,a6],_=>h a0 a1 a2 a3 a4 a5 a6
theorem arg8 {α:Type} {P:List α->Prop} (h:∀ a0 a1 a2 a3 a4 a5 a6 a7,P [a0,a1,a2,a3,a4,a5,a6,a7]):∀ us:List α,us.length=8->P us:=λ us hl=>match us,hl with | [a0,a1,a2,a3,a4,a5,a6,a7],_=>h a0 a1 a2 a3 a4 a5 a6 a7
theorem arg9 {α:Type} {P:List α->Prop} (h:∀ a0 a1 a2 a3 a4 a5 a6 a7 a8,P [a0,a1,a2,a3,a4,a5,a6,a7,a8]):∀ us:List α,us.length=9->P us:=λ us hl=>match us,hl with | [a0,a1,a2,a3,a4,a5,a6,a7,a8],_=>h a0 a1 a2 a3 a4 a5 a6 a7 a8
structure BlkScopeC (X:Cx) (scope:Scope) (cx:Str) (own:List Str) (fr:List (Str × Nat)):Prop where
  kind:scope.kind= .function
  onec:∀ y∈scope.names,y.2= .cell->y.1=cx
  isc:scope.names.lookup cx=some .cell
  lay:∀ n cl,cellsFrom n scope.names cl=(cx,n)::cl
  push:∀ h:Heap,pushCells h scope.names=h.push { cls:= .type "cell",data:= .cell none }
  loc:∀ y∈scope.names,y.2= .local->scope.names.lookup y.1=some .local
  free:∀ y∈scope.names,y.2= .free->(X.env.scope.names.lookup y.1=some .cell\/X.env.scope.names.lookup y.1=some .free)
  fr:∀ p∈fr,X.N[p.2]?=some p.1/\(p.1,NameKind.free)∈scope.names
  only:∀ x,(x,NameKind.free)∈scope.names->scope.names.lookup x=some .free
section
variable {X:Cx} {pins:List (Addr × Obj)} {σ:St} {H:Hp} {s:Shared} {scope:Scope} {cx:Str} {own:List Str} {fr:List (Str × Nat)} {fp:List Addr}
end
section
variable {X:Cx}
end
def Oi (sc:Scope) (N:List Str) (scope:Scope) (cx:Str) (own:List Str) (fr:List (Str × Nat)):Bool:=
  decide (scope.kind= .function)&&
  (scope.names.all λ y=>(decide (y.2≠ .cell)||decide (y.1=cx))&&(decide (y.2≠ .local)||decide (scope.names.lookup y.1=some .local))&&
    (decide (y.2≠ .free)||((decide (sc.names.lookup y.1=some .cell)||decide (sc.names.lookup y.1=some .free))&&decide (scope.names.lookup y.1=some .free))))&&
  (fr.all λ p=>decide (N[p.2]?=some p.1)&&decide ((p.1,NameKind.free)∈scope.names))&&
  decide (scope.names.lookup cx=some .cell)&&decide ((own++fr.map (·.1)).Nodup)
section
variable {X:Cx} {scope:Scope} {cx:Str} {own:List Str} {fr:List (Str × Nat)}
theorem BlkScopeC.of (h:Oi X.env.scope X.N scope cx own fr=true) (lay:∀ n cl,cellsFrom n scope.names cl=(cx,n)::cl) (push:∀ h:Heap,pushCells h scope.names=h.push { cls:= .type "cell",data:= .cell none }):BlkScopeC X scope cx own fr:=by
  unfold Oi at h;simp only [Bool.and_eq_true,List.all_eq_true,decide_eq_true_iff,Bool.or_eq_true] at h;obtain ⟨⟨⟨⟨h1,h2⟩,h3⟩,h4⟩,h5⟩:=h;exact ⟨h1,λ y hy e=>(h2 y hy).1.1.resolve_left (λ z=>z e),h4,lay,push,λ y hy e=>(h2 y hy).1.2.resolve_left (λ z=>z e),λ y hy e=>((h2 y hy).2.resolve_left (λ z=>z e)).1,λ p hp=>h3 p hp,λ x hx=>((h2 _ hx).2.resolve_left (λ z=>z rfl)).2⟩
end
section
variable {X:Cx} {K:PySem.W.Frag} {scope:Scope} {fr:List (Str × Nat)}
theorem MU {elt iter:Expr} {x:Str} {px:Pos} {ifs:List Expr} {pos:Pos} {wi:TI} {tc:TT} {te:TE} (hi:PI X (.Name x px) iter wi)
    (ht:∀ C ex s H,PTs (AV X scope [x] fr C ex s H) ifs tc) (he:∀ C ex s H,PE (AV X scope [x] fr C ex s H) elt te)
    (hb:Eh X.env.scope X.N scope [x] fr=true:=by with_unfolding_all rfl) (hc:X.calm=true:=by rfl)
    (hs:∀ x,foldedSetIterable iter X.env x=pure x:=by intro _;rfl):PE X (.ListComp elt [⟨.Name x px,iter,ifs,0⟩] scope pos) (GP wi [x] fr (AM 0) tc te):=
  JP hc (.of hb) hi (λ C ex s H=>Hh hb rfl C ex s H) ht he hs
end
section
variable {X:Cx} {e o:Expr} {es:List Expr} {t:TA} {to:TE} {pos:Pos} {S:Addr->Sp->Prop}
end
def Si:List V->Hp->VK->Prop:=λ xs H Q=>∃ i j,xs=[.int i, .int j]/\Q (.int (if j>i then j else i)) H
def Sn:List V->Hp->VK->Prop:=λ xs H Q=>∃ i j,xs=[.int i, .int j]/\Q (.int (if j<i then j else i)) H
def Sh (K:PySem.W.Frag):List V->Hp->VK->Prop:=λ xs H Q=>∃ (p:Addr) (ns:List Int),xs=[.ref p]/\SqL K H p (ns.map V.int)/\ns≠[]/\∀ M,M∈ns->(∀ a∈ns,a<=M)->Q (.int M) H
section
variable {X:Cx} {K:PySem.W.Frag}
theorem JM (hc:X.calm=true:=by rfl):AU X (.builtin "max") Si:=N6 hc
theorem Tp (hc:X.calm=true:=by rfl):AU X (.builtin "min") Sn:=NN hc
theorem SX (hK:X.K=K:=by rfl) (hc:X.calm=true:=by rfl):AU X (.builtin "max") (Sh K):=by
  subst hK;intro pins s σ H xs us Q I r h;obtain ⟨p,ns,rfl,hq,hn,q⟩:=h;obtain ⟨u,rfl,rx⟩:=Cg r;cases rx;obtain ⟨its,rv,pl,_⟩:=I.list hq;obtain ⟨ps,e⟩:=(IntsAre.allInts (C2 rv)).items;have e':its=ps.toList.map λ p=>Value.int p.1 p.2:=by
    have:=congrArg Array.toList e;simpa [intItems] using this
  have hl:=pl.isList;rw [e] at hl;have ef:ps.toList.map (·.1)=ns:=Ci (ns:=ns) (l:=ps.toList) (by rw [<-e'];exact rv);have hsz:ps.size=ns.length:=by rw [<-ef];simp
  have hpos:0<ns.length:=by
    cases ns with
    | nil=>exact absurd rfl hn
    | cons _ _=>simp
  have na:∀ i,i<ps.size->numAt ps i=ns.getD i 0:=λ i hi=>by
    rw [<-ef];unfold numAt;simp [List.getD_eq_getElem?_getD,hi]
  refine max_intList (I.ok.hd hc) hl (by omega) λ v h' tk hv hk=> ?_;obtain ⟨b1,b2⟩:=argBest_gt (numAt ps) (ps.size - 1);generalize argBest (λ i j=>decide (numAt ps i>numAt ps j)) (ps.size - 1)=k at hv b1 b2;have hk':k<ps.size:=by omega
  have ev:v=Value.int (numAt ps k) (ps[k]).2:=by
    unfold intItems at hv;simp [hk'] at hv;rw [<-hv];unfold numAt;simp [hk']
  subst ev;refine ⟨.int (numAt ps k),H,I.kept hk,⟨_,rfl⟩,q _ ?_ ?_⟩
  · rw [na k hk'];exact Au (by omega)
  · intro a ha;obtain ⟨i,hi,rfl⟩:=List.getElem_of_mem ha;have:=b2 i (by omega);rw [na i (by omega),Fq hi] at this;exact this
end
theorem Qw {H:Hp} {Q:VK} {i j:Int} (h:Q (.int (if j>i then j else i)) H):Si [.int i, .int j] H Q:=⟨i,j,rfl,h⟩
theorem QQ {H:Hp} {Q:VK} {i j:Int} (h:Q (.int (if j<i then j else i)) H):Sn [.int i, .int j] H Q:=⟨i,j,rfl,h⟩
theorem Q4 {K:PySem.W.Frag} {H:Hp} {Q:VK} {p:Addr} {ns:List Int} (c:SqL K H p (ns.map V.int)) (n:ns≠[]) (h:∀ M,M∈ns->(∀ a∈ns,a<=M)->Q (.int M) H):Sh K [.ref p] H Q:=⟨p,ns,rfl,c,n,h⟩
end L2
namespace HT
open PySem PySem.Spec PyProof.Rows
variable {prog:Program} {w:World} {A:Around} {E:Value->Shared->Prop} {s:Shared}
end HT
namespace L2
open PySem PySem.Spec PyProof.Rows
theorem Mm:∀ a b:List Nat,Cc (a.map dN) (b.map dN)=decide (a=b)
  | [],[]=>by simp [Cc]
  | [],_::_=>by simp [Cc]
  | _::_,[]=>by simp [Cc]
  | x::a,y::b=>by
    rw [List.map_cons,List.map_cons];unfold Cc;rw [Mm a b];have e:eqD (dN x) (dN y)=decide (x=y):=by
      show eqD (.int (x:Int)) (.int (y:Int))=_;unfold eqD;rw [Bool.eq_iff_iff,beq_iff_eq,decide_eq_true_iff];omega
    rw [e,Bool.eq_iff_iff];simp
theorem OT (a b:List Nat):eqD (dL a) (dL b)=decide (a=b):=by
  show eqD (.lst _) (.lst _)=_;unfold eqD;exact Mm a b
theorem Nv (as bs:List Str):EM (as.map V.str) (bs.map V.str)=decide (as=bs):=by
  rw [Bool.eq_iff_iff,decide_eq_true_iff];unfold EM;simp only [Bool.and_eq_true,beq_iff_eq,List.length_map,List.all_eq_true,List.mem_range];constructor
  · rintro ⟨h1,h2⟩;refine List.ext_getElem h1 λ i ha hb=> ?_;have h3:=h2 i ha;rw [E8 (by simpa using ha),E8 (by simpa using hb)] at h3;have h4:(as.getD i Str.empty == bs.getD i Str.empty)=true:=h3;rw [beq_iff_eq,Fq ha,Fq hb] at h4;exact h4
  · rintro rfl;refine ⟨rfl,λ i hi=> ?_⟩;rw [E8 (by simpa using hi)];show (as.getD i Str.empty == as.getD i Str.empty)=true;rw [beq_iff_eq]
theorem M6 (i j:Int):Builtin.Range.rangeSize i j 1=(((j - i).toNat:Nat):Int):=by
  unfold Builtin.Range.rangeSize;rw [if_pos (by decide)];split <;> omega
def DK {α:Type}:Sem α->Prop
  | .rule _ k=>DK (k ())
  | .at _ k=>DK (k ())
  | .load _ _ k=>∀ o,DK (k o)
  | .update _ _ f k=>(∀ o,(f o).dict=o.dict)/\DK (k ())
  | .loadIfAlive _ k=>∀ o,DK (k o)
  | .point _ k=>DK (k ())
  | .alloc _ k=>∀ a,DK (k a)
  | .fresh k=>∀ t,DK (k t)
  | .ask k=>∀ t,DK (k t)
  | .choose _ _ k=>∀ t,DK (k t)
  | .os _ _ k=>∀ t,DK (k t)
  | .call .. => False
  | .handled _ k=>∀ t,DK (k t)
  | .genState _ k=>∀ t,DK (k t)
  | .newGen _ k=>∀ t,DK (k t)
  | .resume .. => False
  | .stack k=>∀ t,DK (k t)
  | .thread k=>∀ t,DK (k t)
  | _=>True
def KD (h h':Heap):Prop:=∀ (b:Nat) (o:Obj),h.objs[b]?=some o->∃ o',h'.objs[b]?=some o'/\o'.dict=o.dict
theorem KD.refl (h:Heap):KD h h:=λ b o e=>⟨o,e,rfl⟩
theorem KD.trans {h h1 h2:Heap} (a:KD h h1) (b:KD h1 h2):KD h h2:=λ c o e=>by
  obtain ⟨o1,e1,d1⟩:=a c o e;obtain ⟨o2,e2,d2⟩:=b c o1 e1;exact ⟨o2,e2,d2.trans d1⟩
theorem Qm {h:Heap} {b:Addr} {o:Obj} (e:h.get? b=some o):h.objs[b]?=some o:=by
  unfold Heap.get? at e;split at e
  · cases e
  · exact e
theorem KD.at' {h h':Heap} (k:KD h h') {b:Addr} {o o':Obj} (e:h.get? b=some o) (e':h'.get? b=some o'):o'.dict=o.dict:=by
  obtain ⟨o1,e1,d1⟩:=k b o (Qm e);rw [Qm e'] at e1;cases e1;exact d1
theorem KD.push (h:Heap) (o:Obj):KD h (h.push o):=λ b u e=>by
  refine ⟨u,?_,rfl⟩;show (h.objs.push o)[b]?=some u;have hb:b<h.objs.size:=(Array.getElem?_eq_some_iff.mp e).1;rw [Array.getElem?_push_lt hb];rw [Array.getElem?_eq_getElem hb] at e;exact e
theorem KD.upd (h:Heap) (a:Addr) {f:Obj->Obj} (hf:∀ o,(f o).dict=o.dict):KD h (h.update a f):=λ b u e=>by
  have hb:b<h.objs.size:=(Array.getElem?_eq_some_iff.mp e).1;show ∃ o',(h.objs.modify a f)[b]?=some o'/\_;rw [Array.getElem?_modify,e];by_cases q:a=b
  · rw [if_pos q];exact ⟨f u,rfl,hf u⟩
  · rw [if_neg q];exact ⟨u,rfl,rfl⟩
theorem VX {α:Type} {M:Model} {Γ:PySem.Ctx}:∀ (t:Sem α) (Q:α->Pos->Shared->Prop) (E:Value->Pos->Shared->Prop) (p:Pos) (s s0:Shared),DK t->KD s0.heap s.heap->Sem.wp M Γ t Q E p s->
    Sem.wp M Γ t (λ a p s'=>Q a p s'/\KD s0.heap s'.heap) (λ a p s'=>E a p s'/\KD s0.heap s'.heap) p s:=by
  intro t
  induction t with
  | pure a=>intro Q E p s s0 _ k h;rw [Sem.wp] at h ⊢;exact ⟨h,k⟩
  | raise e=>intro Q E p s s0 _ k h;rw [Sem.wp] at h ⊢;exact ⟨h,k⟩
  | unsupported w=>intro Q E p s s0 _ k h;rw [Sem.wp] at h;exact h.elim
  | finish e=>intro Q E p s s0 _ k h;rw [Sem.wp] at h;exact h.elim
  | rule t k ih=>intro Q E p s s0 d k h;rw [Sem.wp] at h ⊢;exact ih () Q E p s s0 d k h
  | «at» t k ih=>intro Q E p s s0 d k h;rw [Sem.wp] at h ⊢;exact ih () Q E _ s s0 d k h
  | load a part k ih=>
    intro Q E p s s0 d k h;rw [Sem.wp] at h ⊢;obtain ⟨o,e,h⟩:=h;exact ⟨o,e,ih o Q E p s s0 (d o) k h⟩
  | update a part f k ih=>
    intro Q E p s s0 d k h;rw [Sem.wp] at h ⊢;exact ⟨h.1,ih () Q E p _ s0 d.2 (k.trans (KD.upd s.heap a d.1)) h.2⟩
  | alloc o k ih=>intro Q E p s s0 d k h;rw [Sem.wp] at h ⊢;exact ih _ Q E p _ s0 (d _) (k.trans (KD.push _ _)) h
  | loadIfAlive a k ih=>intro Q E p s s0 d k h;rw [Sem.wp] at h ⊢;exact ih _ Q E p _ s0 (d _) k h
  | point l k ih=>intro Q E p s s0 d k h;rw [Sem.wp] at h ⊢;exact ih _ Q E p _ s0 d k h
  | register a k ih=>intro Q E p s s0 d k h;rw [Sem.wp] at h;exact h.elim
  | fresh k ih=>intro Q E p s s0 d k h;rw [Sem.wp] at h ⊢;exact ih _ Q E p _ s0 (d _) k h
  | ask k ih=>intro Q E p s s0 d k h;rw [Sem.wp] at h ⊢;exact ih _ Q E p _ s0 (d _) k h
  | choose a n k ih=>intro Q E p s s0 d k h;rw [Sem.wp] at h ⊢;exact ⟨h.1,ih _ Q E p _ s0 (d _) k h.2⟩
  | os a n k ih=>intro Q E p s s0 d k h;rw [Sem.wp] at h ⊢;exact ih _ Q E p _ s0 (d _) k h
  | call c a b l k ih=>intro Q E p s s0 d k h;exact d.elim
  | handled a k ih=>intro Q E p s s0 d k h;rw [Sem.wp] at h ⊢;exact ih _ Q E p _ s0 (d _) k h
  | newGen c k ih=>intro Q E p s s0 d k h;rw [Sem.wp] at h ⊢;exact ih _ Q E p _ s0 (d _) k h
  | genState g k ih=>
    intro Q E p s s0 d k h;rw [Sem.wp] at h ⊢;obtain ⟨st,e,h⟩:=h;exact ⟨st,e,ih _ Q E p s s0 (d _) k h⟩
  | resume g r l k ih=>intro Q E p s s0 d k h;exact d.elim
  | yield v g l k ih=>intro Q E p s s0 d k h;rw [Sem.wp] at h;exact h.elim
  | stack k ih=>intro Q E p s s0 d k h;rw [Sem.wp] at h ⊢;exact ih _ Q E p _ s0 (d _) k h
  | fork c k ih=>intro Q E p s s0 d k h;rw [Sem.wp] at h;exact h.elim
  | thread k ih=>intro Q E p s s0 d k h;rw [Sem.wp] at h ⊢;exact ih _ Q E p _ s0 (d _) k h
  | await a t b l k ih=>intro Q E p s s0 d k h;rw [Sem.wp] at h;exact h.elim
theorem CH {α:Type} {M:Model} {A:Around} {t:Sem α} {Q:α->Shared->Prop} {E:Value->Shared->Prop} {s:Shared} (d:DK t) (h:wpAny M A t Q E s):wpAny M A t (λ a s'=>Q a s'/\KD s.heap s'.heap) (λ e s'=>E e s'/\KD s.heap s'.heap) s:=
  λ Γ p hΓ=>VX t _ _ p s s d (KD.refl _) (h Γ p hΓ)
theorem DK.bind {α β:Type} {f:α->Sem β}:∀ {t:Sem α},DK t->(∀ a,DK (f a))->DK (t >>= f):=by
  intro t;show _->_->DK (Sem.bind t f)
  induction t with
  | pure a=>intro _ h;exact h a
  | raise e=>intro _ _;trivial
  | unsupported w=>intro _ _;trivial
  | finish e=>intro _ _;trivial
  | rule t k ih=>intro d h;exact ih () d h
  | «at» t k ih=>intro d h;exact ih () d h
  | load a part k ih=>intro d h o;exact ih o (d o) h
  | update a part f k ih=>intro d h;exact ⟨d.1,ih () d.2 h⟩
  | alloc o k ih=>intro d h a;exact ih a (d a) h
  | loadIfAlive a k ih=>intro d h o;exact ih o (d o) h
  | point l k ih=>intro d h;exact ih () d h
  | register a k ih=>intro _ _;trivial
  | fresh k ih=>intro d h o;exact ih o (d o) h
  | ask k ih=>intro d h o;exact ih o (d o) h
  | choose a n k ih=>intro d h o;exact ih o (d o) h
  | os a n k ih=>intro d h o;exact ih o (d o) h
  | call c a b l k ih=>intro d h;exact d.elim
  | handled a k ih=>intro d h o;exact ih o (d o) h
  | newGen c k ih=>intro d h o;exact ih o (d o) h
  | genState g k ih=>intro d h o;exact ih o (d o) h
  | resume g r l k ih=>intro d h;exact d.elim
  | yield v g l k ih=>intro _ _;trivial
  | stack k ih=>intro d h o;exact ih o (d o) h
  | fork c k ih=>intro _ _;trivial
  | thread k ih=>intro d h o;exact ih o (d o) h
  | await a t b l k ih=>intro _ _;trivial
theorem AS {α:Type} (a:α):DK (pure a:Sem α):=trivial
theorem Cr {α:Type} (w:String):DK (unsupported w:Sem α):=trivial
theorem JB (a:Addr):DK (load a):=λ _=>trivial
theorem J3 (v:Value):DK (fieldsOf v):=by
  unfold fieldsOf;split
  · refine DK.bind (JB _) λ o=> ?_;split
    · exact AS _
    · exact Cr _
  · exact Cr _
theorem Fl (v:Value) (i:Nat):DK (field v i):=by
  unfold field;refine DK.bind (J3 v) λ vs=> ?_;split
  · exact AS _
  · exact Cr _
theorem Hl (f:Array Value->Array Value) (o:Obj):(Obj.mapFields f o).dict=o.dict:=by
  unfold Obj.mapFields;split <;> rfl
theorem IS (a:Addr) {f:Obj->Obj} (h:∀ o,(f o).dict=o.dict):DK (update a f):=⟨h,trivial⟩
theorem Dw (v:Value) (i:Nat) (x:Value):DK (setField v i x):=by
  unfold setField;split
  · unfold updateField;refine DK.bind (JB _) λ o=> ?_;split
    · split
      · exact IS _ (Hl _)
      · exact Cr _
    · exact Cr _
  · exact Cr _
theorem G7:DK (stack):=λ _=>trivial
theorem DM {α:Type} {c:Prop} [Decidable c] {x y:Sem α} (hx:DK x) (hy:DK y):DK (if c then x else y):=by
  split
  · exact hx
  · exact hy
theorem CS (e:Value) (f:Option Addr):DK (setFlight e f):=by
  unfold setFlight;refine DK.bind (Fl _ _) λ tb=> ?_;exact DM (Dw _ _ _) (AS _)
theorem Nx (env:Env) (outer:List Env):DK (behindIsImport env outer):=by
  unfold behindIsImport;refine DM (AS _) (DM (AS _) ?_);exact DK.bind (Fl _ _) λ _=>AS _
theorem Rr (env:Env) (i:Bool) (l:List Env):DK (keptBack env i l):=by
  unfold keptBack;split
  · refine DM (AS _) ?_;unfold underTheClaimsCaller;exact DK.bind (DK.bind G7 λ _=>AS _) λ _=>AS _
  · exact AS _
theorem KG:∀ l:List Env,DK (readyFrames l)
  | []=>trivial
  | env::outer=>by
    unfold readyFrames;split
    · refine DK.bind (JB _) λ o=> ?_;refine DM (AS _) ?_;refine DK.bind (Nx _ _) λ _=>DK.bind (Rr _ _ _) λ _=>DK.bind (IS _ λ _=>rfl) λ _=>KG outer
    · exact Cr _
theorem LZ (env:Env):DK (PySem.frameOf env):=by
  unfold PySem.frameOf;refine DK.bind ?_ λ _=>DK.bind ?_ λ o=> ?_
  · unfold frameEnvs;exact DK.bind G7 λ _=>AS _
  · unfold frameObject;split
    · exact AS _
    · exact DK.bind (KG _) λ _=>AS _
  · split
    · exact AS _
    · exact Cr _
theorem Jc (ty:String) (vs:List Value):DK (newFields ty vs):=by
  unfold newFields newObj;have hj:DK (newObjAsIs (.type ty) (.fields vs.toArray)):=by
    unfold newObjAsIs;exact λ _=>trivial
  exact DM (DK.bind (Cr _) λ _=>hj) hj
theorem OK (f:Addr) (b:Bool):DK (entryPlaceOf f b):=by
  unfold entryPlaceOf;refine DK.bind G7 λ _=> ?_;split
  · exact AS _
  · exact AS _
theorem MQ (e:Value) (env:Env):DK (noteFrame e env):=by
  unfold noteFrame;split
  · rename_i f _
    refine DK.bind (Fl _ _) λ head=> ?_;have hj:DK (do
        let fr <-PySem.frameOf env;let pl <-entryPlaceOf f (head != Value.none);let b <-EntryCells.newEntry head fr Value.none (rawInt f) Value.none pl
        setField e 1 b):=DK.bind (LZ env) λ _=>DK.bind (OK _ _) λ _=>DK.bind (Jc _ _) λ _=>Dw _ _ _
    refine DM (DK.bind (Fl _ _) λ _=>DM (AS _) (DK.bind (Dw _ _ _) λ _=>hj)) hj
  · exact Cr _
theorem EQ (env:Env) (e:Value):DK (leaving env e):=by
  unfold leaving;exact DK.bind (MQ _ _) λ _=>CS _ _
section
variable {M:Model} {A:Around} {E:Value->Shared->Prop} {s:Shared}
theorem Lv {base:Heap} {env:Env} {outer:List Env} {L e:Addr} {cls a0:Value} {Q:Unit->Shared->Prop} (hfr:A.frames=some (env::outer)) (hf:env.frame=some L) (hfl:Heap.FlyingW base (env::outer) e cls a0 s.heap)
    (hQ:∀ h',Heap.FlyingW base outer e cls a0 h'->s.heap.UpToSlots h'->KD s.heap h'->Q () { s with heap:=h' }):wpAny M A (leaving env (.ref e)) Q E s:=
  wpAny_mono (CH (EQ env (.ref e)) (wpAny_leaves_onW (Q:=λ _ s'=>∃ h',s'={ s with heap:=h' }/\Heap.FlyingW base outer e cls a0 h'/\s.heap.UpToSlots h') hfr hf hfl λ h' a b=>⟨h',rfl,a,b⟩))
    (λ _ _ ⟨⟨h',e,a,b⟩,k⟩=>by subst e;exact hQ h' a b k) λ _ _ z=>z.1
theorem Jb {base h:Heap} {env:Env} {outer:List Env} {L e:Addr} {cls:Value} {args:List Value} {Q:Unit->Shared->Prop}
    (hfr:A.frames=some (env::outer)) (hf:env.frame=some L) (hkb:base.StaysIn h) (hl:h.FunFrames base (env::outer)) (hx:Heap.MadeExcOf h s.heap e cls args)
    (hQ:∀ h' t,Heap.FlyingW base outer e cls (.ref t) h'->s.heap.UpToSlots h'->KD s.heap h'->Q () { s with heap:=h' }):wpAny M A (leaving env (.ref e)) Q E s:=
  wpAny_mono (CH (EQ env (.ref e)) (wpAny_leaves_madeW (Q:=λ _ s'=>∃ h' t,s'={ s with heap:=h' }/\Heap.FlyingW base outer e cls (.ref t) h'/\s.heap.UpToSlots h') hfr hf hkb hl hx λ h' t a _ _ b=>⟨h',t,rfl,a,b⟩))
    (λ _ _ ⟨⟨h',t,e,a,b⟩,k⟩=>by subst e;exact hQ h' t a b k) λ _ _ z=>z.1
theorem MZ {base:Heap} {env:Env} {outer:List Env} {L e:Addr} {cls a0:Value} {Q:Unit->Shared->Prop} (hfr:A.frames=some (env::outer)) (hf:env.frame=some L) (hfl:Heap.FlyingW base (env::outer) e cls a0 s.heap)
    (hQ:∀ h',Heap.HeldW base (env::outer) e cls a0 L h'->s.heap.UpToSlots h'->KD s.heap h'->Q () { s with heap:=h' }):wpAny M A (noteFrame (.ref e) env) Q E s:=
  wpAny_mono (CH (MQ (.ref e) env) (wpAny_looks_onW (Q:=λ _ s'=>∃ h',s'={ s with heap:=h' }/\Heap.HeldW base (env::outer) e cls a0 L h'/\s.heap.UpToSlots h') hfr hf hfl λ h' a b=>⟨h',rfl,a,b⟩))
    (λ _ _ ⟨⟨h',e,a,b⟩,k⟩=>by subst e;exact hQ h' a b k) λ _ _ z=>z.1
theorem TQ {base:Heap} {l:List Env} {e L:Addr} {cls a0:Value} {Q:Unit->Shared->Prop} (hh:Heap.HeldW base l e cls a0 L s.heap)
    (hQ:∀ h',Heap.FlyingW base l e cls a0 h'->s.heap.UpToSlots h'->KD s.heap h'->Q () { s with heap:=h' }):wpAny M A (setFlight (.ref e) none) Q E s:=
  wpAny_mono (CH (CS (.ref e) none) (wpAny_landsW (Q:=λ _ s'=>∃ h',s'={ s with heap:=h' }/\Heap.FlyingW base l e cls a0 h'/\s.heap.UpToSlots h') hh λ h' a b=>⟨h',rfl,a,b⟩))
    (λ _ _ ⟨⟨h',e,a,b⟩,k⟩=>by subst e;exact hQ h' a b k) λ _ _ z=>z.1
theorem Qz {base:Heap} {l:List Env} {e:Addr} {cls a0 fl:Value} {Q:Unit->Shared->Prop} (hkb:base.StaysIn s.heap) (hl:s.heap.FunFrames base l) (ht:s.heap.TracedAtW base e cls a0 fl)
    (h:∀ h',base.StaysIn h'->h'.FunFrames base l->h'.TracedW base e cls a0->(∀ b o,s.heap.get? b=some o->(∀ vs,o.data≠ .fields vs)->h'.get? b=some o)->KD s.heap h'->Q () { s with heap:=h' }):
    wpAny M A (setFlight (.ref e) none) Q E s:=
  wpAny_mono (CH (CS (.ref e) none) (wpAny_setFlight_noneW (Q:=λ _ s'=>∃ h',s'={ s with heap:=h' }/\base.StaysIn h'/\h'.FunFrames base l/\h'.TracedW base e cls a0/\∀ b o,s.heap.get? b=some o->(∀ vs,o.data≠ .fields vs)->h'.get? b=some o) hkb hl ht λ h' a b c d=>⟨h',rfl,a,b,c,d⟩))
    (λ _ _ ⟨⟨h',e,a,b,c,d⟩,k⟩=>by subst e;exact h h' a b c d k) λ _ _ z=>z.1
def DictIs (h:Heap) (a:Addr) (od:Option Addr):Prop:=∃ o,h.get? a=some o/\o.dict=od
theorem DictIs.on {h h':Heap} {a:Addr} {od:Option Addr} (x:DictIs h a od) (k:KD h h') (t:∃ o,h'.get? a=some o):DictIs h' a od:=by
  obtain ⟨o,e,d⟩:=x;obtain ⟨o',e'⟩:=t;exact ⟨o',e',(k.at' e e').trans d⟩
end
theorem HOk.on {P:Program} {w:World} {H:Hp} {h h':Heap} (x:HOk P w H h) (k:∀ b u,H b≠none->h.get? b=some u->h'.get? b=some u):HOk P w H h':=λ a o e=>
  (x a o e).stay (λ b u hb q=>k b u (by
    rcases hb with rfl | hb
    · rw [e];exact λ z=>by cases z
    · rw [hb];exact λ z=>by cases z) q) (λ _ q=>q) λ _ _ q=>q
theorem Ht {P:Program} {w:World} {H:Hp} {h:Heap} {a:Addr} {o:HO} (x:ObjOk P w H h a o):∃ u,h.get? a=some u:=by
  cases o with
  | lst xs=>obtain ⟨_,_,_,_,e⟩:=x;exact ⟨_,e⟩
  | tup xs=>obtain ⟨_,_,_,o,e,_⟩:=x;exact ⟨_,e⟩
  | dK kvs=>obtain ⟨_,_,_,_,o,_,_,e,_⟩:=x;exact ⟨_,e⟩
  | dT kvs=>obtain ⟨_,_,_,_,o,_,_,e,_⟩:=x;exact ⟨_,e⟩
  | set S n=>obtain ⟨o,_,_,_,e,_⟩:=x;exact ⟨_,e⟩
  | ins C dx fs=>obtain ⟨_,_,_,e,_⟩:=x;exact ⟨_,e⟩
  | own y=>exact x
  | xd fs=>obtain ⟨_,⟨_,_,_,e,_⟩,_⟩:=x;exact ⟨_,e⟩
  | rng lo hi=>obtain ⟨_,_,_,e⟩:=x;exact ⟨_,e⟩
  | frz ob u=>obtain ⟨e,_⟩:=x;exact ⟨_,e⟩
  | tbl ps=>exact ⟨_,(show h.get? a=some _ from x)⟩
  | met f y=>exact ⟨_,(show h.get? a=some _ from x)⟩
  | ext φ=>obtain ⟨_,e,_⟩:=x;exact e
def Ym (outer:List Env) (s:Shared) (H':Hp) (a C t:Addr) (s':Shared):Prop:=
  ∃ B:Heap,B.FlyingW outer a (.ref C) (.ref t) s'.heap/\∀ b,(H' b≠none\/∃ o,s.heap.get? b=some o)->b∉frs outer->∀ o,s'.heap.get? b=some o->B.get? b=some o
def CXE (P:Program) (w:World):CXT:=λ outer H s E e s'=>
  ∃ a C t od H',e= .ref a/\s'.os=s.os/\AllBare s'.gens/\Un (frs outer) [] H H' s.heap s'.heap/\HOk P w H' s'.heap/\Ym outer s H' a C t s'/\DictIs s'.heap a od/\E (.ref C) od H'
theorem DO {env:Env} {L:Addr} {outer:List Env} (h:env.frame=some L):frs (env::outer)=L::frs outer:=by
  unfold frs;rw [List.filterMap_cons,h]
theorem A2 {h base:Heap}:∀ {l:List Env} {b:Addr},h.FunFrames base l->b∈frs l->base.get? b=none/\∃ o,h.get? b=some o/\∀ vs,o.data≠ .fields vs
  | [],b,_,hb=>by cases hb
  | env::l,b,⟨_,⟨L,o,e1,e2,e3,e4⟩,r⟩,hb=>by
    rw [DO e1] at hb;rcases List.mem_cons.mp hb with rfl | hb
    · exact ⟨e2,o,e3,e4⟩
    · exact A2 r hb
theorem Nc {P:Program} {w:World} {K:PySem.W.Frag} {mg:Str->Option Value} {base:Heap} {N:List Str} {qual:Str} {scope:Scope} {f:Addr} {cd:Value} {A:Around} {outer:List Env} {s₀:Shared} {H₀:Hp} {E E':XK}
    (hE:∀ c o H,E c o H->E' c o H):BL (CXE P w) (Bw (CXE P w) P w K mg base N qual scope f cd A outer s₀ H₀ E') E:=by
  intro pins σ H s e s' I h;obtain ⟨a,C,t,od,H',rfl,os,bare,un,hok,⟨B,fl,cov⟩,di,q⟩:=h;have hfr:(envOfC qual scope s₀.heap.objs.size f cd).frame=some s₀.heap.objs.size:=rfl;have hfs:frs (envOfC qual scope s₀.heap.objs.size f cd::outer)=s₀.heap.objs.size::frs outer:=DO hfr;refine Lv I.ok.frames hfr fl λ h' fl' ups kd=> ?_;have ib:Un (frs outer) [] H₀ H s₀.heap s.heap:=I.base;have nl:∀ b o,s₀.heap.get? b=some o->b≠s₀.heap.objs.size:=λ b o e=>Nat.ne_of_lt (Heap.lt_size e);have toB:∀ b,(H' b≠none\/∃ o,s.heap.get? b=some o)->b∉frs (envOfC qual scope s₀.heap.objs.size f cd::outer)->∀ o,s'.heap.get? b=some o->h'.get? b=some o:=λ b hb hn o e=>fl'.1 b o (cov b hb hn o e);have untr:∀ b,b∈frs (envOfC qual scope s₀.heap.objs.size f cd::outer)->H' b=none:=λ b hb=>by
    obtain ⟨_,o,e,_⟩:=A2 I.stack hb;exact un.free b o e (I.stkFree b hb) (by simp)
  have hok':HOk P w H' h':=hok.on λ b u hb e=>by
    refine toB b (.inl hb) (λ z=>hb (untr b z)) u e
  refine ⟨a,C,t,od,H',rfl,os.trans I.os,bare,?_,hok',⟨B,fl',λ b hb hn o e=> ?_⟩,di.on kd (let ⟨o,e,_⟩:=fl'.there;⟨o,e⟩),hE _ _ _ q⟩
  · have notin:∀ b o,s₀.heap.get? b=some o->b∉frs outer->b∉frs (envOfC qual scope s₀.heap.objs.size f cd::outer):=λ b o e hn z=>by
      rw [hfs] at z;rcases List.mem_cons.mp z with z | z
      · exact nl b o e z
      · exact hn z
    have isin:∀ b,b∈frs outer->b∈frs (envOfC qual scope s₀.heap.objs.size f cd::outer):=λ b hb=>by rw [hfs];exact List.mem_cons_of_mem _ hb
    refine ⟨λ b o e hH hn _=> ?_,λ b o e hH hb _=> ?_,λ b o e hH _=> ?_,λ b o e _=> ?_,λ b xs e=>un.tups b xs (ib.tups b xs e),λ b o u e=>un.frzs b o u (ib.frzs b o u e),λ b ps e=> ?_⟩
    · have e1:=ib.keep b o e hH hn (by simp);exact toB b (.inr ⟨o,e1⟩) (notin b o e hn) o (un.keep b o e1 (ib.free b o e hH (by simp)) (notin b o e hn) (by simp))
    · obtain ⟨sl,e1⟩:=ib.slot b o e hH hb (by simp);obtain ⟨sl2,e2⟩:=un.slot b _ e1 (ib.free b o e hH (by simp)) (isin b hb) (by simp);obtain ⟨_,o',e',nf⟩:=A2 fl.2.2.1 (isin b hb);rw [e2] at e';cases e';obtain ⟨sl3,e3⟩:=ups b _ e2 nf;exact ⟨sl3,e3⟩
    · obtain ⟨o1,e1⟩:=ib.there b o e (by simp);exact un.free b o1 e1 (ib.free b o e hH (by simp)) (by simp)
    · obtain ⟨o1,e1⟩:=ib.there b o e (by simp);obtain ⟨o2,e2⟩:=un.there b o1 e1 (by simp);by_cases hb:b∈frs outer
      · obtain ⟨_,o',e',nf⟩:=A2 fl.2.2.1 (isin b hb);obtain ⟨sl3,e3⟩:=ups b _ e' nf;exact ⟨_,e3⟩
      · exact ⟨o2,toB b (.inr ⟨o1,e1⟩) (notin b o e hb) o2 e2⟩
    · obtain ⟨m1,e1⟩:=ib.tbls b ps e;obtain ⟨m2,e2⟩:=un.tbls b _ e1;exact ⟨m1++m2,by rw [e2,Array.append_assoc]⟩
  · have hn2:b∉frs (envOfC qual scope s₀.heap.objs.size f cd::outer):=λ z=>by
      have z0:=z;rw [hfs] at z;rcases List.mem_cons.mp z with z | z
      · rcases hb with hb | ⟨o1,e1⟩
        · exact hb (untr b z0)
        · exact nl b o1 e1 z
      · exact hn z
    obtain ⟨o2,e2,hb2⟩:∃ o2,s'.heap.get? b=some o2/\(H' b≠none\/∃ o,s.heap.get? b=some o):=by
      rcases hb with hb | ⟨o1,e1⟩
      · cases hx:H' b with
        | none=>exact absurd hx hb
        | some u=>
          obtain ⟨o2,e2⟩:=Ht (hok b u hx);exact ⟨o2,e2, .inl (λ z=>by cases z)⟩
      · obtain ⟨o3,e3⟩:=ib.there b o1 e1 (by simp);obtain ⟨o2,e2⟩:=un.there b o3 e3 (by simp);exact ⟨o2,e2, .inr ⟨o3,e3⟩⟩
    have e3:=cov b hb2 hn2 o2 e2;have e4:=fl'.1 b o2 e3;rw [show h'.get? b=some o from e] at e4;cases e4;exact e3
end L2
namespace MSort
open PySem.W PyProof.Rows
def KP (lt:Nat->Nat->Bool) (n:Nat) {α:Type}:KasT α->(α->Prop)->Prop
  | .ret a,Q=>Q a
  | .ask i j k,Q=>i<n/\j<n/\KP lt n (k (lt i j)) Q
theorem MF {lt:Nat->Nat->Bool} {n:Nat} {α β:Type} {f:α->KasT β} {Q:β->Prop}:∀ (t:KasT α),KP lt n t (λ a=>KP lt n (f a) Q)->KP lt n (t.bind f) Q
  | .ret _,h=>h
  | .ask i j k,h=>⟨h.1,h.2.1,MF (k (lt i j)) h.2.2⟩
theorem Ms {lt:Nat->Nat->Bool} {n:Nat} {α:Type} {Q Q':α->Prop} (hq:∀ a,Q a->Q' a):∀ (t:KasT α),KP lt n t Q->KP lt n t Q'
  | .ret a,h=>hq a h
  | .ask i j k,h=>⟨h.1,h.2.1,Ms hq (k (lt i j)) h.2.2⟩
structure Ok (n:Nat) (p:Array Nat):Prop where
  size:p.size=n
  perm:p.toList.Perm (List.range n)
theorem Ok.lt {n:Nat} {p:Array Nat} (h:Ok n p) {i:Nat} (hi:i<n):p.getD i 0<n:=by
  have hi':i<p.size:=by rw [h.size];exact hi
  have e:p.getD i 0=p[i]:=by simp [Array.getD,hi']
  rw [e];have:=h.perm.mem_iff.mp (Array.mem_toList_iff.mpr (Array.getElem_mem hi'));exact List.mem_range.mp this
theorem Ok.inj {n:Nat} {p:Array Nat} (h:Ok n p) {i j:Nat} (hi:i<n) (hj:j<n) (e:p.getD i 0=p.getD j 0):i=j:=by
  have hi':i<p.size:=by rw [h.size];exact hi
  have hj':j<p.size:=by rw [h.size];exact hj
  have e1:p.getD i 0=p.toList[i]'(by simpa using hi'):=by simp [Array.getD,hi']
  have e2:p.getD j 0=p.toList[j]'(by simpa using hj'):=by simp [Array.getD,hj']
  rw [e1,e2] at e;have nd:p.toList.Nodup:=h.perm.symm.nodup List.nodup_range;exact (List.getElem_inj nd).mp e
theorem Ok.to {n:Nat} {p q:Array Nat} (h:Ok n p) (hq:q.Perm p):Ok n q:=
  ⟨hq.size_eq.trans h.size,(Array.perm_iff_toList_perm.mp hq).trans h.perm⟩
variable {r:Nat->Nat} {n:Nat} {p:Array Nat}
def K (r:Nat->Nat) (p:Array Nat) (i:Nat):Nat:=r (p.getD i 0)
def Inj (r:Nat->Nat) (n:Nat):Prop:=∀ i j,i<n->j<n->r i=r j->i=j
def L (r:Nat->Nat):Nat->Nat->Bool:=λ i j=>decide (r i<r j)
def Up (r:Nat->Nat) (p:Array Nat) (k:Nat):Prop:=∀ i j,i<j->j<k->K r p i<K r p j
theorem ZQ (hr:Inj r n) (o:Ok n p) {i j:Nat} (hi:i<n) (hj:j<n) (hij:i≠j):K r p i≠K r p j:=
  λ e=>hij (o.inj hi hj (hr _ _ (o.lt hi) (o.lt hj) e))
theorem JO {p q:Array Nat} {i j:Nat} (h:p[i]?=q[j]?):p.getD i 0=q.getD j 0:=by
  have e:∀ (a:Array Nat) k,a.getD k 0=(a[k]?).getD 0:=λ a k=>by simp
  rw [e,e,h]
theorem KO {src d:Nat} (hs:src<p.size) (hd:d<=src) (k:Nat):K r (bubble p src d) k=if k=src - d then K r p src else if src - d<k/\k<=src then K r p (k - 1) else K r p k:=by
  have e:=getElem?_bubble hs d hd k;unfold K;by_cases h1:k=src - d
  · rw [if_pos h1] at e ⊢;rw [JO e]
  · rw [if_neg h1] at e ⊢;by_cases h2:src - d<k/\k<=src
    · rw [if_pos h2] at e ⊢;rw [JO e]
    · rw [if_neg h2] at e ⊢;rw [JO e]
theorem place (hr:Inj r n) (o:Ok n p) {k:Nat} (hk:k<n):∀ (f l h:Nat),h - l<=f->l<=h->h<=k->(∀ i,i<l->K r p i<K r p k)->(∀ i,h<=i->i<k->K r p k<K r p i)->Up r p k->
    KP (L r) n (kas_place p k f l h) (λ x=>x<=k/\(∀ i,i<x->K r p i<K r p k)/\(∀ i,x<=i->i<k->K r p k<K r p i))
  | 0,l,h,e,a,b,c,d,u=>⟨by omega,c,λ i h1 h2=>d i (by omega) h2⟩
  | f+1,l,h,e,a,b,c,d,u=>by
    show KP (L r) n (if l>=h then _ else _) _;by_cases g:l>=h
    · rw [if_pos g];exact ⟨by omega,c,λ i h1 h2=>d i (by omega) h2⟩
    · rw [if_neg g];have hmk:(l+h) / 2<k:=by omega
      refine ⟨o.lt hk,o.lt (by omega),?_⟩;show KP (L r) n (if L r (p.getD k 0) (p.getD ((l+h) / 2) 0)=true then _ else _) _;by_cases z:K r p k<K r p ((l+h) / 2)
      · rw [if_pos (show L r (p.getD k 0) (p.getD ((l+h) / 2) 0)=true from decide_eq_true z)];refine place hr o hk f l _ (by omega) (by omega) (by omega) c (λ i h1 h2=> ?_) u;by_cases e':i=(l+h) / 2
        · rw [e'];exact z
        · have:=u _ i (show (l+h) / 2<i by omega) h2;omega
      · rw [if_neg (show ¬ L r (p.getD k 0) (p.getD ((l+h) / 2) 0)=true from λ y=>z (of_decide_eq_true y))];have ne:=ZQ hr o hk (show (l+h) / 2<n by omega) (by omega);refine place hr o hk f _ h (by omega) (by omega) (by omega) (λ i h1=> ?_) d u;by_cases e':i=(l+h) / 2
        · rw [e'];omega
        · have:=u i _ (show i<(l+h) / 2 by omega) hmk;omega
theorem bin (hr:Inj r n):∀ (f k:Nat) (p:Array Nat),Ok n p->k+f=n->Up r p k->KP (L r) n (kas_bin f p k) (λ x=>Ok n x/\Up r x n)
  | 0,k,p,o,e,u=>⟨o,(show k=n by omega)▸u⟩
  | f+1,k,p,o,e,u=>by
    refine MF _ (Ms (λ l h=> ?_) _ (place hr o (k:=k) (by omega) k 0 k (by omega) (by omega) (Nat.le_refl _) (λ i h=>by omega) (λ i h1 h2=>by omega) u));obtain ⟨h1,h2,h3⟩:=h;have hs:k<p.size:=by rw [o.size];omega
    refine bin hr f (k+1) _ (o.to (bubble_perm _ _ _)) (by omega) ?_;intro i j hij hj;rw [KO hs (by omega),KO hs (by omega),show k - (k - l)=l by omega];by_cases a:i=l
    · rw [if_pos a,if_neg (by omega),if_pos (by omega)];exact h3 _ (by omega) (by omega)
    · rw [if_neg a];by_cases b:j=l
      · rw [if_pos b,if_neg (by omega)];exact h2 _ (by omega)
      · rw [if_neg b];by_cases c:l<i/\i<=k
        · rw [if_pos c,if_pos (by omega)];exact u _ _ (by omega) (by omega)
        · rw [if_neg c];by_cases d:l<j/\j<=k
          · rw [if_pos d];by_cases e:i<j - 1
            · exact u _ _ e (by omega)
            · omega
          · rw [if_neg d];exact u _ _ hij (by omega)
end MSort
namespace HT
open PySem PySem.Spec PyProof.Rows PySem.W
variable {prog:Program} {w:World} {A:Around} {E:Value->Shared->Prop} {s:Shared}
def RawD (d:Addr) (es:Array DictEntry) (ep:Nat) (h:Heap):Prop:=∃ o,h.get? d=some o/\o.ExactDict/\o.data= .dict es ep
theorem RawD.type {d:Addr} {es:Array DictEntry} {ep:Nat} (x:RawD d es ep s.heap):s.TypeIs (.ref d) "dict":=⟨_,x.choose_spec.1,x.choose_spec.2.1.1⟩
theorem RawD.to {d:Addr} {es:Array DictEntry} {ep:Nat} {h h':Heap} (x:RawD d es ep h) (k:∀ o,h.get? d=some o->h'.get? d=some o):RawD d es ep h':=⟨_,k _ x.choose_spec.1,x.choose_spec.2⟩
end HT
namespace HT
open PySem PySem.Spec PyProof.Rows PySem.W
variable {prog:Program} {w:World} {A:Around} {E:Value->Shared->Prop} {s:Shared}
def lexB (x:Str) (i:Int) (y:Str) (j:Int):Bool:=if x=y then decide (i<j) else decide (x.cps.toList<y.cps.toList)
end HT
namespace L2
open PySem PySem.Spec PyProof.Rows PySem.W
structure LexOk (rk:List Key->Nat) (ks:List (List Key)):Prop where
  shp:∀ k∈ks,∃ (x:Str) (i:Int),k=[.inr x, .inl i]
  inj:∀ k∈ks,∀ k'∈ks,rk k=rk k'->k=k'
  ord:∀ (x:Str) (i:Int) (y:Str) (j:Int),([.inr x, .inl i]:List Key)∈ks->([.inr y, .inl j]:List Key)∈ks->HT.lexB x i y j=decide (rk [.inr x, .inl i]<rk [.inr y, .inl j])
end L2
namespace L2
open PySem PySem.Spec PyProof.Rows
theorem FS {h base B:Heap}:∀ {l:List Env},h.FunFrames base l->(∀ b∈frs l,B.get? b=none)->h.FunFrames B l
  | [],_,_=>trivial
  | env::l,⟨k,⟨L,o,e1,e2,e3,e4⟩,r⟩,hb=>by
    rw [DO e1] at hb;exact ⟨k,⟨L,o,e1,hb L (List.mem_cons_self ..),e3,e4⟩,FS r λ b h'=>hb b (List.mem_cons_of_mem _ h')⟩
section
variable {P:Program} {w:World} {K:PySem.W.Frag} {mg:Str->Option Value} {base:Heap} {N:List Str} {qual:Str} {scope:Scope} {f:Addr} {cd:Value} {A:Around} {outer:List Env} {s₀:Shared} {H₀:Hp} {E:XK}
theorem PD {pins:List (Addr × Obj)} {σ:St} {H:Hp} {s:Shared} {e C:Addr} {vs:List Value} {h':Heap} (I:Inv (Bw (CXE P w) P w K mg base N qual scope f cd A outer s₀ H₀ E) pins σ H s) (mk:Heap.MadeExcOf s.heap h' e (.ref C) vs) (q:E (.ref C) none H):
    (Bw (CXE P w) P w K mg base N qual scope f cd A outer s₀ H₀ E).xe (.ref e) { s with heap:=h' }:=by
  have hfr:(envOfC qual scope s₀.heap.objs.size f cd).frame=some s₀.heap.objs.size:=rfl;have hfs:frs (envOfC qual scope s₀.heap.objs.size f cd::outer)=s₀.heap.objs.size::frs outer:=DO hfr;refine Jb (base:=PySem.W.hideAll s.heap (frs (envOfC qual scope s₀.heap.objs.size f cd::outer))) (h:=s.heap) I.ok.frames hfr (λ b o e=>PySem.W.of_hideAll _ e) (FS I.stack λ b hb=>PySem.W.hideAll_none _ hb) mk λ h2 t fl ups kd=> ?_;have ib:Un (frs outer) [] H₀ H s₀.heap s.heap:=I.base;have nl:∀ b o,s₀.heap.get? b=some o->b≠s₀.heap.objs.size:=λ b o e=>Nat.ne_of_lt (Heap.lt_size e);have inB:∀ b o,s.heap.get? b=some o->b∉frs (envOfC qual scope s₀.heap.objs.size f cd::outer)->h2.get? b=some o:=λ b o e hn=>fl.1 b o (PySem.W.hideAll_get _ e hn);have notin:∀ b o,s₀.heap.get? b=some o->b∉frs outer->b∉frs (envOfC qual scope s₀.heap.objs.size f cd::outer):=λ b o e hn z=>by
    rw [hfs] at z;rcases List.mem_cons.mp z with z | z
    · exact nl b o e z
    · exact hn z
  have isin:∀ b,b∈frs outer->b∈frs (envOfC qual scope s₀.heap.objs.size f cd::outer):=λ b hb=>by rw [hfs];exact List.mem_cons_of_mem _ hb
  refine ⟨e,C,t,none,H,rfl,I.os,I.bare,?_,I.hok.on λ b u hb e=>inB b u e (λ z=>hb (I.stkFree b z)),⟨_,fl,λ b hb hn o e=> ?_⟩,DictIs.on (let ⟨_,e,_⟩:=mk.there;⟨_,e,rfl⟩) kd (let ⟨o,e,_⟩:=fl.there;⟨o,e⟩),q⟩
  · refine ⟨λ b o e hH hn _=> ?_,λ b o e hH hb _=> ?_,λ b o e hH _=>ib.free b o e hH (by simp),λ b o e _=> ?_,λ b xs e=>ib.tups b xs e,λ b o u e=>ib.frzs b o u e,λ b ps e=>ib.tbls b ps e⟩
    · exact inB b o (ib.keep b o e hH hn (by simp)) (notin b o e hn)
    · obtain ⟨sl,e1⟩:=ib.slot b o e hH hb (by simp);obtain ⟨_,o',e',nf⟩:=A2 I.stack (isin b hb);rw [e1] at e';cases e';obtain ⟨sl3,e3⟩:=ups b _ (mk.keeps b _ e1) nf;exact ⟨sl3,e3⟩
    · obtain ⟨o1,e1⟩:=ib.there b o e (by simp);by_cases hb:b∈frs outer
      · obtain ⟨_,o',e',nf⟩:=A2 I.stack (isin b hb);obtain ⟨sl3,e3⟩:=ups b _ (mk.keeps b _ e') nf;exact ⟨_,e3⟩
      · exact ⟨o1,inB b o1 e1 (notin b o e hb)⟩
  · have hn2:b∉frs (envOfC qual scope s₀.heap.objs.size f cd::outer):=λ z=>by
      rcases hb with hb | ⟨o1,e1⟩
      · exact hb (I.stkFree b z)
      · exact notin b o1 e1 hn z
    obtain ⟨o2,e2⟩:∃ o2,s.heap.get? b=some o2:=by
      rcases hb with hb | ⟨o1,e1⟩
      · cases hx:H b with
        | none=>exact absurd hx hb
        | some u=>exact Ht (I.hok b u hx)
      · exact ib.there b o1 e1 (by simp)
    have e3:=inB b o2 e2 hn2;have e:h2.get? b=some o:=e;rw [e] at e3;cases e3;exact PySem.W.hideAll_get _ e2 hn2
def OJ (E:XK) (C:Addr) (ta:TA):TS:=λ _ σ H=>ta σ H λ vs H1=>vs.length<=1000/\E (.ref C) none H1
theorem PN {x:Str} {C:Addr} {B newId initId:String} {bm:List Value} {e₀:Expr} {rest:List Expr} {np cpos pos:Pos} {ta:TA} (O:OwnCls x C bm newId mg base) (FB:ExcBaseFacts B newId initId bm)
    (ha:PA (Bw (CXE P w) P w K mg base N qual scope f cd A outer s₀ H₀ E) (e₀::rest) ta)
    (he:starEach (e₀::rest) (envOfC qual scope s₀.heap.objs.size f cd)=(false,eval e₀ (envOfC qual scope s₀.heap.objs.size f cd))::starEach rest (envOfC qual scope s₀.heap.objs.size f cd):=by rfl)
    (hplain:(backTo cpos (starEach rest (envOfC qual scope s₀.heap.objs.size f cd))).any (·.1)=false:=by rfl)
    (hg:Gl (Bw (CXE P w) P w K mg base N qual scope f cd A outer s₀ H₀ E) x:=by rfl) (hd:(x == ("__debug__":Str))=false:=by decide):
    PS (Bw (CXE P w) P w K mg base N qual scope f cd A outer s₀ H₀ E) (.Raise (some (.Call (.Name x np) (e₀::rest) [] cpos)) none pos) (OJ E C ta):=by
  intro pins s σ H D I h;obtain ⟨tl,Nn,nm,q,bs,hdct,sn,sub,ab,col,dd,k0,k1,k2,k3,k5,mN,hC,hN,hni,T⟩:=O.obj;have hw:=ha cpos pins s σ H _ I h;refine wpAny_Raise_call_subT (C:=C) (nm:=nm) (q:=q) (N:=Nn) (bs:=bs) (bm:=tl) (hdct:=hdct) (sn:=sn) (sub:=sub) (ab:=ab) (col:=col) (dd:=dd) (k0:=k0) (k1:=k1) (k2:=k2) (k3:=k3) (k5:=k5)
    FB (mN:=mN) (T.hasType FB.hasBase) (I.ok.hd rfl) (by
      show (backTo cpos (starEach (e₀::rest) (envOfC qual scope s₀.heap.objs.size f cd))).any (·.1)=false;rw [he];show (false||(backTo cpos (starEach rest (envOfC qual scope s₀.heap.objs.size f cd))).any (·.1))=false;rw [hplain];rfl) hni (CQ I hg O.bound ⟨rfl,?_⟩ hd)
  have he':starEach (e₀::rest) (Bw (CXE P w) P w K mg base N qual scope f cd A outer s₀ H₀ E).env=(false,eval e₀ (envOfC qual scope s₀.heap.objs.size f cd))::starEach rest (envOfC qual scope s₀.heap.objs.size f cd):=he;rw [he'] at hw ⊢;refine Calls.evalArgs_plain (thn hw λ us s2 ⟨vs,H1,I1,r,hl,hq⟩=> ?_);have bk:∀ b o,base.get? b=some o->s2.heap.get? b=some o:=I1.bk;refine ⟨rfl,?_,bk _ _ hC,hN.keeps bk,T.keeps bk,λ h' e mk=>PD I1 mk hq⟩;rw [<-r.length];exact Nat.le_trans hl (by decide)
end
theorem Hs {h h1 h2:Heap} (a:h.UpToSlots h1) (b:h1.UpToSlots h2):h.UpToSlots h2:=λ c o e nf=>by
  obtain ⟨sl,e1⟩:=a c o e nf;obtain ⟨sl2,e2⟩:=b c _ e1 nf;exact ⟨sl2,e2⟩
theorem Pj {P:Program} {w:World} {l:List Env} {s s₁:Shared} {H H':Hp} {a C t:Addr} {B h3:Heap} (un:Un (frs l) [] H H' s.heap s₁.heap) (hok:HOk P w H' s₁.heap) (fl:B.FlyingW l a (.ref C) (.ref t) s₁.heap)
    (cov:∀ b,(H' b≠none\/∃ o,s.heap.get? b=some o)->b∉frs l->∀ o,s₁.heap.get? b=some o->B.get? b=some o) (untr:∀ b∈frs l,H' b=none) (fl3:B.FlyingW l a (.ref C) (.ref t) h3) (ups:s₁.heap.UpToSlots h3):
    Un (frs l) [] H H' s.heap h3/\HOk P w H' h3:=by
  have inB:∀ b,(H' b≠none\/∃ o,s.heap.get? b=some o)->b∉frs l->∀ o,s₁.heap.get? b=some o->h3.get? b=some o:=λ b hb hn o e=>fl3.1 b o (cov b hb hn o e);refine ⟨⟨λ b o e hH hn hx=>inB b (.inr ⟨o,e⟩) hn o (un.keep b o e hH hn hx),λ b o e hH hb hx=> ?_,un.free,λ b o e hx=> ?_,un.tups,un.frzs,un.tbls⟩,hok.on λ b u hb e=>inB b (.inl hb) (λ z=>hb (untr b z)) u e⟩
  · obtain ⟨sl,e1⟩:=un.slot b o e hH hb hx;obtain ⟨_,o',e',nf⟩:=A2 fl.2.2.1 hb;rw [e1] at e';cases e';obtain ⟨sl3,e3⟩:=ups b _ e1 nf;exact ⟨sl3,e3⟩
  · obtain ⟨o1,e1⟩:=un.there b o e hx;by_cases hb:b∈frs l
    · obtain ⟨_,o',e',nf⟩:=A2 fl.2.2.1 hb;obtain ⟨sl,e2⟩:=ups b _ e' nf;exact ⟨_,e2⟩
    · exact ⟨o1,inB b (.inr ⟨o,e⟩) hb o1 e1⟩
def EB (a C:Addr) (od:Option Addr):HO:= .ext λ h=>∃ o,h.get? a=some o/\o.cls= .ref C/\o.dict=od/\∃ vs,o.data= .fields vs
theorem TX {P:Program} {w:World} {H:Hp} {h:Heap} {a C:Addr} {o:Obj} {vs:Array Value} (e:h.get? a=some o) (c:o.cls= .ref C) (d:o.data= .fields vs):ObjOk P w H h a (EB a C o.dict):=
  ⟨⟨o,e,c,rfl,vs,d⟩,⟨o,e⟩,λ _ _ ⟨o,e,c⟩ k=>⟨o,k o e,c⟩⟩
theorem OL {P:Program} {w:World} {H:Hp} {h:Heap} {a:Addr} {u:HO} (hok:HOk P w H h) (n:H a=none) (new:ObjOk P w (upd H a u) h a u):HOk P w (upd H a u) h:=λ b o e=>by
  by_cases z:b=a
  · subst z;rw [Ad] at e;cases e;exact new
  · rw [Am z] at e;have ne:∀ c v,H c=some v->c≠a:=λ c v q z=>by rw [z,n] at q;cases q
    exact (hok b o e).stay (λ c v _ q=>q) (λ c q=>(Am (ne c _ q)).trans q) λ c xs q=>(Am (ne c _ q)).trans q
theorem OC {fs ex:List Addr} {H H':Hp} {h h':Heap} {a:Addr} {u:HO} (un:Un fs ex H H' h h') (n:H' a=none) (na:h.get? a=none):Un fs ex H (upd H' a u) h h':=by
  have ne:∀ c v,H' c=some v->c≠a:=λ c v q z=>by rw [z,n] at q;cases q
  refine ⟨un.keep,un.slot,λ b o e hH hx=> ?_,un.there,λ b xs e=> ?_,λ b o v e=> ?_,λ b ps e=> ?_⟩
  · have z:b≠a:=λ z=>by rw [z,na] at e;cases e
    rw [Am z];exact un.free b o e hH hx
  · have:=un.tups b xs e;exact (Am (ne _ _ this)).trans this
  · have:=un.frzs b o v e;exact (Am (ne _ _ this)).trans this
  · obtain ⟨m,this⟩:=un.tbls b ps e;exact ⟨m,(Am (ne _ _ this)).trans this⟩
section
variable {X:Cx} {pins:List (Addr × Obj)} {σ:St} {H:Hp} {s s₁:Shared} {E:XK} {e:Value}
theorem Z3 {E1 E2:Value->Shared->Prop} {R:Shared->Prop} (I:Inv X pins σ H s) (hst:X.stack=X.env::X.outer) (hf:X.env.frame=some X.env.locals) (h:CXE X.prog X.w X.stack H s E e s₁)
    (k:∀ (a C t:Addr) (od:Option Addr) (H':Hp) (B h3:Heap),e= .ref a->B.FlyingW X.stack a (.ref C) (.ref t) h3->s₁.heap.UpToSlots h3->DictIs h3 a od->(∀ h4:Heap,B.FlyingW X.stack a (.ref C) (.ref t) h4->s₁.heap.UpToSlots h4->DictIs h4 a od->Inv X pins σ H' { s₁ with heap:=h4 }/\Inv X pins σ (upd H' a (EB a C od)) { s₁ with heap:=h4 })->H' a=none->E (.ref C) od H'->R { s₁ with heap:=h3 }):
    wpAny (model X.prog X.w) X.A (noteFrame e X.env) (λ _ s₂=>wpAny (model X.prog X.w) X.A (setFlight e none) (λ _ s₃=>R s₃) E2 s₂) E1 s₁:=by
  obtain ⟨a,C,t,od,H',rfl,os,bare,un,hok,⟨B,fl,cov⟩,di,q⟩:=h;have untr:∀ b∈frs X.stack,H' b=none:=λ b hb=>by
    obtain ⟨_,o,e,_⟩:=A2 I.stack hb;exact un.free b o e (I.stkFree b hb) (by simp)
  obtain ⟨oa,hoa,hca⟩:=fl.there;have af:a∉frs X.stack:=λ z=>by
    obtain ⟨_,_,_,oe,vs,T,oT,ts,he,hcls,hd,_⟩:=id fl;obtain ⟨_,o',e',nf⟩:=A2 fl.2.2.1 z;rw [he] at e';cases e';exact nf _ hd
  have an:H' a=none:=by
    cases hx:H' a with
    | none=>rfl
    | some u=>
      have:=cov a (.inl (by rw [hx];exact λ z=>by cases z)) af oa hoa;rw [fl.2.1] at this;cases this
  have as:s.heap.get? a=none:=by
    cases hx:s.heap.get? a with
    | none=>rfl
    | some o=>
      have:=cov a (.inr ⟨o,hx⟩) af oa hoa;rw [fl.2.1] at this;cases this
  have fl':=fl;rw [hst] at fl';refine MZ (by rw [I.ok.frames,hst]) hf fl' λ h2 hh u2 kd2=>TQ (s:={ s₁ with heap:=h2 }) hh λ h3 fl3 u3 kd3=> ?_;rw [<-hst] at fl3;refine k a C t od H' B h3 rfl fl3 (Hs u2 u3) (di.on (kd2.trans kd3) (let ⟨o,e,_⟩:=fl3.there;⟨o,e⟩)) (λ h4 fl4 u4 di4=> ?_) an q;obtain ⟨un4,hok4⟩:=Pj un hok fl cov untr fl4 u4;obtain ⟨_,_,_,o4,vs4,_,_,_,e4,⟨c4,_⟩,dd4,_⟩:=id fl4;have d4:o4.dict=od:=by
    obtain ⟨o5,e5,d5⟩:=di4;rw [e4] at e5;cases e5;exact d5
  subst d4;exact ⟨I.call' (s':={ s₁ with heap:=h4 }) (ch:=[]) os un4 hok4 bare (λ _ z=>by cases z),I.call' (s':={ s₁ with heap:=h4 }) (ch:=[]) os (OC un4 an as) (OL hok4 an (TX e4 c4 dd4)) bare (λ _ z=>by cases z)⟩
end
def Cx.tryC (X:Cx) (pn:List (Addr × Obj)) (xe:Value->Shared->Prop):Cx:={ X with pn:=pn,xe:=xe }
def Cx.markC (X:Cx) (a:Addr) (xe:Value->Shared->Prop):Cx:={ X with A:=X.A.mark (some (.ref a)),calm:=false,xe:=xe }
section
variable {X:Cx} {pins pins0:List (Addr × Obj)} {σ:St} {H:Hp} {s:Shared} {xe:Value->Shared->Prop}
theorem Inv.tryC (I:Inv X pins σ H s):Inv (X.tryC (X.pn++pins) xe) [] σ H s:=
  ⟨⟨I.ok.mod,I.ok.kind,I.ok.glob,I.ok.blt,I.ok.above,I.ok.inj,I.ok.has,I.ok.cab,I.ok.hd,I.ok.frames,I.ok.stk,I.ok.exf,I.ok.bs,I.ok.bsz,I.ok.noex,I.ok.exfs,I.ok.funs,I.ok.frf⟩,
    I.os,I.bare,I.base,I.loc,I.cell,I.free,I.freeC,λ p hp=>I.pin p (by simpa [Cx.tryC] using hp),I.hok,I.len⟩
theorem Inv.untry (ok:X.Ok) (I:Inv (X.tryC (X.pn++pins0) xe) pins σ H s):Inv X pins0 σ H s:=
  ⟨ok,I.os,I.bare,I.base,I.loc,I.cell,I.free,I.freeC,λ p hp=>I.pin p (List.mem_append_left _ hp),I.hok,I.len⟩
theorem Inv.markC {a:Addr} (I:Inv X pins σ H s):Inv (X.markC a xe) pins σ H s:=
  ⟨⟨I.ok.mod,I.ok.kind,I.ok.glob,I.ok.blt,I.ok.above,I.ok.inj,I.ok.has,I.ok.cab,λ z=>(by cases z),I.ok.frames,I.ok.stk,I.ok.exf,I.ok.bs,I.ok.bsz,I.ok.noex,I.ok.exfs,I.ok.funs,I.ok.frf⟩,
    I.os,I.bare,I.base,I.loc,I.cell,I.free,I.freeC,I.pin,I.hok,I.len⟩
theorem Inv.unmark {a:Addr} (ok:X.Ok) (I:Inv (X.markC a xe) pins σ H s):Inv X pins σ H s:=
  ⟨ok,I.os,I.bare,I.base,I.loc,I.cell,I.free,I.freeC,I.pin,I.hok,I.len⟩
theorem NS {M:Model} {A:Around} {E:Value->Shared->Prop} {i:Nat} {x:Str} {v:V} {Q:Unit->Shared->Prop} (I:Inv X pins σ H s) (hN:X.N.Nodup) (hi:X.N[i]?=some x) (hx:X.env.scope.names.lookup x=some .local) (hv:σ[i]?=some (some v))
    (h:∀ s',Inv X pins (σ.set i none) H s'->Q () s'):wpAny M A (unbindName X.env x) Q E s:=by
  obtain ⟨m,hn,hl⟩:=id I.loc;have hcls:(X.env.scope.kind == .class||(X.env.scope.kind == .module&&X.env.locals != X.env.globals))=false:=by rw [I.ok.kind];rfl
  obtain ⟨u0,_,q0⟩:=hl i x v hi hv (.inl hx);have hm:m x=some u0:=by
    rcases q0 with ⟨_,e⟩ | ⟨k,_⟩
    · exact e
    · rcases k with k | k
      · rw [show X.env.kindOf x=some .local from hx] at k;cases k
      · rw [show X.env.kindOf x=some .local from hx] at k;cases k
  have hiσ:i<σ.length:=by rw [I.len];exact (List.getElem?_eq_some_iff.mp hi).1
  have cne:=I.cne;refine wpAny_unbindName_local hx hn hm hcls λ h' u hn' hs=> ?_;obtain ⟨oL,_,_,hoL,_⟩:=id hn;have neL:∀ b o,X.s₀.heap.get? b=some o->b≠X.env.locals:=λ b o e=>Nat.ne_of_lt (Nat.lt_of_lt_of_le (Heap.lt_size e) I.ok.above);refine h _ ⟨I.ok,I.os,I.bare,⟨λ b o e n hb hx=> ?_,λ b o e n hb hx=> ?_,I.base.free,λ b o e hx=> ?_,I.base.tups,I.base.frzs,I.base.tbls⟩,⟨_,hn',λ j y v' e1 e2 e3=> ?_⟩,λ y c e=> ?_,I.free,I.freeC,λ p hp=> ?_,λ b ob e=> ?_,by simpa using I.len⟩
  · exact (hs.2 b (neL b o e)).trans (I.base.keep b o e n hb hx)
  · obtain ⟨sl,e1⟩:=I.base.slot b o e n hb hx;exact ⟨sl,(hs.2 b (neL b o e)).trans e1⟩
  · obtain ⟨o',e1⟩:=I.base.there b o e hx;exact ⟨o',(hs.2 b (neL b o e)).trans e1⟩
  · by_cases hj:j=i
    · subst hj;rw [List.getElem?_set_self hiσ] at e2;cases e2
    · rw [List.getElem?_set_ne (Ne.symm hj)] at e2;obtain ⟨u',r',q⟩:=hl j y v' e1 e2 e3;refine ⟨u',r',?_⟩;rcases q with ⟨k,e⟩ | ⟨k,c,e,z⟩
      · refine .inl ⟨k,?_⟩;have:y≠x:=λ e=>hj (G3 hN e1 (e▸hi));simp [this,e]
      · exact .inr ⟨k,c,e,z.sameBut hs (cne y c e)⟩
  · obtain ⟨w',z⟩:=I.cell y c e;exact ⟨w',z.sameBut hs (cne y c e)⟩
  · obtain ⟨e,n,ne,nf,d⟩:=I.pin p hp;exact ⟨(hs.2 p.1 ne).trans e,n,ne,nf,d⟩
  · refine (I.hok b ob e).stay (λ c w' hc q=>(hs.2 c ?_).trans q) (λ _ q=>q) λ _ _ q=>q;rintro rfl;rcases hc with rfl | hc
    · rw [I.free] at e;cases e
    · rw [I.free] at hc;cases hc
end
def Tj (j:Nat) (D:Ends):Ends:={ nx:=λ σ H=>D.nx (σ.set j none) H,rt:=D.rt,bk:=λ σ H=>D.bk (σ.set j none) H,ct:=λ σ H=>D.ct (σ.set j none) H }
end L2
namespace L2
open PySem PySem.Spec PyProof.Rows PySem.W
end L2
namespace HT
open PySem PySem.Spec PyProof.Rows PySem.W PySem.Calls PySem.Builtin PySem.Builtin.ObjectAttr PySem.Builtin.Getset_descriptor
def ExcAt (a C:Addr) (h:Heap):Prop:=∃ o,h.get? a=some o/\o.cls= .ref C
structure ExcKind (K:Frag) (C:Addr):Prop where
  cl:(clsIn K C).isSome=true
  ga:findIn K (.ref C) "__getattribute__"=some (some (.builtin "BaseException.__getattribute__"))
  ng:findIn K (.ref C) "__getattr__"=some none
  hb:mroIn K C (.type "BaseException")=some true
  ha:findIn K (.ref C) "__class__"=some (some (.builtin "object.__class__"))
  hn:specialIn K (.builtin "object.__class__") "__get__"=some (some (.builtin "getset_descriptor.__get__"))
  htk:takesIn K (.builtin "object.__class__")=some true
  hm:mroIn K C (.type "object")=some true
theorem ExcAt.type {M:Model} {h:Heap} {a C:Addr} (x:ExcAt a C h):Looks M h (typeOf (.ref a)) (.ref C):=by
  obtain ⟨o,e,c⟩:=x;exact c▸(Looks.ld e).andThen .now
theorem Ou {K:Frag} {M:Model} {h:Heap} {a C:Addr} (k:ExcKind K C) (X:K.In h):Looks M h (find (.ref a) (.ref C) "__class__") (.bind (.builtin "getset_descriptor.__get__") (.builtin "object.__class__")):=by
  have L1:=looks_findIn (M:=M) X k.ha;have L2:Looks M h (getOf (some (.builtin "object.__class__"))) (some (.builtin "getset_descriptor.__get__")):=looks_specialIn X k.hn;have L3:=looks_takesIn (M:=M) X k.htk;exact L1.andThen (L2.andThen ((show Looks M h (dataDescriptor? (some (.builtin "object.__class__")) (some (.builtin "getset_descriptor.__get__"))) (some (.builtin "getset_descriptor.__get__", .builtin "object.__class__")) from L3.andThen .now).andThen (Looks.tag .now)))
section
variable {prog:Program} {w:World} {A:Around} {E:Value->Shared->Prop} {s:Shared} {K:Frag} {a C:Addr}
theorem RV {R:Result->Shared->Prop} {tp:Value} (X:K.In s.heap) (x:ExcAt a C s.heap) (hm:mroIn K C (.type "object")=some true) (h:R (.ok (.ret (.ref C))) s):
    codeAny (model prog w) A (.call (.builtin "getset_descriptor.__get__") ⟨[.builtin "object.__class__", .ref a,tp],[]⟩) R s:=by
  obtain ⟨hh,g,dr,t,os⟩:=s;have L0:=x.type (M:=model prog w);have L1:=looks_mroIn (M:=model prog w) X hm;refine codeAny_call_builtin KF.slot_gs.plain KF.entry_gs (KF.slot_gs.check _ _ _ _ _ _ _ _ KF.type_class (KF.args_gs _ _ _) ?_);unfold Builtin.«getset_descriptor.__get__» descrGet;rw [dga_obj];refine wpAny_bind (wpAny_pure ?_);unfold descrGetter descrCheckInstance descrNameAndClass isInstance;simp only [KF.owner_class]
  repeat lk
  refine ⟨Code.quiet_builtin _ (by decide +kernel),codeAny_builtin KF.entry_class ?_⟩;unfold Builtin.«object.__class__» shownTypeOf
  repeat lk
  exact h
theorem IC {Q:Unit->Shared->Prop} {nameV:Value} (k:ExcKind K C) (X:K.In s.heap) (x:ExcAt a C s.heap) (h:Q () s):wpAny (model prog w) A (checkBuiltinCall "BaseException.__getattribute__" ⟨[.ref a,nameV],[]⟩) Q E s:=by
  have hk:builtinKind "BaseException.__getattribute__"=some .slot:=by decide +kernel
  have hsplit:splitId "BaseException.__getattribute__"=some ("BaseException","__getattribute__"):=by decide +kernel
  have ha:=PySem.F.args_bexc_ga (.ref a) nameV;have L0:=x.type (M:=model prog w);have L1:=looks_mroIn (M:=model prog w) X k.hb;simp only [checkBuiltinCall,hk,hsplit];refine wpAny_bind ?_;unfold isInstance
  repeat lk
  exact h
theorem MV {Q:Option Value->Shared->Prop} (k:ExcKind K C) (X:K.In s.heap) (x:ExcAt a C s.heap) (h:Q (some (.ref C)) { s with toks:=s.toks+1 }):wpAny (model prog w) A (getAttr? (.ref a) "__class__") Q E s:=by
  obtain ⟨hh,g,d,t,os⟩:=s;have L0:=x.type (M:=model prog w);have L1:=looks_findIn (M:=model prog w) X k.ga;have L2:=looks_findIn (M:=model prog w) X k.ng;have L3:=Ou (M:=model prog w) (a:=a) k X;unfold getAttr? getAttrBy? getAttrBy;refine wpAny_bind (wpAny_mkText (wpAny_bind (wpAny_attempt (wpAny_holding (wpAny_bind (L0.at (wpAny_bind (L1.at ?_))))))));show wpAny _ _ (getAttrByItsOwn (.ref a) _ (.ref C) (.builtin "BaseException.__getattribute__") false false) _ _ _;unfold getAttrByItsOwn;refine wpAny_bind (L2.at ?_);refine wpAny_bind (wpAny_attempt (wpAny_holding ?_));show wpAny _ _ (boundAndCalled (.builtin "BaseException.__getattribute__") (.ref a) _) _ _ _;unfold boundAndCalled;rw [PySem.F.excAttr_ValueError.ga.bind (.ref a)];refine wpAny_bind (wpAny_pure ?_);refine wpAny_call (codeAny_call_builtin PySem.F.excAttr_ValueError.ga.plain PySem.F.entry_bexc_ga (IC (s:=⟨hh,g,d,t+1,os⟩) k X x ?_));unfold Builtin.«object.__getattribute__»
  iterate 22 lk
  refine wpAny_call (RV (s:=⟨hh,g,d,t+1,os⟩) X x k.hm ?_)
  repeat lk
  exact h
theorem kitx_exc (k:ExcKind K C):KitX K (.ref a) (.ref C) (ExcAt a C) where
  ty:=λ _ _ _ x=>x.type
  it:=λ _ _ X _=>by
    obtain ⟨cd,hc⟩:=Option.isSome_iff_exists.mp k.cl;unfold clsIn at hc;split at hc
    · rename_i c' d' cd' sl' ho
      intro A' Q' E' s' kk q;unfold isType loadHead;exact wpAny_bind (wpAny_loadPart (kk _ _ (X _ _ ho)) (wpAny_pure q))
    · cases hc
  ne:=λ h tp dd its n sl X htp=>by
    obtain ⟨cd,hc⟩:=Option.isSome_iff_exists.mp k.cl;refine Bool.eq_false_iff.mpr λ q=> ?_;have e:C=tp:=Value.ref.inj (beq_iff_eq.mp q);subst e;unfold clsIn at hc;split at hc
    · rename_i c' d' cd' sl' ho
      have z:=(X _ _ ho).symm.trans htp;cases z
    · cases hc
  ca:=λ X x h=>MV k X x h
end
end HT
namespace L2
open PySem PySem.Spec PyProof.Rows
theorem OH {X:Cx} {pins:List (Addr × Obj)} {σ:St} {H:Hp} {s:Shared} {A:Around} {E:Value->Shared->Prop} {Q:Value->Shared->Prop} {a C:Addr} {od:Option Addr} {c:Value} {b:Bool} (I:Inv X pins σ H s) (e:H a=some (EB a C od)) (k:HT.ExcKind X.K C)
    (h:PySem.W.kitOne X.K (.ref C) c=some b) (hq:∀ tk,Q (.bool b) { s with toks:=tk }):wpAny (model X.prog X.w) A (call (.builtin "isinstance") [.ref a,c]) Q E s:=
  PySem.W.kia_one (HT.kitx_exc k) I.kIn (show HT.ExcAt a C s.heap from let ⟨o,h1,h2,_⟩:=(show ObjOk X.prog X.w H s.heap a (EB a C od) from I.hok a _ e).1;⟨o,h1,h2⟩) h (λ z=>nomatch z) hq
def Lq (K:PySem.W.Frag):List V->Hp->VK->Prop:=λ xs H Q=>∃ (y c:V) (cv t:Value) (b:Bool),xs=[y,c]/\((∃ D,c= .ref D/\cv= .ref D)\/∃ T,c= .ty T/\cv= .type T)/\PySem.W.kitOne K t cv=some b/\
  (TyOf K H y t\/∃ a C od,y= .ref a/\H a=some (EB a C od)/\t= .ref C/\HT.ExcKind K C)/\Q (.bl b) H
theorem BP {X:Cx} {K:PySem.W.Frag} (hK:X.K=K:=by rfl):AU X (.builtin "isinstance") (Lq K):=by
  subst hK;intro pins s σ H xs us Q I r h;obtain ⟨y,c,cv,t,b,rfl,hc,e,hy,q⟩:=h;obtain ⟨u,c',rfl,rx,rc⟩:=KQ r;have ec:c'=cv:=by
    rcases hc with ⟨D,rfl,rfl⟩ | ⟨T,rfl,rfl⟩
    · exact rc
    · exact rc
  subst ec;rcases hy with ty | ⟨a,C,od,rfl,ha,rfl,k⟩
  · exact IH I rx ty e λ tk=>⟨.bl b,H,I.tok tk,rfl,q⟩
  · cases rx;exact OH I ha k e λ tk=>⟨.bl b,H,I.tok tk,rfl,q⟩
theorem BI {K:PySem.W.Frag} {H:Hp} {Q:VK} {a C D:Addr} {od:Option Addr} {b:Bool} (ha:H a=some (EB a C od)) (k:HT.ExcKind K C) (e:PySem.W.kitOne K (.ref C) (.ref D)=some b) (h:Q (.bl b) H):Lq K [.ref a, .ref D] H Q:=
  ⟨_,_,_,_,b,rfl, .inl ⟨D,rfl,rfl⟩,e, .inr ⟨a,C,od,rfl,ha,rfl,k⟩,h⟩
theorem NU {K:PySem.W.Frag} {H:Hp} {Q:VK} {a C:Addr} {od:Option Addr} {T:String} {b:Bool} (ha:H a=some (EB a C od)) (k:HT.ExcKind K C) (e:PySem.W.kitOne K (.ref C) (.type T)=some b) (h:Q (.bl b) H):Lq K [.ref a, .ty T] H Q:=
  ⟨_,_,_,_,b,rfl, .inr ⟨T,rfl,rfl⟩,e, .inr ⟨a,C,od,rfl,ha,rfl,k⟩,h⟩
end L2
namespace HT
open PySem PySem.Spec PyProof.Rows PySem.W
theorem own_mk {K:Frag} {base:Heap} {mg:Str->Option Value} {x:Str} {C:Addr} {bmB:List Value} {newId:String} (X:K.In base) (hm:mg x=some (.ref C)) (q:excIn K C bmB newId=true):OwnCls x C bmB newId mg base:=by
  refine ⟨hm,?_⟩;unfold excIn at q;split at q
  · rename_i dd cd sl ho
    split at q
    · rename_i C' bm k0 k1 k2 k3 n k5 hm' hs
      simp only [Bool.and_eq_true,beq_iff_eq,Bool.not_eq_true'] at q;obtain ⟨⟨⟨⟨⟨rfl,rfl⟩,hdel⟩,ht⟩,hok⟩,hni⟩:=q;obtain ⟨nm,bs,mro,ns,qn,hd,sn,sub,ab,col,del⟩:=cd;dsimp only at hm' hdel hok hni;subst hm' hdel;obtain ⟨l⟩:=sl;have hsl:l=[k0,k1,k2,k3,some (.builtin n),k5]:=hs;subst hsl;exact ⟨bm,ns,nm,qn,bs,hd,sn,sub,ab,col,dd,k0,k1,k2,k3,k5,_,X _ _ ho, .of_isNs (isNs_of_in X hok),nsMap_none_of_in X hok hni,tail_of_in X ht⟩
    · cases q
  · cases q
end HT
namespace L2
open PySem PySem.Spec PyProof.Rows
def CallE (P:Program) (w:World) (K:PySem.W.Frag) (mg:Str->Option Value) (base:Heap) (x:Str) (k:Nat) (ps:List Str) (sp:Sp):Prop:=
  ∃ f fd,mg x=some (.ref f)/\PySem.W.keepIn K (.ref f)=true/\FnOk P w K mg base (CXE P w) k f fd ps sp/\Binds K fd ps []
def JV (P:Program) (w:World) (K:PySem.W.Frag) (mg:Str->Option Value) (base:Heap) (x:Str) (C:Addr) (k:Nat) (ps:List Str) (sp:Sp):Prop:=
  ∃ f fd,mg x=some (.ref C)/\Mk K C f/\FnOk P w K mg base (CXE P w) k f fd ps sp/\Binds K fd ps []
theorem DefAt.callE {P:Program} {w:World} {K:PySem.W.Frag} {mg:Str->Option Value} {base:Heap} {x:Str} {st:Stmt} {ps:List Str} {f:Addr} {fd:FuncData} {k:Nat} {sp:Sp} (d:DefAt K mg x st ps f fd)
    (F:FnOk P w K mg base (CXE P w) k f fd ps sp):CallE P w K mg base x k ps sp:=⟨f,fd,d.at',d.fn.kp,F,d.bi⟩
section
variable {X:Cx} {x:Str} {C:Addr} {k:Nat} {ps:List Str} {sp:Sp} {E:XK} {e:Expr} {es:List Expr} {t:TA} {p pos:Pos}
theorem Dp (h:CallE X.prog X.w X.K X.mg X.base x k ps sp) (hr:Room k X.A) (hx:BL (CXE X.prog X.w) X E) (ha:PA X (e::es) t) (hg:Gl X x:=by rfl) (hdb:(x == ("__debug__":Str))=false:=by decide)
    (he:starEach (e::es) X.env=(false,eval e X.env)::starEach es X.env:=by rfl) (hpl:(backTo pos (starEach es X.env)).any (·.1)=false:=by rfl):
    PE X (.Call (.Name x p) (e::es) [] pos) (Ky sp [] E t):=by
  obtain ⟨f,fd,hm,hk,F,hb⟩:=h;exact L6 F hr hg hm hk hb .nil hx ha hdb he hpl
theorem Hn (h:JV X.prog X.w X.K X.mg X.base x C k ps sp) (hr:Room (k+1) X.A) (hx:BL (CXE X.prog X.w) X E) (ha:PA X (e::es) t) (hg:Gl X x:=by rfl) (hdb:(x == ("__debug__":Str))=false:=by decide)
    (he:starEach (e::es) X.env=(false,eval e X.env)::starEach es X.env:=by rfl) (hpl:(backTo pos (starEach es X.env)).any (·.1)=false:=by rfl):
    PE X (.Call (.Name x p) (e::es) [] pos) (Kx C sp [] E t):=by
  obtain ⟨f,fd,hm,M,F,hb⟩:=h;exact L8 M F hr hg hm hb .nil hx ha hdb he hpl
end
theorem My {P:Program} {w:World} {K:PySem.W.Frag} {mg:Str->Option Value} {base:Heap} {N:List Str} {qual:Str} {scope:Scope} {f:Addr} {cd:Value} {A:Around} {outer:List Env} {s₀:Shared} {H₀:Hp} {E:XK}:
    BL (CXE P w) (Bw (CXE P w) P w K mg base N qual scope f cd A outer s₀ H₀ E) E:=Nc λ _ _ _ h=>h
section
variable {P:Program} {w:World} {K:PySem.W.Frag} {mg:Str->Option Value} {base:Heap}
theorem Fun.okE {x qual:Str} {st:Stmt} {f:Addr} {fd:FuncData} {N ps:List Str} {k:Nat} {sp:Sp} (F:Fun K x qual st f fd) (S:FnScope N ps (Ah st)) (len:∀ vs H Q E,sp vs H Q E->vs.length=ps.length)
    (hbody:∀ (cdv:Value) (A:Around) (outer:List Env) (s:Shared) (H:Hp) (vs:List V) (Q:VK) (E:XK),Room k (A.deeper (envOfC qual (Ah st) s.heap.objs.size f cdv))->sp vs H Q E->
      ∃ t,PSs (Bw (CXE P w) P w K mg base N qual (Ah st) f cdv A outer s H E) (BO st) t/\t { nx:=λ _ H'=>Q .non H',rt:=Q } (start N vs) H):FnOk P w K mg base (CXE P w) (k+1) f fd ps sp:=by
  obtain ⟨oc,od,kV,doc,pm,an,cdv,ct,osl,rfl,lk,hcd⟩:=F.ex;refine Oc lk hcd S len λ A outer s H vs Q E hr hsp=> ?_;exact hbody cdv A outer s H vs Q E hr hsp
theorem FU {N:List Str} {qual:Str} {scope:Scope} {f:Addr} {cd:Value} {A:Around} {outer:List Env} {s₀:Shared} {H₀:Hp} {E:XK} {x:Str} {C:Addr} {e₀:Expr} {rest:List Expr} {np cpos pos:Pos} {ta:TA} (hm:mg x=some (.ref C))
    (q:PySem.W.excIn K C [.type "ValueError", .type "Exception", .type "BaseException", .type "object"] "ValueError.__new__"=true) (ha:PA (Bw (CXE P w) P w K mg base N qual scope f cd A outer s₀ H₀ E) (e₀::rest) ta)
    (he:starEach (e₀::rest) (envOfC qual scope s₀.heap.objs.size f cd)=(false,eval e₀ (envOfC qual scope s₀.heap.objs.size f cd))::starEach rest (envOfC qual scope s₀.heap.objs.size f cd):=by rfl)
    (hplain:(backTo cpos (starEach rest (envOfC qual scope s₀.heap.objs.size f cd))).any (·.1)=false:=by rfl)
    (hg:Gl (Bw (CXE P w) P w K mg base N qual scope f cd A outer s₀ H₀ E) x:=by rfl) (hd:(x == ("__debug__":Str))=false:=by decide):
    PS (Bw (CXE P w) P w K mg base N qual scope f cd A outer s₀ H₀ E) (.Raise (some (.Call (.Name x np) (e₀::rest) [] cpos)) none pos) (OJ E C ta):=λ pins s σ H D I h=>
  PN (HT.own_mk I.mod.kin hm q) PySem.F.excBase_ValueError ha he hplain hg hd pins s σ H D I h
end
theorem Gv:bootBuiltins "ValueError"=some (.type "ValueError"):=by decide +kernel
theorem Md {X:Cx}:BL (CXE X.prog X.w) X E0:=by
  intro pins σ H s e s' I h;obtain ⟨_,_,_,_,_,_,_,_,_,_,_,_,q⟩:=h;exact False.elim q
theorem TyOf.same {K:PySem.W.Frag} {H H':Hp} {x:V} {t:Value} (h:TyOf K H x t) (s:Same H H'):TyOf K H' x t:=by
  cases h with
  | non=>exact .non
  | bl x=>exact .bl x
  | int i=>exact .int i
  | str x=>exact .str x
  | flt x=>exact .flt x
  | lst e=>exact .lst (s _ _ e)
  | frz e=>exact .frz (s _ _ e)
  | tup e=>exact .tup (s _ _ e)
  | dK e=>exact .dK (s _ _ e)
  | dT e=>exact .dT (s _ _ e)
  | ins e cl ha hn htk hm=>exact .ins (s _ _ e) cl ha hn htk hm
theorem Ty.same {K:PySem.W.Frag} {H H':Hp} {x:V} (h:Ty K H x) (s:Same H H'):Ty K H' x:=let ⟨n,t⟩:=h;⟨n,t.same s⟩
theorem ME {x:V}:∀ {xs:List V} {us:List Value},Vals xs us->xs.all A0=true->us.map (eqU x)=xs.map λ y=>eqV y x
  | _,_, .nil,_=>rfl
  | y::xs,u::us, .cons r t,f=>by
    rw [List.all_cons,Bool.and_eq_true] at f;rw [List.map_cons,List.map_cons,LP r f.1,ME t f.2]
def rIndexL:V->List V->Hp->VK->Prop:=λ l vs H Q=>∃ p xs x j,l= .ref p/\vs=[x]/\H p=some (.lst xs)/\A0 x=true/\xs.all A0=true/\(xs.map λ y=>eqV y x)[j]?=some true/\(∀ m,m<j->(xs.map λ y=>eqV y x)[m]?=some false)/\Q (.int (j:Nat)) H
theorem Pl {X:Cx}:MtM X "list.index" rIndexL:=by
  intro pins s σ H x vs v us Q I rx rv h;obtain ⟨p,xs,y,j,rfl,rfl,hH,fy,fs,h1,h2,q⟩:=h;cases rx;obtain ⟨u,rfl,ru⟩:=rv.one;obtain ⟨z,its,n,r,hl,e⟩:=I.lstM hH;have em:=ME (x:=y) r fs;rw [<-em] at h1;have hj:j<its.length:=by
    have:=(List.getElem?_eq_some_iff.mp h1).1;simpa using this
  have hz:(j:Int)<2 ^ 63 - 1:=by
    have:sizeLine<2 ^ 63 - 1:=by decide
    omega
  refine call_meets F.slot_list_index ⟨_,e,rfl⟩ F.entry_list_index (F.args_list_index_2 _ _) (SeqAt.list_indexAt p its.toArray n _ _ u (eqU y) j (by simpa using hj) hz ?_ ?_) ⟨e,λ w hw=>E5 ru fy r fs w (by simpa using hw),?_⟩
  · rw [List.getElem?_map,List.getElem?_eq_getElem hj] at h1;simpa using h1
  · intro m hm hmj;have h3:=h2 m hmj;rw [<-em,List.getElem?_map,List.getElem?_eq_getElem (by omega)] at h3;simpa using h3
  · exact ⟨.int _,H,I.tok _,⟨_,rfl⟩,q⟩
theorem Nd {H:Hp} {Q:VK} {p:Addr} {xs:List V} {x:V} (j:Nat) (h:H p=some (.lst xs)) (fx:A0 x=true) (fs:xs.all A0=true) (h1:(xs.map λ y=>eqV y x)[j]?=some true) (h2:∀ m,m<j->(xs.map λ y=>eqV y x)[m]?=some false)
    (q:Q (.int (j:Nat)) H):rIndexL (.ref p) [x] H Q:=⟨p,xs,x,j,rfl,rfl,h,fx,fs,h1,h2,q⟩
theorem TB {j:Nat} {D:Ends} {σ:St} {H:Hp} (h:D.nx (σ.set j none) H):(Tj j D).nx σ H:=h
end L2
namespace HT
open PySem PySem.Spec PyProof.Rows PySem.SeqAt
open PySem.AutoSeq1 (wpAny_loadPart')
open PySem.MeetsSeq PySem.MeetsSeq2 PySem.MeetsSeq3
theorem Dy (b:Str) (u:Tok) (l:Addr) (c:Value) (es:Array DictEntry) (n:Nat) (dd:Option Addr) (sl:Array (Option Value)):
    Meets (Builtin.«str.__eq__» ⟨[.str b u, .ref l],[]⟩) (λ _ R s=>s.heap.get? l=some { cls:=c,dict:=dd,data:= .dict es n,slots:=sl }/\R (.ok (.ret .notImplemented)) s):=
  .of_wp λ prog w A R s h=>by obtain ⟨hp,g,d,tk,os⟩:=s;obtain ⟨hl,h⟩:=h;wp_walk using wpAny_loadPart' hl,wpAny_load hl;exact ⟨_,rfl,h⟩
theorem DN (l:Addr) (es:Array DictEntry) (n:Nat) (dd:Option Addr) (sl:Array (Option Value)) (b:Str) (u:Tok):
    Meets (Builtin.«dict.__eq__» ⟨[.ref l, .str b u],[]⟩) (λ _ R s=>s.heap.get? l=some { cls:= .type "dict",dict:=dd,data:= .dict es n,slots:=sl }/\R (.ok (.ret .notImplemented)) s):=
  .of_wp λ prog w A R s h=>by obtain ⟨hp,g,d,tk,os⟩:=s;obtain ⟨hl,h⟩:=h;have f1:=PySem.F.sub_str_dict;wp_walk using wpAny_loadPart' hl;exact ⟨_,rfl,h⟩
section
variable {A:Around} {s:Shared}
theorem Im {l:Addr} {es:Array DictEntry} {n:Nat} {dd:Option Addr} {sl:Array (Option Value)} (b:Str) (u:Tok) (ho:s.heap.get? l=some { cls:= .type "dict",dict:=dd,data:= .dict es n,slots:=sl }) (hu:A.units<cLine):RcAt A s (.str b u) (.ref l) false:=λ prog w E Q h=>
  rc_eq_decline_or (k:=false) (typeIs_str s b u) ⟨_,ho,rfl⟩ (by decide) PySem.F.sub_dict_str PySem.F.slot_str_eq PySem.F.slot_dict_eq_refl
    (λ _ hq=>call_meets PySem.F.slot_str_eq (typeIs_str s b u) PySem.F.entry_str_eq (PySem.F.args_str_eq_2 _ _) (Dy b u l (.type "dict") es n dd sl) ⟨ho,hq⟩)
    (λ _ hq=>call_meets PySem.F.slot_dict_eq_refl ⟨_,ho,rfl⟩ PySem.F.entry_dict_eq (PySem.F.args_dict_eq_2 _ _) (DN l es n dd sl b u) ⟨ho,hq⟩)
    (λ _ hq=>wpAny_of_eq (rfl:isSame (.str b u) (.ref l)=pure false) hq) (.inr hu) h
theorem eqAt_str_dict {l:Addr} {es:Array DictEntry} {n:Nat} {dd:Option Addr} {sl:Array (Option Value)} (b:Str) (u:Tok) (ho:s.heap.get? l=some { cls:= .type "dict",dict:=dd,data:= .dict es n,slots:=sl }) (hu:A.units<cLine):EqAt A s (.str b u) (.ref l) false:=λ prog w E Q h=>by
  unfold eqBool;refine wpAny_holding ?_;refine wpAny_ite_split (λ hab=>absurd (eq_of_beq hab) nofun) (λ _=> ?_);exact wpAny_bind (Im b u ho hu prog w E _ (wpAny_truthy_bool h))
end
end HT
namespace L2
open PySem PySem.Spec PyProof.Rows
inductive DX where
  | d (d:Dt) | dic | tdic (rest:List Dt)
inductive Rx (H:Hp) (n:Nat):V->DX->Prop
  | d {v:V} {d:Dt} (r:Rp H FT n v d):Rx H n v (.d d)
  | dic {a:Addr} (h:H a=some (.dK [])):Rx H n (.ref a) .dic
  | tdic {t a:Addr} {ws:List V} {ds:List Dt} (ht:H t=some (.tup (.ref a::ws))) (h:H a=some (.dK [])) (l:ws.length=ds.length) (e:∀ (i:Nat) (v:V) (d:Dt),ws[i]?=some v->ds[i]?=some d->Rp H FT n v d):Rx H n (.ref t) (.tdic ds)
def okX:DX->List Dt->Prop
  | .d _,_=>True
  | .dic,ds=>∀ e∈ds,∃ z,e= .str z
  | .tdic _,ds=>∀ e∈ds,∃ z r,e= .tup (.str z::r)
def inX:DX->List Dt->Bool
  | .d d,ds=>ds.any λ e=>eqD e d
  | _,_=>false
theorem MP {P:Program} {w:World} {H:Hp} {h:Heap} {a:Addr} (x:ObjOk P w H h a (.dK [])):∃ es n dd sl,h.get? a=some { cls:= .type "dict",dict:=dd,data:= .dict es n,slots:=sl }:=by
  obtain ⟨_,_,vs,_,o,es,ep,e,hx,hd,_⟩:=x;obtain ⟨c,dd,da,sl⟩:=o;obtain ⟨hc,_⟩:=hx;simp only at hc hd;subst hc hd;exact ⟨es,ep,dd,sl,e⟩
section
variable {X:Cx} {pins:List (Addr × Obj)} {σ:St} {H:Hp} {s:Shared}
theorem S8 (I:Inv X pins σ H s) {n:Nat} {A:Around} {v u:V} {e:Dt} {Y:DX} {rv ru:Value} (r:Rp H FT n v e) (rx:Rx H n u Y) (ok:okX Y [e]) (rr:RelV v rv) (rr2:RelV u ru) (hu:A.units+n+1<cLine):SeqAt.EqAt A s rv ru (inX Y [e]):=by
  cases rx with
  | d r2=>
    show SeqAt.EqAt A s rv ru (eqD e _||false);rw [Bool.or_false];exact FX I r r2 rr rr2 (by omega)
  | @dic a h=>
    obtain ⟨z,rfl⟩:=ok e (List.mem_singleton.mpr rfl);cases r;obtain ⟨t,rfl⟩:=rr;obtain rfl:ru=Value.ref a:=rr2;obtain ⟨es,m,dd,sl,ho⟩:=MP (I.hok a _ h);exact HT.eqAt_str_dict z t ho (by omega)
  | @tdic t a ws ds ht h l el=>
    obtain ⟨z,rr0,rfl⟩:=ok e (List.mem_singleton.mpr rfl);obtain rfl:ru=Value.ref t:=rr2;cases r with
    | @tup m b xs _ q1 b1 l1 el1=>
      obtain rfl:rv=Value.ref b:=rr;obtain ⟨its,rv1,pl,_⟩:=I.tuple (SqT.of q1);have pl:s.heap.IsTuple b its.toArray:=pl;obtain ⟨its2,rv2,pl2,_⟩:=I.tuple (SqT.of ht);have pl2:s.heap.IsTuple t its2.toArray:=pl2;have x0:∃ y,xs[0]?=some y:=by
        cases xs with
        | nil=>cases l1
        | cons y _=>exact ⟨y,rfl⟩
      obtain ⟨y,hy⟩:=x0;have ry:=el1 0 y _ hy rfl;have hab:b≠t:=λ q=>by
        subst q;rw [q1] at ht;cases ht;cases hy;cases ry
      refine SeqAt.EqAt.of_refs hab ?_;have at':∀ j (h1:j<its.toArray.size) (h2:j<its2.toArray.size),SeqAt.EqAt A.in1 s its.toArray[j] its2.toArray[j] (if j=0 then false else eqD ((Dt.str z::rr0).getD j .non) ((Dt.non::ds).getD j .non)):=λ j h1 h2=>by
        have k1:=rv1.length;have k2:=rv2.length;have h1':j<its.length:=by simpa using h1
        have h2':j<its2.length:=by simpa using h2
        have g1:xs[j]?=some (xs.getD j .non):=by rw [List.getD_eq_getElem?_getD,List.getElem?_eq_getElem (by omega)];rfl
        have g2:(V.ref a::ws)[j]?=some ((V.ref a::ws).getD j .non):=by rw [List.getD_eq_getElem?_getD,List.getElem?_eq_getElem (by omega)];rfl
        obtain ⟨u1,e1,ru1⟩:=rv1.get g1;obtain ⟨u2,e2,ru2⟩:=rv2.get g2;have p1:its.toArray[j]=u1:=by rw [List.getElem?_eq_getElem h1'] at e1;simpa using Option.some.inj e1
        have p2:its2.toArray[j]=u2:=by rw [List.getElem?_eq_getElem h2'] at e2;simpa using Option.some.inj e2
        rw [p1,p2];cases j with
        | zero=>
          rw [if_pos rfl];have r0:=el1 0 _ _ g1 rfl;obtain ⟨es,m',dd,sl,ho⟩:=MP (I.hok a _ h);generalize xs.getD 0 .non=y0 at r0 ru1;cases r0;obtain ⟨t0,rfl⟩:=ru1;obtain rfl:u2=Value.ref a:=ru2;exact HT.eqAt_str_dict z t0 ho (by rw [A8];omega)
        | succ j=>
          rw [if_neg (by omega)];have d1:(Dt.str z::rr0)[j+1]?=some ((Dt.str z::rr0).getD (j+1) .non):=by rw [List.getD_eq_getElem?_getD,List.getElem?_eq_getElem (by simp at l1;simp;omega)];rfl
          have hlw:j<ds.length:=by simp at k2;omega
          have d2:ds[j]?=some (ds.getD j .non):=by rw [List.getD_eq_getElem?_getD,List.getElem?_eq_getElem hlw];rfl
          have gw:ws[j]?=some ((V.ref a::ws).getD (j+1) .non):=by simpa using g2
          have r1:=(el1 (j+1) _ _ g1 d1).up (Nat.le_succ m);have r2:=el j _ _ gw d2;show SeqAt.EqAt _ s u1 u2 (eqD _ (ds.getD j .non));exact FX I r1 r2 ru1 ru2 (by rw [A8];omega)
      have q:=SeqAt.RcAt.tuples (A:=A) (e:=λ j=>if j=0 then false else eqD ((Dt.str z::rr0).getD j .non) ((Dt.non::ds).getD j .non)) pl pl2 (by omega) at';have z1:0<its.toArray.size:=by
        have:=rv1.length;rw [l1] at this;simp at this ⊢;omega
      have z2:0<its2.toArray.size:=by
        have:=rv2.length;simp at this ⊢;omega
      have ef:((List.range (min its.toArray.size its2.toArray.size)).all λ j=>if j=0 then false else eqD ((Dt.str z::rr0).getD j .non) ((Dt.non::ds).getD j .non))=false:=by
        rw [List.all_eq_false];exact ⟨0,List.mem_range.mpr (by omega),by simp⟩
      rw [ef,Bool.false_and] at q;exact q
end
def Xv (neg:Bool):R2:=λ x y H Q=>∃ (p:Addr) (vs:List V) (ds:List Dt) (n:Nat) (Y:DX),y= .ref p/\(H p=some (.lst vs)\/H p=some (.tup vs))/\n<=30/\vs.length=ds.length/\(∀ (i:Nat) (v:V) (d:Dt),vs[i]?=some v->ds[i]?=some d->Rp H FT n v d)/\Rx H n x Y/\okX Y ds/\
  Q (.bl (if neg then !inX Y ds else inX Y ds)) H
theorem RQ {Y:DX} {ds:List Dt} (h:okX Y ds) {e:Dt} (he:e∈ds):okX Y [e]:=by
  cases Y with
  | d _=>trivial
  | dic=>intro e' h';rw [List.mem_singleton.mp h'];exact h e he
  | tdic _=>intro e' h';rw [List.mem_singleton.mp h'];exact h e he
theorem QG (Y:DX) (ds:List Dt):inX Y ds=ds.any λ e=>inX Y [e]:=by
  cases Y with
  | d d=>show (ds.any λ e=>eqD e d)=ds.any λ e=>(eqD e d||false);simp
  | dic=>show false=_;symm;rw [List.any_eq_false];intro e _;show ¬ (false=true);decide
  | tdic _=>show false=_;symm;rw [List.any_eq_false];intro e _;show ¬ (false=true);decide
open Classical in
theorem GD {X:Cx} {pins:List (Addr × Obj)} {σ:St} {H:Hp} {s:Shared} (I:Inv X pins σ H s) (hu:X.A.units+64<cLine) {vs:List V} {ds:List Dt} {n:Nat} {Y:DX} {x:V} {v:Value} {its:List Value} (hn:n<=30) (l:vs.length=ds.length)
    (el:∀ (i:Nat) (v:V) (d:Dt),vs[i]?=some v->ds[i]?=some d->Rp H FT n v d) (rx:Rx H n x Y) (ok:okX Y ds) (rr:RelV x v) (rv:Vals vs its):
    ∃ e:Value->Bool,(∀ y,y∈its->SeqAt.EqAt X.A.in1 s y v (e y))/\its.any e=inX Y ds:=by
  have k:=rv.length;have eq1:∀ (i:Nat) (u:Value) (d:Dt),its[i]?=some u->ds[i]?=some d->SeqAt.EqAt X.A.in1 s u v (inX Y [d]):=λ i u d hu1 hd=>by
    have hi:i<its.length:=(List.getElem?_eq_some_iff.mp hu1).1;have g1:vs[i]?=some (vs.getD i .non):=by rw [List.getD_eq_getElem?_getD,List.getElem?_eq_getElem (by omega)];rfl
    obtain ⟨u1,e1,ru1⟩:=rv.get g1;rw [e1] at hu1;cases hu1;exact S8 I (el i _ _ g1 hd) rx (RQ ok (List.mem_of_getElem? hd)) ru1 rr (by rw [A8];omega)
  refine ⟨λ u=>decide (∃ (i:Nat) (d:Dt),its[i]?=some u/\ds[i]?=some d/\inX Y [d]=true),λ u hu1=> ?_,?_⟩
  · by_cases h:∃ (i:Nat) (d:Dt),its[i]?=some u/\ds[i]?=some d/\inX Y [d]=true
    · show SeqAt.EqAt X.A.in1 s u v (decide _);rw [decide_eq_true h];obtain ⟨i,d,h1,h2,h3⟩:=h;have:=eq1 i u d h1 h2
      rwa [h3] at this
    · show SeqAt.EqAt X.A.in1 s u v (decide _);rw [decide_eq_false h];obtain ⟨i,hi,rfl⟩:=List.getElem_of_mem hu1;have hd:ds[i]?=some (ds.getD i .non):=by rw [List.getD_eq_getElem?_getD,List.getElem?_eq_getElem (by omega)];rfl
      have h1:its[i]?=some its[i]:=List.getElem?_eq_getElem hi;have:=eq1 i _ _ h1 hd;have hf:inX Y [ds.getD i .non]=false:=by
        cases hq:inX Y [ds.getD i .non] with
        | false=>rfl
        | true=>exact absurd ⟨i,_,h1,hd,hq⟩ h
      rwa [hf] at this
  · rw [QG,Bool.eq_iff_iff,List.any_eq_true,List.any_eq_true];constructor
    · rintro ⟨u,hu1,h⟩;obtain ⟨i,d,h1,h2,h3⟩:=of_decide_eq_true h;exact ⟨d,List.mem_of_getElem? h2,h3⟩
    · rintro ⟨d,hd,h⟩;obtain ⟨i,hi,rfl⟩:=List.getElem_of_mem hd;have hi':i<its.length:=by omega
      exact ⟨its[i],List.getElem_mem hi',decide_eq_true ⟨i,_,List.getElem?_eq_getElem hi',List.getElem?_eq_getElem hi,h⟩⟩
theorem SQ {X:Cx} (hu:X.A.units+64<cLine):OpR X (compareOp .In) (Xv false):=by
  intro pins s σ H x y v u Q I rx ry h;obtain ⟨p,vs,ds,n,Y,rfl,hp,hn,l,el,rX,ok,q⟩:=h;obtain rfl:u=Value.ref p:=ry;rcases hp with hp | hp
  · obtain ⟨its,r,pl,hz⟩:=I.list (SqL.of hp);obtain ⟨e,he,ha⟩:=GD I hu hn l el rX ok rx r;refine SeqAt.in_listAt e pl.isList (λ w hw=>he w (by simpa using hw)) ⟨.bl _,H,I,rfl,?_⟩;rw [show its.toArray.any e=its.any e by simp,ha];exact q
  · obtain ⟨its,r,pl,hz⟩:=I.tuple (SqT.of hp);obtain ⟨e,he,ha⟩:=GD I hu hn l el rX ok rx r;refine SeqAt.in_tupleAt e pl (λ w hw=>he w (by simpa using hw)) ⟨.bl _,H,I,rfl,?_⟩;rw [show its.toArray.any e=its.any e by simp,ha];exact q
theorem ifE {c:Bool} {ta tb:TE} {σ:St} {H:Hp} {R:VK} (P:V->Hp->Prop) (h1:∀ v H',P v H'->R v H') (h2:∀ R':VK,(∀ v H',P v H'->R' v H')->if c=true then ta σ H R' else tb σ H R'):if c=true then ta σ H R else tb σ H R:=h2 R h1
end L2
namespace L2
open PySem PySem.Spec PyProof.Rows PySem.W
def exO (a:Addr) (o:Obj):HO:= .ext λ h=>h.get? a=some o
section
variable {P:Program} {w:World} {K:PySem.W.Frag} {mg:Str->Option Value} {base:Heap} {N:List Str} {qual:Str} {scope:Scope} {f:Addr} {cd:Value} {cl:List (Str × Addr)} {A:Around} {outer:List Env} {s:Shared} {H:Hp} {E:XK}
structure ClOkL (N:List Str) (scope:Scope) (cl:List (Str × Addr)) (h:Heap) (H:Hp) (vs:List V):Prop where
  len:vs.length=N.length
  inj:∀ x y c,cl.lookup x=some c->cl.lookup y=some c->x=y
  has:∀ x,(scope.names.lookup x=some .cell\/scope.names.lookup x=some .free)->∃ c,cl.lookup x=some c
  val:∀ (i:Nat) (x:Str) (v:V),N[i]?=some x->vs[i]?=some v->∃ c u,scope.names.lookup x=some .free/\cl.lookup x=some c/\RelV v u/\h.IsCell c (some u)
  cell:∀ x c,cl.lookup x=some c->(∃ v,h.IsCell c v)/\H c=none
end
def Zp (qual:Str) (oc:Obj):Prop:=∃ vs t,oc.data= .fields vs/\vs[1]?=some (.str qual t)
structure LamX (X:Cx) (c P:Addr):Prop where
  code:X.env.code= .ref c
  hd:CodeHd X.base c P
  blt:X.base.BuiltinsAt X.mg P
section
variable {X:Cx} {pins:List (Addr × Obj)} {σ:St} {H:Hp} {s:Shared}
end
structure LamOk (params:Arguments) (scope:Scope):Prop where
  kind:scope.kind= .function
  co:scope.isCoroutine=false
  gen:scope.isGenerator=false
  cell:∀ x∈scope.names,x.2≠ .cell
  bind:∀ (qual:Str) (body:Expr) (cl:List (Str × Addr)) (pm cdv ctv:Value),bindArgs (kla_fn "<lambda>" qual params body scope cl pm cdv ctv) ⟨[],[]⟩=pure []
section
variable {P:Program} {w:World} {K:PySem.W.Frag} {mg:Str->Option Value} {base:Heap}
structure ThAt (s:Shared) (H:Hp) (outer:List Env) (f c':Addr) (oc:Obj) (N:List Str) (qual:Str) (scope:Scope) (cl:List (Str × Addr)) (params:Arguments) (body:Expr) (pm ctv:Value) (vs:List V):Prop where
  hf:s.heap.get? f=some (kla_obj "<lambda>" qual params body scope cl pm c' ctv)
  hf0:H f=none
  nf:f∉frs outer
  hc:H c'=some (exO c' oc)
  hoc:Zp qual oc
  C:ClOkL N scope cl s.heap H vs
  nc:∀ x c,cl.lookup x=some c->c∉frs outer
  lo:LamOk params scope
end
theorem NT {K:PySem.W.Frag} {H:Hp} {a:Addr} {xs:List V} {σ0:St} {ps:List (V × V)} (h:SqL K H a xs) (hp:∀ i,i<xs.length->∃ b,xs.getD i .non= .ref b/\H b=some (.tup [(ps.getD i (.non, .non)).1,(ps.getD i (.non, .non)).2])) (h0:σ0[0]?=some none) (h1:σ0[1]?=some none):
    SrcOk (Itl K a) (JE K 2 (B0 (AM 0) (B0 (AM 1) JX))) σ0 H xs.length (λ i=>(σ0.set 0 (some (ps.getD i (.non, .non)).1)).set 1 (some (ps.getD i (.non, .non)).2)) where
  go:=λ i H' hi s=>⟨xs,xs[i],s.seq h,by simp [hi]⟩
  stop:=λ H' s=>⟨xs,s.seq h,Nat.le_refl _⟩
  yld:=λ i H' x H'' R hi s y k=>by
    obtain ⟨e,hv⟩:=y;subst e;have e:x=xs.getD i .non:=by
      have:=hv xs (s.seq h);rw [List.getD_eq_getElem?_getD,this];rfl
    subst e;obtain ⟨b,eb,hb⟩:=hp i hi;rw [eb];exact ⟨b,_,rfl,SqT.of (s _ _ hb),rfl,_,_,rfl,_,_,rfl,rfl,k _ (Same.refl _)⟩
  kp:=λ i hi=>((Kp.refl _).set h0).set h1
def bar (T:Addr) (H:Hp):Hp:=λ b=>if b=T then none else H b
theorem Hb {T:Addr} {H:Hp}:Same (bar T H) H:=λ b o e=>by
  by_cases hb:b=T
  · have e':=(if_pos hb).symm.trans e;cases e'
  · exact (if_neg hb).symm.trans e
end L2
namespace L2
open PySem PySem.Spec PyProof.Rows
section
variable {X:Cx} {K:PySem.W.Frag} {e lo st:Expr} {te tl ts:TE} {pos p2:Pos}
end
section
variable {J:It} {g:TG} {σ0:St} {H:Hp} {n:Nat} {st:Nat->St} {te:TE} {Q:VK} {D:Addr}
end
end L2
namespace HT
open PySem PySem.Spec PyProof.Rows PySem.W
def Rise (xs:Array Nat):Prop:=xs.toList.Pairwise (· < ·)
theorem Rise.at {xs:Array Nat} (h:Rise xs) {i j:Nat} (hij:i<j) (hj:j<xs.size):xs.getD i 0<xs.getD j 0:=by
  have:=List.pairwise_iff_getElem.mp h i j (by simpa using Nat.lt_trans hij hj) (by simpa using hj) hij;simpa [Array.getD,hj,Nat.lt_trans hij hj] using this
theorem Hk {xs:Array Nat} {j:Nat}:∀ (f lo hi:Nat),hi - lo<=f->lo<=hi->hi<=xs.size->Rise xs->(∀ i,i<lo->xs.getD i 0<j)->(∀ i,hi<=i->i<xs.size->j<=xs.getD i 0)->
    SetTable.below.go xs j f lo hi<=xs.size/\(∀ i,i<SetTable.below.go xs j f lo hi->xs.getD i 0<j)/\∀ i,SetTable.below.go xs j f lo hi<=i->i<xs.size->j<=xs.getD i 0
  | 0,lo,hi,hf,hl,hs,r,a,b=>by
    have e:lo=hi:=by omega
    subst e;unfold SetTable.below.go;exact ⟨hs,a,b⟩
  | f+1,lo,hi,hf,hl,hs,r,a,b=>by
    unfold SetTable.below.go;by_cases c:lo<hi
    · rw [if_pos c];dsimp only;have m1:(lo+hi) / 2<hi:=by omega
      have m2:lo<=(lo+hi) / 2:=by omega
      have e:xs.getD ((lo+hi) / 2) j=xs.getD ((lo+hi) / 2) 0:=by
        have:(lo+hi) / 2<xs.size:=by omega
        simp [Array.getD,this]
      rw [e];by_cases d:xs.getD ((lo+hi) / 2) 0<j
      · rw [if_pos d];refine Hk f _ _ (by omega) (by omega) hs r (λ i hi'=> ?_) b;rcases Nat.lt_or_ge i ((lo+hi) / 2) with z | z
        · exact Nat.lt_trans (r.at z (by omega)) d
        · have:i=(lo+hi) / 2:=by omega
          rw [this];exact d
      · rw [if_neg d];refine Hk f _ _ (by omega) (by omega) (by omega) r a (λ i hi' hz=> ?_);rcases Nat.eq_or_lt_of_le hi' with z | z
        · rw [<-z];omega
        · have:=r.at z hz;omega
    · rw [if_neg c];have e:lo=hi:=by omega
      subst e;exact ⟨hs,a,b⟩
theorem ON {xs:Array Nat} {j:Nat} (r:Rise xs):SetTable.below xs j<=xs.size/\(∀ i,i<SetTable.below xs j->xs.getD i 0<j)/\∀ i,SetTable.below xs j<=i->i<xs.size->j<=xs.getD i 0:=
  Hk _ _ _ (by omega) (Nat.zero_le _) (Nat.le_refl _) r (λ i h=>absurd h (Nat.not_lt_zero _)) (λ i h z=>absurd z (by omega))
theorem P4 {xs:Array Nat} {j:Nat} (r:Rise xs) (h:xs[SetTable.below xs j]?≠some j):Rise (SetTable.insertAt xs (SetTable.below xs j) j):=by
  obtain ⟨s,a,b⟩:=ON (j:=j) r;generalize SetTable.below xs j=p at*;unfold Rise;rw [SetTable.toList_insertAt];have lt1:∀ x∈xs.toList.take p,x<j:=λ x hx=>by
    obtain ⟨i,hi,rfl⟩:=List.mem_iff_getElem.mp hx;rw [List.length_take,Array.length_toList] at hi;have:=a i (by omega);have hi':i<xs.size:=by omega
    simpa [Array.getD,hi'] using this
  have lt2:∀ x∈xs.toList.drop p,j<x:=λ x hx=>by
    obtain ⟨i,hi,rfl⟩:=List.mem_iff_getElem.mp hx;rw [List.length_drop,Array.length_toList] at hi;have hi':p+i<xs.size:=by omega
    have:=b (p+i) (by omega) hi';rw [List.getElem_drop];have e:xs.getD (p+i) 0=xs.toList[p+i]'(by simpa using hi'):=by simp [Array.getD,hi']
    rw [<-e];rcases Nat.eq_zero_or_pos i with z | z
    · subst z;have hne:xs.getD p 0≠j:=λ q=>h (by
        have hp:p<xs.size:=by omega
        rw [Array.getElem?_eq_getElem hp];simpa [Array.getD,hp] using q)
      have hne':xs.getD (p+0) 0≠j:=hne;omega
    · have:=r.at (show p<p+i by omega) hi';have h0:=b p (Nat.le_refl _) (by omega);omega
  rw [List.pairwise_append];refine ⟨List.Pairwise.sublist (List.take_sublist ..) r,?_,λ x hx y hy=> ?_⟩
  · rw [List.pairwise_cons];exact ⟨lt2,List.Pairwise.sublist (List.drop_sublist ..) r⟩
  · rcases List.mem_cons.mp hy with rfl | hy
    · exact lt1 x hx
    · exact Nat.lt_trans (lt1 x hx) (lt2 y hy)
structure TOk (L:Bool) (t:SetTable):Prop where
  rise:Rise t.place
  dum:t.dummies= #[]
  led:t.led=L
theorem KS {j:Nat}:SetTable.has #[] j=false:=by
  simp [SetTable.has]
theorem Kz {t:SetTable} {f:Nat->Int} {h:Int} (hd:t.dummies= #[]):∀ (n:Nat) (p:SetTable.Probe) (j:Nat) (d:Option Nat),p.dummy=none->SetTable.probe.go t f h n p=some (.empty j d)->d=none/\t.slot j= .empty
  | 0,p,j,d,_,e=>by unfold SetTable.probe.go at e;cases e
  | n+1,p,j,d,hp,e=>by
    unfold SetTable.probe.go at e;cases hs:t.slot p.j with
    | empty=>
      rw [hs] at e;simp only [Option.some.injEq,SetTable.Met.empty.injEq] at e;exact ⟨e.2▸hp,e.1▸hs⟩
    | dummy=>
      unfold SetTable.slot at hs;rw [hd,KS] at hs;dsimp only at hs;split at hs
      · cases hs
      · cases hs
    | live i=>
      rw [hs] at e;dsimp only at e;split at e
      · cases e
      · refine Kz hd n _ j d ?_ e;unfold SetTable.advance;split
        · exact hp
        · exact hp
theorem Nj {t:SetTable} {h:Int} {j:Nat} {b:Bool} (hd:t.dummies= #[]) (e:t.freeSlot h=some (j,b)):t.place[SetTable.below t.place j]?≠some j:=by
  unfold SetTable.freeSlot at e;split at e
  · rename_i j' d heq
    unfold SetTable.probe at heq;obtain ⟨rfl,hs⟩:=Kz hd _ _ _ _ rfl heq;simp only [Option.some.injEq,Prod.mk.injEq,Option.getD_none] at e;obtain ⟨rfl,_⟩:=e;intro q;unfold SetTable.slot at hs;dsimp only at hs;rw [q] at hs;simp at hs
  · cases e
theorem Ea {L:Bool} {t:SetTable} (h:TOk L t) (n:Nat):TOk L (t.standIn n) where
  rise:=by
    unfold Rise SetTable.standIn;simpa using List.pairwise_lt_range
  dum:=rfl
  led:=h.led
theorem RM {L:Bool} {t:SetTable} (h:TOk L t) (es:Array (Int × Value)) (hh:Int) (x:Value):TOk L (layNew t es hh x).2.1:=by
  unfold layNew;split
  · rename_i slot wd heq
    dsimp only;have k:TOk L (t.put slot).1:=⟨P4 h.rise (Nj h.dum heq),by
      unfold SetTable.put;dsimp only;rw [h.dum,KS];rfl,h.led⟩
    unfold SetTable.orStandIn;split
    · exact k
    · exact Ea k _
  · exact Ea h _
theorem Np {L:Bool} {t:SetTable} (h:TOk L t) (es:Array (Int × Value)) (n:Nat):TOk L (relayAll t es n).2.1:=by
  unfold relayAll;split
  · rename_i t' order heq
    dsimp only;split
    · unfold SetTable.relaid SetTable.laid at heq;simp only [Option.bind_eq_bind,Option.bind_eq_some_iff,Option.pure_def,Option.some.injEq,Prod.mk.injEq] at heq;obtain ⟨owner,_,rfl,_⟩:=heq;refine ⟨?_,rfl,h.led⟩;unfold Rise;simp only [List.map_filterMap];refine List.Pairwise.filterMap _ ?_ List.pairwise_lt_range;intro a a' r b hb b' hb';simp only [Option.map_map,Function.comp_def,Option.map_eq_some_iff] at hb hb';obtain ⟨_,_,rfl⟩:=hb;obtain ⟨_,_,rfl⟩:=hb';exact r
    · exact Ea h _
  · exact Ea h _
theorem NC (L:Bool):TOk L (.fresh 0 0 L):=⟨by unfold Rise SetTable.fresh;exact .nil,rfl,rfl⟩
def kOf (e:Int × Value):Int:=match e.2 with
  | .int k _=>k
  | _=>0
section
variable {prog:Program} {w:World} {A:Around} {E:Value->Shared->Prop} {s:Shared}
def WSet (prog:Program) (w:World) (a:Addr) (ks:List Int) (h:Heap):Prop:=∃ o es ep t,h.get? a=some o/\o.ExactSet/\o.data= .set es ep t/\ElemsOf (intKind prog w) es.toList/\(es.toList.map kOf).Perm ks/\ks.Nodup/\es.size<scanBound/\t.fits es.size=true/\TOk (!w.params.followText "set-order") t
theorem WSet.to {a:Addr} {ks:List Int} {h h':Heap} (x:WSet prog w a ks h) (k:∀ o,h.get? a=some o->h'.get? a=some o):WSet prog w a ks h':=by
  obtain ⟨o,es,ep,t,ho,r⟩:=x;exact ⟨o,es,ep,t,k _ ho,r⟩
theorem WSet.len {a:Addr} {ks:List Int} {h:Heap} (x:WSet prog w a ks h):ks.length<scanBound:=by
  obtain ⟨o,es,ep,t,_,_,_,_,p,_,b,_⟩:=x;rw [<-p.length_eq,List.length_map,Array.length_toList];exact b
theorem EZ {es:List (Int × Value)} (h:ElemsOf (intKind prog w) es) {e:Int × Value} (he:e∈es):∃ k t,e.2= .int k t/\kOf e=k:=by
  obtain ⟨⟨k,hk,_⟩,_⟩:=h e he;obtain ⟨t,ht⟩:=Value.isInt_shape hk;exact ⟨k,t,ht,by unfold kOf;rw [ht]⟩
theorem PY {a:Addr} {ks:List Int} {k:Int} {t:Tok} {Q:Bool->Shared->Prop} (hS:WSet prog w a ks s.heap) (room:ks.length+1<scanBound)
    (h:∀ h' b,Heap.SameBut a s.heap h'->WSet prog w a (if k∈ks then ks else ks++[k]) h'->Q b { s with heap:=h' }):
    wpAny (model prog w) A (setAddHashed a (.int k t) (hashInt k)) Q E s:=by
  obtain ⟨o,es,ep,tb,ho,hex,hd,hel,pm,nd,hb,hf,tk⟩:=hS;have hlen:es.size=ks.length:=by rw [<-pm.length_eq,List.length_map,Array.length_toList]
  unfold setAddHashed setAddHashedIn;refine wpAny_holding (wpAny_bind (wpAny_setState_of ho hd hf ?_));dsimp only;rw [byScan_of (knd:=intKind prog w) (show (Value.int k t).scannable=true from rfl) hb hel];simp only [↓reduceIte];unfold setAddByScan;refine wpAny_bind (wpAny_bind (wpAny_rule (wpAny_bind (wpAny_setScan_of (knd:=intKind prog w) (k:=k) (intKind_is _ _ _ _) ho hd hf hel ?_))));cases hr:List.findIdx? (λ e=>(intKind prog w).is k e.2) es.toList with
  | some j=>
    dsimp only;obtain ⟨hj,hpj,_⟩:=List.findIdx?_eq_some_iff_getElem.mp hr;have hm:k∈ks:=by
      obtain ⟨t',ht⟩:=Value.isInt_shape hpj;refine pm.mem_iff.mp (List.mem_map.mpr ⟨_,List.getElem_mem hj,?_⟩);unfold kOf;rw [ht]
    refine wpAny_pure (wpAny_pure ?_);have:=h s.heap false (Heap.SameBut.refl a s.heap) (by rw [if_pos hm];exact ⟨o,es,ep,tb,ho,hex,hd,hel,pm,nd,hb,hf,tk⟩);exact this
  | none=>
    dsimp only;have hn:k∉ks:=λ hm=>by
      obtain ⟨e,he,ek⟩:=List.mem_map.mp (pm.mem_iff.mpr hm);obtain ⟨k',t',e2,e3⟩:=EZ hel he;have:=List.findIdx?_eq_none_iff.mp hr e he;rw [e2,show k'=k from e3.symm.trans ek] at this;rw [show (intKind prog w).is k (.int k t')=true from intKind_is _ _ _ _] at this;cases this
    have hperm:=layNew_perm tb es (hashInt k) (.int k t);have hfits:=layNew_fits tb es (hashInt k) (.int k t);have htok:=RM tk es (hashInt k) (.int k t);generalize layNew tb es (hashInt k) (.int k t)=L at hperm hfits htok ⊢;obtain ⟨es1,t1,wd,gave⟩:=L;dsimp only at hperm hfits htok ⊢;rw [Array.toList_push] at hperm;have hel1:ElemsOf (intKind prog w) es1.toList:=(hel.push (k:=k) (intKind_is _ _ _ _) rfl).perm hperm;have hs1:es1.size=es.size+1:=by rw [<-Array.length_toList,hperm.length_eq,List.length_append,Array.length_toList];rfl
    have hb1:es1.size<scanBound:=by omega
    have pm1:(es1.toList.map kOf).Perm (ks++[k]):=(hperm.map kOf).trans (by
      rw [List.map_append];exact List.Perm.append pm (List.Perm.refl _))
    have nd1:(ks++[k]).Nodup:=List.nodup_append.mpr ⟨nd,by simp,λ x hx y hy=>by
      rw [List.mem_singleton.mp hy];intro z;exact hn (z▸hx)⟩
    have gw:∀ (b:Bool) (s₁:Shared) (Q':Unit->Shared->Prop),Q' () s₁->wpAny (model prog w) A (match b with | true=>rule "set.scan.the-table-gave-way" | false=>pure ()) Q' E s₁:=
      λ b s₁ Q' hq=>by cases b <;> first | exact wpAny_pure hq | exact wpAny_rule hq
    refine wpAny_bind (gw gave s _ ?_);have tail:∀ t2:SetTable,t2.fits es1.size=true->TOk (!w.params.followText "set-order") t2->wpAny (model prog w) A (do
        storeSet a es1 t2
        if (!wd&&t2.tooFull)=true then do
            (match (relayAll t2 es1 (SetTable.grown es1.size)).2.2 with | true=>rule "set.scan.the-table-gave-way" | false=>pure ())
            storeSet a (relayAll t2 es1 (SetTable.grown es1.size)).1 (relayAll t2 es1 (SetTable.grown es1.size)).2.1
            pure (some true)
          else pure (some true)) (λ r s'=>∃ h' b,r=some b/\s'={ s with heap:=h' }/\Q b s') E s:=by
      intro t2 f2 k2;refine wpAny_bind (wpAny_storeSet_of ho hd ?_ (fits_of_scanBound hb1));have g1:(s.heap.update a (Obj.putSet es1 t2)).get? a=some { o with data:= .set es1 (ep+1) t2 }:=by
        have z:=Heap.get?_update_self (Obj.putSet es1 t2) ho (by rw [putSet_of es1 t2 hd];rfl)
        rwa [putSet_of es1 t2 hd] at z
      have sb1:=Heap.SameBut.update s.heap a (Obj.putSet es1 t2);split
      · have hp:=relayAll_perm t2 es1 (SetTable.grown es1.size);have hfr:=relayAll_fits t2 es1 (SetTable.grown es1.size);have k3:=Np k2 es1 (SetTable.grown es1.size);generalize relayAll t2 es1 (SetTable.grown es1.size)=Rl at hp hfr k3 ⊢;obtain ⟨es2,t3,gave2⟩:=Rl;dsimp only at hp hfr k3 ⊢;have hs2:es2.size=es1.size:=by rw [<-Array.length_toList,hp.length_eq,Array.length_toList]
        refine wpAny_bind (gw gave2 _ _ ?_);refine wpAny_bind (wpAny_storeSet_of g1 rfl ?_ (fits_of_scanBound (by rw [hs2];exact hb1)));refine wpAny_pure ⟨_,true,rfl,rfl,h _ true (sb1.trans (Heap.SameBut.update _ a _)) ?_⟩;rw [if_neg hn];refine ⟨{ o with data:= .set es2 (ep+1+1) t3 },es2,ep+1+1,t3,?_,hex,rfl,hel1.perm hp,(hp.map kOf).trans pm1,nd1,by rw [hs2];exact hb1,hfr,k3⟩;have z:=Heap.get?_update_self (Obj.putSet es2 t3) g1 (by rw [putSet_of es2 t3 rfl];rfl)
        rwa [putSet_of es2 t3 rfl] at z
      · refine wpAny_pure ⟨_,true,rfl,rfl,h _ true sb1 ?_⟩;rw [if_neg hn];exact ⟨_,es1,ep+1,t2,g1,hex,rfl,hel1,pm1,nd1,hb1,f2,k2⟩
    split
    · refine wpAny_bind ?_;rw [hashByValue_scannable 8 (show (Value.int k t).scannable=true from rfl)];refine wpAny_pure ?_;refine wpAny_mono (tail _ hfits htok) (λ r s' ⟨h',b,e1,e2,q⟩=> ?_) λ _ _ e=>e;subst e1;exact wpAny_pure q
    · refine wpAny_bind (wpAny_pure ?_);simp only [↓reduceIte];refine wpAny_mono (tail _ hfits htok) (λ r s' ⟨h',b,e1,e2,q⟩=> ?_) λ _ _ e=>e;subst e1;exact wpAny_pure q
def addK (ks:List Int) (k:Int):List Int:=if k∈ks then ks else ks++[k]
def metK (ns:List Int):List Int:=ns.foldl addK []
theorem Qj (ks:List Int) (k:Int):(addK ks k).length<=ks.length+1:=by
  unfold addK;split
  · omega
  · simp
theorem Iy:∀ (ns ks:List Int),(ns.foldl addK ks).length<=ks.length+ns.length
  | [],ks=>Nat.le_refl _
  | n::ns,ks=>by
    have h1:=Iy ns (addK ks n);have h2:=Qj ks n;simp only [List.foldl_cons,List.length_cons];omega
theorem IV:∀ (ns ks:List Int) (k:Int),k∈ns.foldl addK ks↔k∈ks\/k∈ns
  | [],ks,k=>by simp
  | n::ns,ks,k=>by
    rw [List.foldl_cons,IV ns];unfold addK;split
    · rename_i h
      simp only [List.mem_cons];exact ⟨λ z=>z.imp id .inr,λ z=>z.elim .inl λ z=>z.elim (λ e=> .inl (e▸h)) .inr⟩
    · simp only [List.mem_cons,List.mem_append,List.mem_singleton,List.not_mem_nil,or_false];exact or_assoc
theorem metK_mem (ns:List Int) (k:Int):k∈metK ns↔k∈ns:=by unfold metK;rw [IV];simp
theorem OR {I:Addr} {fp wr:List Addr} {G:Array GenState->Array GenState->Prop} {n:Nat} {P:Nat->Value->Prop} {St:Nat->Shared->Prop} {R:Result->Shared->Prop} (W:WalksS prog w A.in1 I fp wr G n P St) (S:Addr) (hSf:S∉fp)
    (ns:List Int) (hnl:ns.length=n) (hval:∀ i v,P i v->∃ t,v= .int (ns.getD i 0) t) (hb:n+1<scanBound):∀ (k i:Nat) (s:Shared),n - i=k->i<=n->St i s->WSet prog w S (metK (ns.take i)) s.heap->
      (∀ s',Moved (S::wr) G s s'->WSet prog w S (metK ns) s'.heap->R (.ok (.ret .none)) s')->codeAny (model prog w) A (.builtin "set.update.loop" ⟨[.ref S, .ref I],[]⟩) R s:=by
  have hSw:S∉wr:=λ h=>hSf (W.sub _ h);have hsub:∀ b∈wr,b∈S::wr:=λ b hb=>List.mem_cons_of_mem _ hb;intro k
  induction k with
  | zero=>
    intro i s hk hi hst hS hR;have hin:i=n:=by omega
    subst hin;refine codeAny_builtin PyProof.Rows.F.entry_set_update_loop ?_;rw [Around.under_plainId PyProof.Rows.F.plain_set_update_loop _];show wpAny _ A.in1 (pyNext (.ref I) >>= _) _ _ s;refine wpAny_bind (W.done s _ _ hst λ s' hm=> ?_);rw [<-hnl,List.take_length] at hS;exact wpAny_pure (hR s' (hm.mono hsub) (hS.to λ o e=>hm.heap S o hSw e))
  | succ k ih=>
    intro i s hk hi hst hS hR;have hlt:i<n:=by omega
    refine codeAny_builtin PyProof.Rows.F.entry_set_update_loop ?_;rw [Around.under_plainId PyProof.Rows.F.plain_set_update_loop _];show wpAny _ A.in1 (pyNext (.ref I) >>= _) _ _ s;refine wpAny_bind (W.item i s _ _ hlt hst λ v s' hP hst' hm=> ?_);obtain ⟨t,rfl⟩:=hval i v hP;show wpAny _ A.in1 (holding [Value.int (ns.getD i 0) t] (setAdd S (.int (ns.getD i 0) t)) >>= _) _ _ s';refine wpAny_bind (wpAny_holding ?_);unfold setAdd;refine wpAny_holding (wpAny_bind ((intKind prog w).pyHash (k:=ns.getD i 0) (intKind_is _ _ _ _) ?_));have room:(metK (ns.take i)).length+1<scanBound:=by
      have:=Iy (ns.take i) [];unfold metK;rw [List.length_take] at this;simp only [List.length_nil] at this;omega
    refine PY (s:={ s' with toks:=s'.toks+1 }) (hS.to λ o e=>hm.heap S o hSw e) room λ h' b hsb hS2=> ?_;have e:ns.take (i+1)=ns.take i++[ns.getD i 0]:=by
      rw [List.take_add_one,List.getElem?_eq_getElem (by omega),List.getD_eq_getElem?_getD,List.getElem?_eq_getElem (by omega)];rfl
    have hSi:WSet prog w S (metK (ns.take (i+1))) h':=by
      unfold metK;rw [e,List.foldl_append];exact hS2
    refine wpAny_pure ⟨plainId_quiet PyProof.Rows.F.plain_set_update_loop _,ih (i+1) _ (by omega) hlt (W.frame _ s' _ _ hst' (Nat.le_succ _) λ b hb o e=> ?_) hSi λ s'' hm'' hS''=> ?_⟩
    · exact (hsb.2 b (λ h:b=S=>hSf (h▸hb))).trans e
    · exact hR s'' (Moved.trans W.gtrans ((hm.mono hsub).then_heap (Nat.le_succ _) λ b o hb e=>(hsb.2 b (λ h:b=S=>hb (h▸List.mem_cons_self))).trans e) hm'') hS''
theorem PH (a:Value) {Q₁:Value->Shared->Prop} (h:Q₁ (.ref s.heap.objs.size) { s with heap:=s.heap.push { cls:= .type "set",dict:=none,data:= .set #[] 0 (.fresh 0 0 (!w.params.followText "set-order")) } }):
    codeAny (model prog w) A (.call (.builtin "set.__new__") ⟨[.type "set",a],[]⟩) (wants Q₁ E) s:=by
  refine codeAny_of_tree ?_;show wpAny _ A.in1 (checkBuiltinCall "set.__new__" ⟨[.type "set",a],[]⟩ >>= λ _=>again (.builtin "set.__new__" ⟨[.type "set",a],[]⟩)) _ _ s;refine wpAny_bind (wpAny_of_eq (PySem.F.newCall_set_1 a) (wpAny_pure ⟨plainId_quiet PySem.F.plain_set_new _,codeAny_builtin PySem.F.entry_set_new ?_⟩));rw [Around.under_plainId PySem.F.plain_set_new _];unfold Builtin.«set.__new__» Builtin.Frozenset.newClass;have hsub:=sub_set_self;obtain ⟨hp,g,d,tk,os⟩:=s;dsimp only
  wp_walk
  refine wpAny_askSetting (wpAny_pure ?_);dsimp only [newObj];exact wpAny_bind (wpAny_alloc (wpAny_pure (wpAny_pure h)))
theorem set_call {l:Addr} {items:Array Value} {ns:List Int} {Q:Value->Shared->Prop} (hh:A.handled=none) (hl:s.heap.IsList l items) (hi:IntsAre items.toList ns) (hb:items.size+1<scanBound)
    (h:∀ (h':Heap) (tk:Nat),WSet prog w s.heap.objs.size (metK ns) h'->(∀ b o,s.heap.get? b=some o->h'.get? b=some o)->Q (.ref s.heap.objs.size) { s with heap:=h',toks:=tk }):
    wpAny (model prog w) A (call (.type "set") [.ref l]) Q E s:=by
  obtain ⟨cH,tlH,mro'⟩:=PySem.F.called_set.mro;have made':=PySem.F.called_set.made;have sub':=PySem.F.called_set.sub;refine wpAny_call (codeAny_of_tree ?_);show wpAny _ _ (callAny (.type "set") _) _ _ _;refine wpAny_pure ⟨Code.quiet_builtin _ (by decide +kernel),codeAny_builtin PySem.F.entry_type_call ?_⟩;rw [Around.under_plain (weight_type_call_type "set" [.ref l] []) rfl];have n1:=PySem.F.called_set.notType;have n2:=PySem.F.called_set.canCreate;have n3:=PySem.F.typeCall_set_1 (.ref l)
  repeat (any_goals (first | assumption | wp_step))
  generalize hO:({ cls:= .type "set",dict:=none,data:= .set #[] 0 (.fresh 0 0 (!w.params.followText "set-order")) }:Obj)=O;refine codeAny_mono (PH (.ref l) (E:=E) (Q₁:=λ obj s₁=>obj= .ref s.heap.objs.size/\s₁={ s with heap:=s.heap.push O }) ⟨rfl,by rw [hO]⟩) λ r s₁ hr=> ?_;cases r with
  | error e=>exact hr
  | ok fl=>
    cases fl with
    | ret obj=>
      obtain ⟨rfl,rfl⟩:=hr;have hS:(s.heap.push O).get? s.heap.objs.size=some O:=Heap.get?_push_size _ (by rw [<-hO];rfl);have hT:Shared.TypeIs { s with heap:=s.heap.push O } (.ref s.heap.objs.size) "set":=⟨_,hS,by rw [<-hO]⟩;have i1:=PySem.F.called_set.init.lookup;have i2:=PySem.F.called_set.init.bind (.ref s.heap.objs.size)
      repeat (any_goals (first | assumption | wp_step))
      refine codeAny_mono (codeAny_call_builtin (R:=wants (λ r s₂=>r= .none/\∃ h' tk,s₂={ s with heap:=h',toks:=tk }/\WSet prog w s.heap.objs.size (metK ns) h'/\(∀ b o,s.heap.get? b=some o->h'.get? b=some o)) E) PySem.F.called_set.init.plain PySem.F.entry_set_init (check_set_init_1 hT ?_)) λ r₂ s₂ hr₂=> ?_
      · obtain ⟨ol,hol,hcl,nl,hdl⟩:=hl;obtain ⟨oc,od,oda,osl⟩:=ol;simp only at hcl hdl;subst hcl;subst hdl;have hol':(s.heap.push O).get? l=some { cls:= .type "list",dict:=od,data:= .seq items nl,slots:=osl }:=Heap.get?_push_of_some _ hol;have q1:=PySem.F.sub_list_set;have q2:=PySem.F.sub_list_frozenset;have q3:(Value.type "list" == Value.type "dict")=false:=by decide
        have hl1:(s.heap.push O).IsList l items:=⟨_,hol',rfl,nl,rfl⟩;have hS':(s.heap.push O).get? s.heap.objs.size=some { cls:= .type "set",dict:=none,data:= .set #[] 0 (.fresh 0 0 (!w.params.followText "set-order")) }:=by rw [hO];exact hS
        unfold Builtin.«set.__init__» noKeywords Builtin.Frozenset.updateFrom;generalize hPI:pyIter=PI
        wp_walk
        subst hPI;refine wpAny_pyIter_list hl1 ?_;refine wpAny_bind (wpAny_runValue ?_);have hlS:l<s.heap.objs.size:=Heap.lt_size hol;have neI:l≠(s.heap.push O).objs.size:=by
          rw [Heap.size_push];exact Nat.ne_of_lt (Nat.lt_succ_of_lt hlS)
        have hSf:s.heap.objs.size∉[(s.heap.push O).objs.size,l]:=by
          rw [Heap.size_push];simp only [List.mem_cons,List.not_mem_nil,or_false,not_or];exact ⟨Nat.ne_of_lt (Nat.lt_succ_self _),Nat.ne_of_gt hlS⟩
        have hnl:ns.length=items.size:=by rw [<-hi.length,Array.length_toList]
        refine OR ((Walks.list (show A.in1.in1.in1.handled=none by simp [hh]) _ l neI items).toS) s.heap.objs.size hSf ns hnl (λ i v hv=>PyProof.Rows.IntsAre.int_at hi i v (by rw [Array.getElem?_toList];exact hv)) hb (items.size - 0) 0 _ (by omega) (Nat.zero_le _)
          ⟨⟨_,Heap.get?_push_size _ rfl,rfl,rfl⟩,(hl1.push _)⟩ ?_ ?_
        · exact ⟨_, #[],0,_,Heap.get?_push_of_some _ hS',⟨rfl,rfl,rfl⟩,rfl,λ e he=>by simp at he, .nil, .nil,by decide,rfl,NC _⟩
        · intro s' hm hS2;obtain ⟨h',g',d',tk',os'⟩:=s';have eg:g'=s.gens:=hm.gens;have ed:d'=s.drawn:=hm.drawn;have eo:os'=s.os:=hm.os;subst eg;subst ed;subst eo;refine wpAny_pure (wpAny_pure ⟨rfl,h',tk',rfl,hS2,λ b o e=> ?_⟩);have hb0:=Heap.lt_size e;have hb2:b≠(s.heap.push O).objs.size:=by
            rw [Heap.size_push];exact Nat.ne_of_lt (Nat.lt_succ_of_lt hb0)
          exact hm.heap b o (by simp only [List.mem_cons,List.not_mem_nil,or_false,not_or];exact ⟨Nat.ne_of_lt hb0,hb2⟩) (Heap.get?_push_of_some _ (Heap.get?_push_of_some _ e))
      · cases r₂ with
        | error e=>exact hr₂
        | ok fl₂=>
          cases fl₂ with
          | ret r=>
            obtain ⟨rfl,h',tk,rfl,hS',hk'⟩:=hr₂
            repeat (any_goals (first | assumption | wp_step))
            exact h _ _ hS' hk'
          | _=>exact hr₂.elim
    | _=>exact hr.elim
structure RawS (a:Addr) (es:Array (Int × Value)) (ep:Nat) (t:SetTable) (h:Heap):Prop where
  at_:∃ o,h.get? a=some o/\o.ExactSet/\o.data= .set es ep t
  fits:t.fits es.size=true
theorem RawS.to {a:Addr} {es:Array (Int × Value)} {ep:Nat} {t:SetTable} {h h':Heap} (x:RawS a es ep t h) (k:∀ o,h.get? a=some o->h'.get? a=some o):RawS a es ep t h':=by
  obtain ⟨⟨o,ho,r⟩,f⟩:=x;exact ⟨⟨o,k _ ho,r⟩,f⟩
theorem RawS.type {a:Addr} {es:Array (Int × Value)} {ep:Nat} {t:SetTable} (x:RawS a es ep t s.heap):s.TypeIs (.ref a) "set":=by
  obtain ⟨⟨o,ho,hx,_⟩,_⟩:=x;exact ⟨_,ho,hx.1⟩
theorem RawS.state {a:Addr} {es:Array (Int × Value)} {ep:Nat} {t:SetTable} {Q:(Array (Int × Value) × Nat × SetTable)->Shared->Prop} (x:RawS a es ep t s.heap) (h:Q (es,ep,t) s):wpAny (model prog w) A (setState a) Q E s:=by
  obtain ⟨⟨o,ho,hx,hd⟩,f⟩:=x;exact wpAny_setState_of ho hd f h
def SIt (I:Addr) (first:Value) (i:Nat) (a:Addr) (n ep:Nat) (h:Heap):Prop:=∃ o,h.get? I=some o/\o.cls= .type "set_iterator"/\o.data= .fields #[first, .int i 0, .ref a, .int n 0, .int ep 0]
theorem SIt.to {I:Addr} {first:Value} {i:Nat} {a:Addr} {n ep:Nat} {h h':Heap} (x:SIt I first i a n ep h) (k:∀ o,h.get? I=some o->h'.get? I=some o):SIt I first i a n ep h':=by
  obtain ⟨o,ho,r⟩:=x;exact ⟨o,k _ ho,r⟩
theorem SIt.type {I:Addr} {first:Value} {i:Nat} {a:Addr} {n ep:Nat} (x:SIt I first i a n ep s.heap):s.TypeIs (.ref I) "set_iterator":=by
  obtain ⟨o,ho,hc,_⟩:=x;exact ⟨_,ho,hc⟩
end
theorem EF {α:Type}:∀ (l:List α) (i:Nat) (h:i<l.length),(l[i]::l.eraseIdx i).Perm l
  | [],i,h=>absurd h (Nat.not_lt_zero _)
  | x::l,0,h=>List.Perm.refl _
  | x::l,i+1,h=>by
    simp only [List.getElem_cons_succ,List.eraseIdx_cons_succ];exact (List.Perm.swap ..).trans (List.Perm.cons _ (EF l i (by simpa using h)))
theorem Mf {α:Type} (next:Nat->Nat):∀ (f k:Nat) (left:List α) (out:Array α),left.length=f->(pickOrder.go next f k left out).toList.Perm (out.toList++left)
  | 0,k,left,out,h=>by
    unfold pickOrder.go;rw [List.length_eq_zero_iff.mp h,List.append_nil]
  | f+1,k,left,out,h=>by
    unfold pickOrder.go;have hl:next k%left.length<left.length:=Nat.mod_lt _ (by omega);rw [List.getElem?_eq_getElem hl];dsimp only;refine (Mf next f _ _ _ (by rw [List.length_eraseIdx,if_pos hl];omega)).trans ?_;rw [Array.toList_push,List.append_assoc];refine List.Perm.append (List.Perm.refl _) ?_;exact (EF _ _ hl)
theorem Ir {α:Type} (next:Nat->Nat) (xs:Array α):(pickOrder next xs).toList.Perm xs.toList:=by
  have:=Mf next xs.size 0 xs.toList #[] (by simp);simpa [pickOrder] using this
section
variable {prog:Program} {w:World} {A:Around} {E:Value->Shared->Prop} {s:Shared}
theorem M5 {src:Source} {n:Nat} {Q:Nat->Shared->Prop} (hn:n≠0) (h:∀ i d,i<n->Q i { s with drawn:=d }):wpAny (model prog w) A (choose src n) Q E s:=
  λ _ _ _=>⟨hn,h _ _ (Nat.mod_lt _ (Nat.pos_of_ne_zero hn))⟩
theorem Mt {α:Type}:∀ (n:Nat) (xs:List α) (s:Shared) {Q:List α->Shared->Prop},xs.length<=n->(∀ ys d,ys.Perm xs->Q ys { s with drawn:=d })->wpAny (model prog w) A (drawOrder n xs) Q E s
  | 0,xs,s,Q,hl,h=>by
    unfold drawOrder;have:=h [] s.drawn (by rw [List.length_eq_zero_iff.mp (Nat.le_zero.mp hl)]);exact wpAny_pure this
  | n+1,[],s,Q,hl,h=>by
    unfold drawOrder;have:=h [] s.drawn (List.Perm.refl _);exact wpAny_pure this
  | n+1,x::xs,s,Q,hl,h=>by
    unfold drawOrder;refine wpAny_bind (M5 (by simp) λ i d hi=> ?_);rw [List.getElem?_eq_getElem hi];dsimp only;refine wpAny_bind (Mt n _ _ (by rw [List.length_eraseIdx,if_pos hi];simp only [List.length_cons] at hl ⊢;omega) λ ys d' p=> ?_);exact wpAny_pure (h _ d' ((List.Perm.cons _ p).trans (EF _ _ hi)))
abbrev bt (w:World):Bool:=w.params.followText "set-order"
end
end HT
namespace L2
open PySem PySem.Spec PyProof.Rows PySem.W
def Sz (X:Cx):List V->Hp->VK->Prop:=λ xs H Q=>∃ (p:Addr) (ns:List Int),xs=[.ref p]/\SqL X.K H p (ns.map V.int)/\ns.length<1000/\∀ l,H l=none->Q (.ref l) (upd H l (.ext (HT.WSet X.prog X.w l (HT.metK ns))))
theorem Lg {X:Cx} (hc:X.calm=true):AU X (.type "set") (Sz X):=by
  intro pins s σ H xs us Q I r h;obtain ⟨p,ns,rfl,hq,hl,q⟩:=h;obtain ⟨u,rfl,rx⟩:=Cg r;cases rx;obtain ⟨its,r',pl,hz⟩:=I.list hq;have hlen:its.length=ns.length:=by have:=r'.length;simpa using this.symm
  refine HT.set_call (ns:=ns) (I.ok.hd hc) pl.isList (C2 r') (by rw [List.size_toArray];show its.length+1<4096;omega) λ h' tk W k=> ?_;refine ⟨.ref s.heap.objs.size,_,I.laid (t':=tk) k (Nat.le_refl _) ?_,rfl,q _ (I.hok.fresh (Nat.le_refl _))⟩;refine ⟨W,?_,λ h1 h2 w1 k1=>w1.to k1⟩;obtain ⟨o,_,_,_,ho,_⟩:=W;exact ⟨o,ho⟩
theorem Inv.drew {X:Cx} {pins:List (Addr × Obj)} {σ:St} {H:Hp} {s:Shared} (I:Inv X pins σ H s) (d:Drawn):Inv X pins σ H { s with drawn:=d }:=
  ⟨I.ok,I.os,I.bare,I.base,I.loc,I.cell,I.free,I.freeC,I.pin,I.hok,I.len⟩
theorem Jo {X:Cx} {K:PySem.W.Frag} {H:Hp} {Q:VK} {p:Addr} {ns:List Int} (hK:X.K=K) (c:SqL K H p (ns.map V.int)) (n:ns.length<1000) (h:∀ l,H l=none->Q (.ref l) (upd H l (.ext (HT.WSet X.prog X.w l (HT.metK ns))))):Sz X [.ref p] H Q:=by
  subst hK;exact ⟨p,ns,rfl,c,n,h⟩
end L2
namespace L2
open PySem PySem.Spec PyProof.Rows
theorem Ek (f:Nat->Int):∀ n,argBest (λ i j=>decide (f i<f j)) n<=n/\∀ i,i<=n->f (argBest (λ i j=>decide (f i<f j)) n)<=f i
  | 0=>⟨by simp [argBest],λ i hi=>by simp [argBest];rw [Nat.le_zero.mp hi];exact Int.le_refl _⟩
  | n+1=>by
    obtain ⟨h1,h2⟩:=Ek f n;unfold argBest;by_cases c:f (n+1)<f (argBest (λ i j=>decide (f i<f j)) n)
    · rw [if_pos (decide_eq_true c)];refine ⟨Nat.le_refl _,λ i hi=> ?_⟩;rcases Nat.lt_or_ge i (n+1) with z | z
      · have:=h2 i (by omega);omega
      · rw [show i=n+1 by omega];exact Int.le_refl _
    · rw [if_neg (by simpa using c)];refine ⟨by omega,λ i hi=> ?_⟩;rcases Nat.lt_or_ge i (n+1) with z | z
      · exact h2 i (by omega)
      · rw [show i=n+1 by omega];omega
def Se (K:PySem.W.Frag):List V->Hp->VK->Prop:=λ xs H Q=>∃ (p:Addr) (ns:List Int),xs=[.ref p]/\SqL K H p (ns.map V.int)/\ns≠[]/\∀ M,M∈ns->(∀ a∈ns,M<=a)->Q (.int M) H
def Wv (K:PySem.W.Frag):List V->Hp->VK->Prop:=λ xs H Q=>∃ (p:Addr) (bs:List Bool),xs=[.ref p]/\SqL K H p (bs.map V.bl)/\Q (.bl (bs.any id)) H
section
variable {X:Cx} {K:PySem.W.Frag}
theorem SL (hK:X.K=K:=by rfl) (hc:X.calm=true:=by rfl):AU X (.builtin "min") (Se K):=by
  subst hK;intro pins s σ H xs us Q I r h;obtain ⟨p,ns,rfl,hq,hn,q⟩:=h;obtain ⟨u,rfl,rx⟩:=Cg r;cases rx;obtain ⟨its,rv,pl,_⟩:=I.list hq;obtain ⟨ps,e⟩:=(IntsAre.allInts (C2 rv)).items;have e':its=ps.toList.map λ p=>Value.int p.1 p.2:=by
    have:=congrArg Array.toList e;simpa [intItems] using this
  have hl:=pl.isList;rw [e] at hl;have ef:ps.toList.map (·.1)=ns:=Ci (ns:=ns) (l:=ps.toList) (by rw [<-e'];exact rv);have hsz:ps.size=ns.length:=by rw [<-ef];simp
  have hpos:0<ns.length:=List.length_pos_iff.mpr hn;have na:∀ i,i<ps.size->numAt ps i=ns.getD i 0:=λ i hi=>by
    rw [<-ef];unfold numAt;simp [List.getD_eq_getElem?_getD,hi]
  refine min_intList (I.ok.hd hc) hl (by omega) λ v h' tk hv hk=> ?_;obtain ⟨b1,b2⟩:=Ek (numAt ps) (ps.size - 1);generalize argBest (λ i j=>decide (numAt ps i<numAt ps j)) (ps.size - 1)=k at hv b1 b2;have hk':k<ps.size:=by omega
  have ev:v=Value.int (numAt ps k) (ps[k]).2:=by
    unfold intItems at hv;simp [hk'] at hv;rw [<-hv];unfold numAt;simp [hk']
  subst ev;refine ⟨.int (numAt ps k),H,I.kept hk,⟨_,rfl⟩,q _ ?_ ?_⟩
  · rw [na k hk'];exact Au (by omega)
  · intro a ha;obtain ⟨i,hi,rfl⟩:=List.getElem_of_mem ha;have:=b2 i (by omega);rw [na i (by omega),Fq hi] at this;exact this
theorem MT (bs:List Bool):(List.range bs.length).any (λ i=>bs.getD i true)=bs.any id:=by
  rw [Bool.eq_iff_iff,List.any_eq_true,List.any_eq_true];constructor
  · rintro ⟨i,hi,h⟩;have hi:=List.mem_range.mp hi;refine ⟨bs[i],List.getElem_mem hi,?_⟩;rw [List.getD_eq_getElem?_getD,List.getElem?_eq_getElem hi] at h;exact h
  · rintro ⟨b,hb,h⟩;obtain ⟨i,hi,rfl⟩:=List.mem_iff_getElem.mp hb;refine ⟨i,List.mem_range.mpr hi,?_⟩;rw [List.getD_eq_getElem?_getD,List.getElem?_eq_getElem hi];exact h
theorem X7 (hK:X.K=K:=by rfl) (hc:X.calm=true:=by rfl):AU X (.builtin "any") (Wv K):=by
  subst hK;intro pins s σ H xs us Q I r h;obtain ⟨p,bs,rfl,hq,q⟩:=h;obtain ⟨u,rfl,rx⟩:=Cg r;cases rx;obtain ⟨its,rv,pl,_⟩:=I.list hq;have hl:=rv.length;rw [List.length_map] at hl;obtain ⟨o,ho,_⟩:=id pl.isList;have hne:p≠s.heap.objs.size:=Nat.ne_of_lt (Heap.lt_size ho);refine call_any_walk (wpAny_pyIter_list pl.isList ?_);refine ⟨s.heap.objs.size,_,_,_,_,_,λ i=>bs.getD i true,rfl,Walks.list (A:=X.A.in1) (I.ok.hd hc) _ p hne its.toArray,⟨⟨_,Heap.get?_push_size _ rfl,rfl,rfl⟩,pl.isList.at λ o e=>Heap.get?_push_of_some _ e⟩,?_,λ h' tk hk=> ?_⟩
  · intro i v s' Q' E' hv hQ';have hv:its[i]?=some v:=by simpa using hv
    have hi:i<bs.length:=by rw [hl];exact (List.getElem?_eq_some_iff.mp hv).1
    obtain ⟨u,hu,ru⟩:=rv.get (i:=i) (x:= .bl (bs.getD i true)) (by rw [List.getElem?_map,List.getD_eq_getElem?_getD,List.getElem?_eq_getElem hi];rfl);rw [hu] at hv;cases hv;cases ru;exact wpAny_truthy_bool hQ'
  · have e:its.toArray.size=bs.length:=by rw [List.size_toArray];exact hl.symm
    rw [e,MT];exact ⟨.bl _,H,I.kept λ b o e=>hk b o (λ z=>by simp at z;exact absurd (Heap.lt_size e) (by rw [z];exact Nat.lt_irrefl _)) (Heap.get?_push_of_some _ e),rfl,q⟩
end
theorem Q5 {K:PySem.W.Frag} {H:Hp} {Q:VK} {p:Addr} {ns:List Int} (c:SqL K H p (ns.map V.int)) (n:ns≠[]) (h:∀ M,M∈ns->(∀ a∈ns,M<=a)->Q (.int M) H):Se K [.ref p] H Q:=⟨p,ns,rfl,c,n,h⟩
theorem Tf {K:PySem.W.Frag} {H:Hp} {Q:VK} {p:Addr} {bs:List Bool} (c:SqL K H p (bs.map V.bl)) (h:Q (.bl (bs.any id)) H):Wv K [.ref p] H Q:=⟨p,bs,rfl,c,h⟩
end L2
namespace L2
open PySem PySem.Spec PyProof.Rows PySem.W
structure LamV (P:Program) (w:World) (K:PySem.W.Frag) (mg:Str->Option Value) (base:Heap) (k:Nat) (f:Addr) (sp:Sp):Prop where
  obj:FnAt f base
  run:∀ (A:Around) (outer:List Env) (s:Shared) (H:Hp) (u:Value) (v:V) (Q:VK),Room k A->Env0 P w K mg base A outer s H->RelV v u->sp [v] H Q E0->codeAny (model P w) A (.call (.ref f) ⟨[u],[]⟩) (CR CX0 outer P w H s Q E0) s
section
variable {P:Program} {w:World} {K:PySem.W.Frag} {mg:Str->Option Value} {base:Heap} {N:List Str} {qual x:Str} {scope:Scope} {f:Addr} {cd:Value} {cl:List (Str × Addr)} {A:Around} {outer:List Env} {s:Shared} {H:Hp} {E:XK}
end
end L2
namespace HT
open PySem PySem.Spec PyProof.Rows PySem.W PySem.Calls PySem.Builtin PySem.Builtin.ObjectAttr PySem.Builtin.Getset_descriptor
section
variable {prog:Program} {w:World} {A:Around} {E:Value->Shared->Prop} {s:Shared} {K:Frag} {a C dx:Addr} {o:Obj} {f:Str} {mA:Str->Option Value} {u:Value} {vs:Array Value}
theorem Qt {M:Model} (X:K.In s.heap) (hd:(clsIn K C).any (·.hasDict)=true) (he:s.heap.get? a=some o) (hc:o.cls= .ref C) (hf:o.data= .fields vs) (ho:o.dict=some dx) (hn:s.heap.Ns1 dx mA) (hu:mA f=some u):
    Looks M s.heap (inOwnDict f (.ref a)) (some u):=by
  obtain ⟨cd,hcd,hhd⟩:=any_some hd;obtain ⟨oc,od,dat,sl⟩:=o;dsimp only at hc hf ho;subst hc hf ho;have L1:Looks M s.heap (ObjectAttr.ownDict a) (some dx):=by
    unfold ObjectAttr.ownDict loadHead;refine (Looks.ld he).andThen ?_;unfold instanceDict;refine (Looks.ld he).andThen ?_;refine ((looks_clsIn X hcd).andThen ?_);rw [hhd];exact .now
  unfold inOwnDict inDict;refine L1.andThen ?_;exact λ A' Q' E' s' k q=>wpAny_nsGet ((hn.ns).keeps k) (by rw [hu];exact q)
theorem exc_attr {expr:Bool} {Q:Value->Shared->Prop} (k:ExcKind K C) (nf:findIn K (.ref C) f=some none) (X:K.In s.heap) (hd:(clsIn K C).any (·.hasDict)=true) (he:s.heap.get? a=some o) (hc:o.cls= .ref C) (hf:o.data= .fields vs) (ho:o.dict=some dx) (hn:s.heap.Ns1 dx mA) (hu:mA f=some u) (hho:handedIn u=true)
    (h:Q u { s with toks:=s.toks+1 }):wpAny (model prog w) A (getAttr (.ref a) f expr) Q E s:=by
  obtain ⟨hh,g,d,t,os⟩:=s;have x:ExcAt a C hh:=⟨o,he,hc⟩;have L0:=x.type (M:=model prog w);have L1:=looks_findIn (M:=model prog w) X k.ga;have L2:=looks_findIn (M:=model prog w) X k.ng;have L3:Looks (model prog w) hh (find (.ref a) (.ref C) f) (.value u):=by
    unfold find;refine (looks_findIn X nf).andThen ?_;refine Looks.andThen (a:=none) .now (Looks.andThen (a:=none) .now ?_);unfold ownThenClass;exact (Qt (s:=⟨hh,g,d,t,os⟩) X hd he hc hf ho hn hu).andThen (Looks.tag .now)
  unfold getAttr getAttrBy;refine wpAny_bind (wpAny_mkText (wpAny_holding (wpAny_bind (L0.at (wpAny_bind (L1.at ?_))))));show wpAny _ _ (getAttrByItsOwn (.ref a) _ (.ref C) (.builtin "BaseException.__getattribute__") true expr) _ _ _;unfold getAttrByItsOwn;refine wpAny_bind (L2.at ?_);refine wpAny_bind (wpAny_attempt (wpAny_holding ?_));have hx0:(expr&&onTheHeap (Value.builtin "BaseException.__getattribute__"))=false:=by cases expr <;> rfl
  unfold callGetattribute;rw [hx0];show wpAny _ _ (boundAndCalled (.builtin "BaseException.__getattribute__") (.ref a) _) _ _ _;unfold boundAndCalled;rw [PySem.F.excAttr_ValueError.ga.bind (.ref a)];refine wpAny_bind (wpAny_pure ?_);refine wpAny_call (codeAny_call_builtin PySem.F.excAttr_ValueError.ga.plain PySem.F.entry_bexc_ga (IC (s:=⟨hh,g,d,t+1,os⟩) k X x ?_));unfold Builtin.«object.__getattribute__»
  repeat lk
  show wpAny _ _ (handedOut u) _ _ _;exact handed_on (s:=⟨hh,g,d,t+1,os⟩) hho h
end
end HT
namespace L2
open PySem PySem.Spec PyProof.Rows PySem.W
structure XKind (K:PySem.W.Frag) (C:Addr):Prop extends HT.ExcKind K C where
  hd:(clsIn K C).any (·.hasDict)=true
def xdO (d:Addr) (fs:List (Str × V)):HO:= .ext λ h=>∃ mA,h.Ns1 d mA/\(∀ f,RelO (fs.lookup f) (mA f))/\PySem.Within mA (fs.map (·.1))
theorem Ss {P:Program} {w:World} {H:Hp} {h:Heap} {d:Addr} {fs:List (Str × V)} {mA:Str->Option Value} (hn:h.Ns1 d mA) (hm:∀ f,RelO (fs.lookup f) (mA f)) (hw:PySem.Within mA (fs.map (·.1))):ObjOk P w H h d (xdO d fs):=
  ⟨⟨mA,hn,hm,hw⟩,let ⟨o,_,_,e,_⟩:=hn;⟨o,e⟩,λ _ _ ⟨mA,hn,hm,hw⟩ k=>⟨mA,hn.at k,hm,hw⟩⟩
def Su (K:PySem.W.Frag) (f:Str) (to:TE):TE:=λ σ H Q=>to σ H λ v H1=>∃ a C dx fs y,v= .ref a/\H1 a=some (EB a C (some dx))/\H1 dx=some (xdO dx fs)/\fs.lookup f=some y/\XKind K C/\findIn K (.ref C) f=some none/\Q y H1
theorem MI {X:Cx} {K:PySem.W.Frag} {o:Expr} {f:Str} {to:TE} {pos:Pos} (ho:PE X o to) (hb:attributeBase o f X.env (eval o X.env)=eval o X.env) (hK:X.K=K:=by rfl):PE X (.Attribute o f pos) (Su K f to):=by
  subst hK;intro pins s σ H Q I h;refine MB hb (thn (ho pins s σ H _ I h) λ u s1 ⟨v,H1,I1,rv,a,C,dx,fs,y,ev,ha,hdx,hl,k,nf,q⟩=> ?_);subst ev;obtain rfl:u=Value.ref a:=rv;obtain ⟨⟨ob,he,hc,hod,vs,hdat⟩,_⟩:=(show ObjOk X.prog X.w H1 s1.heap a (EB a C (some dx)) from I1.hok a _ ha);obtain ⟨⟨mA,hn,hm,_⟩,_⟩:=(show ObjOk X.prog X.w H1 s1.heap dx (xdO dx fs) from I1.hok dx _ hdx);obtain ⟨w',hw,rw'⟩:=RelO.some_of (v:=y) (o:=mA f) (by rw [<-hl];exact hm f);exact HT.exc_attr k.toExcKind nf I1.kIn k.hd he hc hdat hod hn hw (IQ rw') ⟨y,H1,I1.tok _,rw',q⟩
end L2
namespace HT
open PySem PySem.Spec PyProof.Rows PySem.W PySem.Calls PySem.Builtin PySem.Builtin.ObjectAttr PySem.Builtin.Getset_descriptor
def Ft:List Value:=[.type "ValueError", .type "Exception", .type "BaseException", .type "object"]
def DR:List Value->Bool
  | .ref _::r=>DR r
  | l=>l == Ft
theorem Ld (self:Value):refuseLoop self "__setattr__" Ft=pure ():=by kernel_rfl
theorem F9:∀ {l:List Value},DR l=true->l=Ft\/∃ c r,l= .ref c::r/\DR r=true
  | [],e=> .inl (beq_iff_eq.mp e)
  | v::r,e=>by
    cases v with
    | ref c=>exact .inr ⟨c,r,rfl,e⟩
    | _=>exact .inl (beq_iff_eq.mp e)
theorem Fe (self:Value):∀ (n:Nat) (l:List Value),l.length<=n->DR l=true->refuseLoop self "__setattr__" l=pure ()
  | 0,l,h,e=>by
    have z:=List.length_eq_zero_iff.mp (Nat.le_zero.mp h);subst z;cases e
  | n+1,l,h,e=>by
    rcases F9 e with rfl | ⟨c,r,rfl,e'⟩
    · exact Ld self
    · rw [refuseLoop_ref];exact Fe self n r (by simp at h;omega) e'
theorem NO {l:List Value} (n:Nat) (h:l.length<=n) (e:DR l=true):l.contains (.type "object")=true:=by
  induction n generalizing l with
  | zero=>
    have z:=List.length_eq_zero_iff.mp (Nat.le_zero.mp h);subst z;cases e
  | succ n ih=>
    rcases F9 e with rfl | ⟨c,r,rfl,e'⟩
    · decide
    · rw [List.contains_cons,ih (by simp at h;omega) e',Bool.or_true]
def exOver (K:Frag) (C:Addr):Bool:=(clsIn K C).any λ cd=>DR cd.mro
section
variable {prog:Program} {w:World} {A:Around} {E:Value->Shared->Prop} {s:Shared} {K:Frag} {a C dx:Addr} {o:Obj} {f:Str} {mA:Str->Option Value} {v:Value} {vs:Array Value}
theorem Mv {Q:Unit->Shared->Prop} (X:K.In s.heap) (hs:findIn K (.ref C) "__setattr__"=some (some (.builtin "object.__setattr__"))) (hp:exOver K C=true) (ht:takerIn K C f=some none) (x:ExcAt a C s.heap)
    (h:∀ b,wpAny (model prog w) A.in1 (storeInOwnDict (.ref a) (.ref C) (.str f s.toks) f v b) (λ fin s'=>match fin with | .done (.ret _)=>Q () s' | _=>False) E { s with toks:=s.toks+1 }):
    wpAny (model prog w) A (setAttr (.ref a) f v) Q E s:=by
  have SF:=PySem.F.store_object;obtain ⟨cd,hc,ho⟩:=any_some hp;have ne:cd.mro.isEmpty=false:=by cases q:cd.mro with | nil=>rw [q] at ho;cases ho | cons _ _=>rfl
  have L0:=x.type (M:=model prog w);have sub:Looks (model prog w) s.heap (isInstance (.ref a) (.type "object")) true:=L0.andThen (looks_mroIn X (by unfold mroIn;rw [hc,Option.bind_some,if_neg (by rw [ne];decide),NO _ (Nat.le_refl _) ho]));obtain ⟨attr,ha,hr⟩:=Option.bind_eq_some_iff.mp ht;have hm:Looks (model prog w) s.heap (mroOf (.ref C)) cd.mro:=(looks_clsIn X hc).andThen .now;have L3:Looks (model prog w) s.heap (storeTaker? attr) none:=by
    cases attr with
    | none=>cases hr;exact .now
    | some a=>
      obtain ⟨b,hb,hbb⟩:=Option.map_eq_some_iff.mp hr;refine (looks_takesIn X hb).andThen ?_;cases b with
      | true=>cases hbb
      | false=>exact .now
  refine wpAny_bind (wpAny_mkText (wpAny_bind (wpAny_bind (wpAny_bind (L0 _ _ _ _ (λ _ _ e=>e) (looks_findIn X hs _ _ _ _ (λ _ _ e=>e) (wpAny_holding ?_)))))));rw [SF.slot.bind];refine wpAny_bind (wpAny_pure (wpAny_bind (wpAny_call (codeAny_call_builtin SF.slot.plain SF.entry (@check_slot (model prog w) _ _ { s with toks:=s.toks+1 } "object.__setattr__" "object" "__setattr__" (.ref a) [.str f s.toks,v] [] _ SF.kind SF.split sub (SF.args (.ref a) (.str f s.toks) v) ?_)))));show wpAny _ _ (Builtin.«object.__setattr__» ⟨[.ref a, .str f s.toks,v],[]⟩) _ _ _;rw [osa_eq,refuse_eq];refine wpAny_bind (wpAny_bind (Looks.here (s:={ s with toks:=s.toks+1 }) L0 (wpAny_bind (Looks.here (s:={ s with toks:=s.toks+1 }) hm ?_))));rw [Fe _ _ _ (Nat.le_refl _) ho];refine wpAny_pure (wpAny_bind (Looks.here (s:={ s with toks:=s.toks+1 }) L0 (wpAny_bind (Looks.here (s:={ s with toks:=s.toks+1 }) (looks_findIn X ha) (wpAny_bind (Looks.here (s:={ s with toks:=s.toks+1 }) L3 ?_))))));refine wpAny_mono (h _) (λ fin s' z=> ?_) λ e s' z=>z;cases fin with
  | again c'=>exact False.elim z
  | done f=>
    cases f with
    | ret u=>exact wpAny_pure (wpAny_pure z)
    | next=>exact False.elim z
    | brk=>exact False.elim z
    | cont=>exact False.elim z
theorem exc_set {ns:List Str} {Q:Unit->Shared->Prop} (X:K.In s.heap) (hs:findIn K (.ref C) "__setattr__"=some (some (.builtin "object.__setattr__"))) (hp:exOver K C=true) (ht:takerIn K C f=some none) (hd:(clsIn K C).any (·.hasDict)=true)
    (he:s.heap.get? a=some o) (hc:o.cls= .ref C) (ho:o.dict=some dx) (hn:s.heap.Ns1 dx mA) (hw:PySem.Within mA ns) (hsz:ns.length<=1000)
    (h:∀ h',h'.Ns1 dx (λ y=>if y=f then some v else mA y)->Heap.SameBut dx s.heap h'->Q () { s with heap:=h',toks:=s.toks+2 }):wpAny (model prog w) A (setAttr (.ref a) f v) Q E s:=by
  refine Mv X hs hp ht ⟨o,he,hc⟩ λ b=> ?_;obtain ⟨cd,hcd,hhd⟩:=any_some hd;obtain ⟨oc,od,dat,sl⟩:=o;dsimp only at hc ho;subst hc ho;refine wpAny_bind (wpAny_pure (wpAny_bind (wpAny_bind (wpAny_loadPart he (wpAny_bind (Looks.here (s:={ s with toks:=s.toks+1 }) (looks_clsIn X hcd) ?_))))));rw [hhd];refine wpAny_pure (a:=some dx) (wpAny_bind (wpAny_pure (wpAny_bind ?_)));refine wpAny_nsSet1 (s:={ s with toks:=s.toks+1 }) hn λ h' hn2 hs2=> ?_;obtain ⟨oD,esD,epD,hoD,hdD,hcD⟩:=hn2.count (PySem.Within.cons f v hw);refine wpAny_bind (wpAny_lookBehind hoD (by rw [hdD];exact pastItsLine_dict (Nat.le_trans hcD (by rw [List.length_cons,sizeLine_eq];omega))) ?_);exact wpAny_pure (h _ hn2 hs2)
theorem Nz {M:Model} {sl:Array (Option Value)} {cd:ClassData} {Q:Option Addr->Shared->Prop} (X:K.In s.heap) (hcd:clsIn K C=some cd) (hhd:cd.hasDict=true) (he:s.heap.get? a=some ⟨.ref C,none, .fields vs,sl⟩)
    (h:Q (some s.heap.objs.size) { s with heap:=(s.heap.push { cls:= .type "dict",data:= .dict #[] }).update a (λ o=>{ o with dict:=some s.heap.objs.size }) }):wpAny M A (instanceDict a true) Q E s:=by
  unfold instanceDict;refine wpAny_bind (wpAny_loadPart he ?_);refine wpAny_bind (Looks.here (looks_clsIn X hcd) ?_);rw [hhd];dsimp only [Bool.not_true];rw [if_neg (show ¬ ((!true)=true) from Bool.false_ne_true)];have ht:(!true|| !typeHasDict (.ref C))=false:=rfl;rw [ht,if_neg Bool.false_ne_true];have he1:=Heap.get?_push_of_some { cls:= .type "dict",data:= .dict #[] } he;refine wpAny_bind (wpAny_alloc ?_);refine wpAny_bind (wpAny_update (s:={ s with heap:=s.heap.push { cls:= .type "dict",data:= .dict #[] } }) he1 ?_);unfold dictMade;exact wpAny_pure h
theorem KM:StrKeys (#[]:Array DictEntry):=λ e he=>absurd he (by simp)
theorem JG:UniqKeys (#[]:Array DictEntry):=List.Pairwise.nil
theorem exc_set0 {Q:Unit->Shared->Prop} (X:K.In s.heap) (hs:findIn K (.ref C) "__setattr__"=some (some (.builtin "object.__setattr__"))) (hp:exOver K C=true) (ht:takerIn K C f=some none) (hd:(clsIn K C).any (·.hasDict)=true)
    (he:s.heap.get? a=some o) (hc:o.cls= .ref C) (hf:o.data= .fields vs) (ho:o.dict=none)
    (h:∀ h',h'.get? a=some { o with dict:=some s.heap.objs.size }->h'.Ns1 s.heap.objs.size (λ y=>if y=f then some v else none)->(∀ b ob,b≠a->s.heap.get? b=some ob->h'.get? b=some ob)->Q () { s with heap:=h',toks:=s.toks+2 }):
    wpAny (model prog w) A (setAttr (.ref a) f v) Q E s:=by
  refine Mv X hs hp ht ⟨o,he,hc⟩ λ b=> ?_;obtain ⟨cd,hcd,hhd⟩:=any_some hd;obtain ⟨oc,od,dat,sl⟩:=o;dsimp only at hc ho hf;subst hc ho hf;have na:a≠s.heap.objs.size:=Nat.ne_of_lt (Heap.lt_size he);have he1:=Heap.get?_push_of_some { cls:= .type "dict",data:= .dict #[] } he;refine wpAny_bind (wpAny_pure (wpAny_bind (Nz (s:={ s with toks:=s.toks+1 }) X hcd hhd he ?_)));have hn1:((s.heap.push { cls:= .type "dict",data:= .dict #[] }).update a (λ o=>{ o with dict:=some s.heap.objs.size })).Ns1 s.heap.objs.size (λ _=>none):=by
    refine ⟨{ cls:= .type "dict",data:= .dict #[] }, #[],0,?_,rfl,KM,JG,λ name=>rfl⟩;rw [Heap.get?_update_other _ _ na];exact Heap.get?_push_size _ rfl
  have ha1:((s.heap.push { cls:= .type "dict",data:= .dict #[] }).update a (λ o=>{ o with dict:=some s.heap.objs.size })).get? a=some ⟨.ref C,some s.heap.objs.size, .fields vs,sl⟩:=Heap.get?_update_self _ he1 rfl;have hk:∀ b ob,b≠a->s.heap.get? b=some ob->((s.heap.push { cls:= .type "dict",data:= .dict #[] }).update a (λ o=>{ o with dict:=some s.heap.objs.size })).get? b=some ob:=λ b ob hb e=>by
    rw [Heap.get?_update_other _ _ (Ne.symm hb)];exact Heap.get?_push_of_some _ e
  generalize (s.heap.push { cls:= .type "dict",data:= .dict #[] }).update a (λ o=>{ o with dict:=some s.heap.objs.size })=h1 at hn1 ha1 hk ⊢;show wpAny _ _ (storeInDict s.heap.objs.size (.str f s.toks) f v) _ _ _;unfold storeInDict;refine wpAny_bind (wpAny_pure (wpAny_bind ?_));refine wpAny_nsSet1 (s:={ s with heap:=h1,toks:=s.toks+1 }) hn1 λ h' hn2 hs2=> ?_;obtain ⟨oD,esD,epD,hoD,hdD,hcD⟩:=hn2.count (PySem.Within.cons f v PySem.Within.nil);refine wpAny_bind (wpAny_lookBehind hoD (by rw [hdD];exact pastItsLine_dict (Nat.le_trans hcD (by rw [List.length_cons,sizeLine_eq];simp))) ?_);exact wpAny_pure (h _ ((hs2.2 _ na).trans ha1) hn2 λ b ob hb e=>(hs2.2 b (Nat.ne_of_lt (Heap.lt_size e))).trans (hk b ob hb e))
end
end HT
namespace L2
open PySem PySem.Spec PyProof.Rows PySem.W
structure XSet (K:PySem.W.Frag) (C:Addr):Prop where
  sa:findIn K (.ref C) "__setattr__"=some (some (.builtin "object.__setattr__"))
  ov:HT.exOver K C=true
  hd:(clsIn K C).any (·.hasDict)=true
def xnO (a C:Addr) (od:Option Addr):HO:= .ext λ h=>∃ t,h.get? a=some ⟨.ref C,od, .fields #[.ref t, .none, .none, .none, .bool false, .none], #[]⟩
theorem Pz {P:Program} {w:World} {H:Hp} {h:Heap} {a C t:Addr} {od:Option Addr} (e:h.get? a=some ⟨.ref C,od, .fields #[.ref t, .none, .none, .none, .bool false, .none], #[]⟩):ObjOk P w H h a (xnO a C od):=
  ⟨⟨t,e⟩,⟨_,e⟩,λ _ _ ⟨t,e⟩ k=>⟨t,k _ e⟩⟩
def SI (K:PySem.W.Frag) (f:Str) (to tv:TE):TS:=λ D σ H=>tv σ H λ y H1=>to σ H1 λ x H2=>∃ a C od,x= .ref a/\H2 a=some (xnO a C od)/\XSet K C/\takerIn K C f=some none/\
  ((od=none/\∀ dx,H2 dx=none->D.nx σ (upd (upd H2 dx (xdO dx [(f,y)])) a (xnO a C (some dx))))\/∃ dx fs,od=some dx/\H2 dx=some (xdO dx fs)/\fs.length<1000/\D.nx σ (upd H2 dx (xdO dx (AO f y fs))))
theorem MK {X:Cx} {K:PySem.W.Frag} {o value:Expr} {f:Str} {to tv:TE} {pos pos':Pos} (ha:PE X o to) (hv:PE X value tv) (hs:swapsWith value (some (.Attribute o f pos')) pos.line X.env=pure false) (hK:X.K=K:=by rfl):
    PS X (.Assign [.Attribute o f pos'] value pos) (SI K f to tv):=by
  subst hK;intro pins s σ H D I h;refine plainObj_wpAny_Assign_Attribute (thn (hv pins s σ H _ I h) λ u s1 ⟨y,H1,I1,ry,q⟩=>thn (ha pins s1 σ H1 _ I1 q) λ ov s2 ⟨x,H2,I2,rx,a,C,od,ex,ea,k,ht,q2⟩=> ?_) hs;subst ex;obtain rfl:ov=Value.ref a:=rx;obtain ⟨⟨t,he⟩,_⟩:=(show ObjOk X.prog X.w H2 s2.heap a (xnO a C od) from I2.hok a _ ea);rcases q2 with ⟨rfl,q2⟩ | ⟨dx,fs,rfl,hdx,hl,q2⟩
  · refine HT.exc_set0 I2.kIn k.sa k.ov ht k.hd he rfl rfl rfl λ h' ha' hn' keep=>⟨σ,_,?_,q2 s2.heap.objs.size I2.fresh⟩;have fr:=I2.fresh;generalize hdx:s2.heap.objs.size=dx at ha' hn' fr ⊢;have na:a≠dx:=λ z=>by rw [z,fr] at ea;cases ea
    have neA:∀ b u,H2 b=some u->(∀ φ,u≠ .ext φ)->b≠a:=λ b u e n z=>by rw [z,ea] at e;cases e;exact n _ rfl
    have neD:∀ b u,H2 b=some u->b≠dx:=λ b u e z=>by rw [z,fr] at e;cases e
    have oD:∀ b ob,s2.heap.get? b=some ob->b≠dx:=λ b ob e z=>by rw [<-hdx] at z;exact absurd (Heap.lt_size e) (by rw [z];exact Nat.lt_irrefl _)
    have eH:∀ b,b≠a->b≠dx->upd (upd H2 dx (xdO dx [(f,y)])) a (xnO a C (some dx)) b=H2 b:=λ b h1 h2=>by rw [Am h1,Am h2]
    refine I2.un (t':=s2.toks+2) ⟨λ b ob e hH hn hx=> ?_,λ b ob e hH hb hx=> ?_,λ b ob e hH hx=> ?_,λ b ob e hx=> ?_,λ b xs e=> ?_,λ b ob u e=> ?_,λ b ps e=> ?_⟩ λ b u e=> ?_
    · exact keep b ob (λ z=>by rw [z,ea] at hH;cases hH) e
    · exact ⟨ob.slots,keep b ob (λ z=>by rw [z,ea] at hH;cases hH) e⟩
    · rw [eH b (λ z=>by rw [z,ea] at hH;cases hH) (oD b ob e)];exact hH
    · by_cases z:b=a
      · rw [z];exact ⟨_,ha'⟩
      · exact ⟨ob,keep b ob z e⟩
    · rw [eH b (neA b _ e λ φ z=>by cases z) (neD b _ e)];exact e
    · rw [eH b (neA b _ e λ φ z=>by cases z) (neD b _ e)];exact e
    · exact ⟨#[],by rw [eH b (neA b _ e λ φ z=>by cases z) (neD b _ e)];simpa using e⟩
    · by_cases z:b=a
      · subst z;rw [Ad] at e;cases e;exact Pz (t:=t) ha'
      · rw [Am z] at e;by_cases z2:b=dx
        · subst z2;rw [Ad] at e;cases e;refine Ss hn' (λ g=> ?_) (PySem.Within.cons f _ PySem.Within.nil);show RelO (List.lookup g [(f,y)]) (if g=f then some _ else none);rw [List.lookup_cons];by_cases q:g=f
          · rw [if_pos q,q,beq_self_eq_true];exact ry
          · rw [if_neg q,show (g == f)=false from beq_eq_false_iff_ne.mpr q];exact True.intro
        · rw [Am z2] at e;refine (I2.hok b u e).stay (λ c v hc q=>keep c v ?_ q) (λ c q=> ?_) λ c xs q=> ?_
          · rcases hc with rfl | hc
            · exact z
            · exact neA c _ hc λ φ z=>by cases z
          · rw [eH c (neA c _ q λ φ z=>by cases z) (neD c _ q)];exact q
          · rw [eH c (neA c _ q λ φ z=>by cases z) (neD c _ q)];exact q
  · obtain ⟨⟨mA,hn,hm,hw⟩,_⟩:=(show ObjOk X.prog X.w H2 s2.heap dx (xdO dx fs) from I2.hok dx _ hdx);refine HT.exc_set I2.kIn k.sa k.ov ht k.hd he rfl rfl hn hw (by rw [List.length_map];omega) λ h' hn' sb=>⟨σ,_,?_,q2⟩;refine I2.write (x:=dx) (e:=dx) (t':=s2.toks+2) (by rw [hdx];exact True.intro) (.inl rfl) (λ b q hb z=>(sb.2 b hb).trans z) (let ⟨o,_,_,e,_⟩:=hn';⟨o,e⟩) (Ss hn' (λ g=> ?_) λ g hg=> ?_)
    · show RelO ((AO f y fs).lookup g) (if g=f then some u else mA g);rw [DQ];by_cases q:g=f
      · rw [if_pos q,if_pos q];exact ry
      · rw [if_neg q,if_neg q];exact hm g
    · by_cases q:g=f
      · rw [q];exact (CG f y fs).1
      · refine (CG f y fs).2 g (hw g λ z=>hg ?_);show (if g=f then some u else mA g)=none;rw [if_neg q];exact z
end L2
namespace HT
open PySem PySem.Spec PyProof.Rows PySem.W PySem.Calls PySem.Builtin
def iniIn (K:Frag) (C fi:Addr):Bool:=match K.lookup C with
  | some ⟨.type "type",_, .cls cd,sl⟩=>(match cd.mro,sl.toList with
    | .ref C'::bm,[_,_,_,_,some (.builtin n),_]=>C' == C&&n == "ValueError.__new__"&& !cd.hasDel&&tailIn K Ft bm&&nsOkIn K cd.ns&&nsIn K cd.ns "__init__" == some (some (.ref fi))
    | _,_=>false)
  | _=>false
def IniAt (h:Heap) (C fi:Addr):Prop:=∃ bm N nm q bs hdct sn sub ab col dd k0 k1 k2 k3 k5 mN,h.get? C=some (excClassObj nm q C N bs bm hdct sn sub ab col dd k0 k1 k2 k3 k5 "ValueError.__new__")/\h.Ns N mN/\mN "__init__"=some (.ref fi)/\OwnTail h Ft bm
theorem LL {K:Frag} {h:Heap} {N:Addr} {mg:Str->Option Value} {n:Str} {v:Value} (X:K.In h) (G:h.Ns N mg) (e:nsIn K N n=some (some v)):mg n=some v:=by
  obtain ⟨o,es,ep,ho,hd,_,hf⟩:=G;unfold nsIn at e;split at e
  · rename_i c d es' n' sl q
    have:=X _ _ q;rw [ho] at this;cases this;cases hd;split at e
    · rename_i en he
      cases e;rw [<-hf];unfold nsFind findBy;rw [<-Array.find?_toList,he];rfl
    · split at e
      · cases e
      · cases e
  · cases e
theorem ini_of {K:Frag} {h:Heap} {C fi:Addr} (X:K.In h) (q:iniIn K C fi=true):IniAt h C fi:=by
  unfold iniIn at q;split at q
  · rename_i dd cd sl ho
    split at q
    · rename_i C' bm k0 k1 k2 k3 n k5 hm' hs
      simp only [Bool.and_eq_true,beq_iff_eq,Bool.not_eq_true'] at q;obtain ⟨⟨⟨⟨⟨rfl,rfl⟩,hdel⟩,ht⟩,hok⟩,hni⟩:=q;obtain ⟨nm,bs,mro,ns,qn,hd,sn,sub,ab,col,del⟩:=cd;dsimp only at hm' hdel hok hni;subst hm' hdel;obtain ⟨l⟩:=sl;have hsl:l=[k0,k1,k2,k3,some (.builtin "ValueError.__new__"),k5]:=hs;subst hsl;exact ⟨bm,ns,nm,qn,bs,hd,sn,sub,ab,col,dd,k0,k1,k2,k3,k5,_,X _ _ ho, .of_isNs (isNs_of_in X hok),LL X (.of_isNs (isNs_of_in X hok)) hni,tail_of_in X ht⟩
    · cases q
  · cases q
section
variable {prog:Program} {w:World} {A:Around} {E:Value->Shared->Prop} {s:Shared} {K:Frag} {a C fi t0:Addr} {od:Option Addr} {u:Value}
theorem exc_initB {Q:Value->Shared->Prop} (i:IniAt s.heap C fi) (he:s.heap.get? a=some ⟨.ref C,od, .fields #[.ref t0, .none, .none, .none, .bool false, .none], #[]⟩)
    (h:∀ h',h'.get? a=some ⟨.ref C,od, .fields #[.ref s.heap.objs.size, .none, .none, .none, .bool false, .none], #[]⟩->(∀ b ob,b≠a->s.heap.get? b=some ob->h'.get? b=some ob)->Q .none { s with heap:=h' }):
    wpAny (model prog w) A (call (.builtin "ValueError.__init__") [.ref a,u]) Q E s:=by
  obtain ⟨bm,N,nm,q,bs,hdct,sn,sub,ab,col,dd,k0,k1,k2,k3,k5,mN,hC,hN,hi,T⟩:=i;obtain ⟨hh,g,d,t,os⟩:=s;have F:=PySem.F.excBase_ValueError;refine wpAny_call (codeAny_call_builtin F.init.plain F.initEntry (wpAny_check_init_subT F T hC he rfl ?_))
  wp_walk
  have he1:=Heap.get?_push_of_some { cls:= .type "tuple",data:= .seq #[u] } he;refine h _ (Heap.get?_update_self _ he1 rfl) λ b ob hb e=> ?_;rw [Heap.get?_update_other _ _ (Ne.symm hb)];exact Heap.get?_push_of_some _ e
theorem exc_make {R:Result->Shared->Prop} {rest:List Value} (X:K.In s.heap) (i:IniAt s.heap C fi) (hf:typeIn K (.ref fi)=some (.type "function")) (hrest:rest.length<=1000)
    (h:codeAny (model prog w) (A.under (.builtin "type.__call__" ⟨.ref C::rest,[]⟩)) (.call (.ref fi) ⟨.ref (s.heap.objs.size+1)::rest,[]⟩) (InitBack (s.heap.objs.size+1) R)
      { s with heap:=(s.heap.push { cls:= .type "tuple",data:= .seq rest.toArray }).push { cls:= .ref C,data:= .fields #[.ref s.heap.objs.size, .none, .none, .none, .bool false, .none] } }):
    codeAny (model prog w) A (.call (.ref C) ⟨rest,[]⟩) R s:=by
  obtain ⟨bm,N,nm,q,bs,hdct,sn,sub,ab,col,dd,k0,k1,k2,k3,k5,mN,hC,hN,hi,T⟩:=i;obtain ⟨hh,g,d,t,os⟩:=s;have F:=PySem.F.excBase_ValueError;have f1:=tc_lookup;have f2:=tc_bind (.ref C);have hT:(⟨hh,g,d,t,os⟩:Shared).TypeIs (.ref C) "type":=⟨_,hC,rfl⟩;refine codeAny_of_tree ?_;show wpAny _ _ (callAny (.ref C) _) _ _ _
  repeat (any_goals (first | assumption | with_reducible refine wpAny_loadPart_at hC ?_ | wp_step))
  refine ⟨rfl,?_⟩;refine codeAny_call_builtin_at (Code.quiet_builtin _ (by decide +kernel)) entry_typeCall (wpAny_check_type_call_sub hC ?_);show wpAny _ _ (Builtin.«type.__call__» ⟨.ref C::rest,[]⟩) _ _ _
  repeat (first | with_reducible refine wpAny_loadPart_at hC ?_ | with_reducible refine wpAny_madeBy_exc hC ?_ | wp_step)
  refine codeAny_call_builtin_code (Code.quiet_builtin _ F.quiet) (wpAny_check_new_subT F T hC ?_);refine codeAny_exc_new_subT F T hC ?_ (Nat.le_trans hrest (by decide));show wpAny _ _ _ _ _ _;have kp:∀ b o,hh.get? b=some o->((hh.push { cls:= .type "tuple",data:= .seq rest.toArray }).push { cls:= .ref C,data:= .fields #[.ref hh.objs.size, .none, .none, .none, .bool false, .none] }).get? b=some o:=λ b o e=>Heap.get?_push_of_some _ (Heap.get?_push_of_some _ e);have hC₁:=kp _ _ hC;have hn₁:=hN.keeps kp;have hget:((hh.push { cls:= .type "tuple",data:= .seq rest.toArray }).push { cls:= .ref C,data:= .fields #[.ref hh.objs.size, .none, .none, .none, .bool false, .none] }).get? (hh.objs.size+1)=some { cls:= .ref C,data:= .fields #[.ref hh.objs.size, .none, .none, .none, .bool false, .none] }:=by heap_get
  have hcC:(Value.ref C::bm).contains (.ref C)=true:=by simp
  have T₁:=T.keeps kp;unfold isInstance
  repeat (first | with_reducible refine wpAny_loadPart_at hget ?_ | (with_reducible refine wpAny_isSubtype_exc hC₁ ?_;rw [hcC]) | wp_step)
  show wpAny _ _ (typeLookup (.ref C) _) _ _ _;refine wpAny_typeLookup_tail hC₁ hn₁ T₁ F.mroIs F.init.lookup ?_;rw [hi];have b1:=bind_fn (M:=model prog w) (Frag.In.keeps X kp) (.ref (hh.objs.size+1)) hf
  repeat (first | with_reducible refine wpAny_call ?_ | lk)
  refine codeAny_mono h λ r s' z=> ?_;rcases r with e | (v | _ | _ | _) <;> first | exact z | exact z.elim | skip;obtain ⟨rfl,z⟩:=z;exact wpAny_pure (wpAny_pure z)
end
end HT
namespace L2
open PySem PySem.Spec PyProof.Rows PySem.W
def Ys (te:TE):TE:=λ σ H Q=>te σ H λ v H1=>(∃ i:Int,v= .int i/\i.natAbs.log2<1920/\Q (.str (Str.ofString (toString i))) H1)\/∃ x:Str,v= .str x/\x.length<=100000/\Q (.str x) H1
theorem N8 {X:Cx} {e:Expr} {te:TE} {pos:Pos} (he:PE X e te):PE X (.FormattedValue e (-1) none pos) (Ys te):=by
  intro pins s σ H Q I h;refine FormattedValue_plain (thn (he pins s σ H _ I h) λ u s1 ⟨v,H1,I1,rv,q⟩=> ?_);rcases q with ⟨i,rfl,hi,q⟩ | ⟨x,rfl,hx,q⟩
  · obtain ⟨t,rfl⟩:=rv;exact formatField_int_small hi ⟨.str _,H1,I1.tok _,⟨_,rfl⟩,q⟩
  · obtain ⟨t,rfl⟩:=rv;exact formatField_str (λ t' tk=>⟨.str _,H1,I1.tok _,⟨_,rfl⟩,q⟩) (Nat.le_trans hx (by decide))
def PEs (X:Cx):List Expr->List TE->Prop
  | [],[]=>True
  | e::es,t::ts=>PE X e t/\PEs X es ts
  | _,_=>False
theorem Q0 {X:Cx}:PEs X [] []:=trivial
theorem Fj {X:Cx} {e:Expr} {es:List Expr} {t:TE} {ts:List TE} (h:PE X e t) (hs:PEs X es ts):PEs X (e::es) (t::ts):=⟨h,hs⟩
def IB:List TE->Str->St->Hp->VK->Prop
  | [],out,_,H,Q=>Q (.str out) H
  | t::ts,out,σ,H,Q=>t σ H λ v H1=>∃ y,v= .str y/\(out++y).length<=100000/\IB ts (out++y) σ H1 Q
theorem KA {X:Cx}:∀ (es:List Expr) (ts:List TE) (out:Str) (pins:List (Addr × Obj)) (s:Shared) (σ:St) (H:Hp) (Q:VK),PEs X es ts->out.length<=100000->Inv X pins σ H s->IB ts out σ H Q->
    wpAny (model X.prog X.w) X.A (joinParts out (evalEach es X.env)) (EP X pins σ Q) X.xe s
  | [],[],out,pins,s,σ,H,Q,_,hl,I,h=>joinParts_nil ⟨.str _,H,I.tok _,⟨_,rfl⟩,h⟩ (Nat.le_trans hl (by decide))
  | e::es,t::ts,out,pins,s,σ,H,Q,⟨he,hes⟩,hl,I,h=>by
    refine joinParts_cons (thn (he pins s σ H _ I h) λ u s1 ⟨v,H1,I1,rv,y,ev,hz,q⟩=> ?_);subst ev;obtain ⟨tk,rfl⟩:=rv;exact ⟨Nat.le_trans hz (by decide),KA es ts (out++y) pins s1 σ H1 Q hes hz I1 q⟩
theorem Nq {X:Cx} {v₁ v₂:Expr} {rest:List Expr} {ts:List TE} {pos:Pos} (h:PEs X (v₁::v₂::rest) ts):PE X (.JoinedStr (v₁::v₂::rest) pos) (IB ts Str.empty):=by
  intro pins s σ H Q I hq;exact JoinedStr_many (KA _ ts Str.empty pins s σ H Q h (by decide) I hq)
theorem Pk {H:Hp} {a:Addr} {o:HO} (h:H a=some o):upd H a o=H:=by
  funext b;by_cases z:b=a
  · rw [z,Ad,h]
  · rw [Am z]
structure XBase (K:PySem.W.Frag) (CL:Addr):Prop where
  sp:specialIn K (.ref CL) "__getattribute__"=some (some (.builtin "type.__getattribute__"))
  rd:readsIn K CL (.type "type")=true
  fc:findCls K (.ref CL) (.type "type") "__init__"=some (.val (.builtin "ValueError.__init__"))
def Pa (K:PySem.W.Frag) (t:TA):TE:=λ σ H Q=>t σ H λ vs H1=>∃ a C od fi z,vs=[.ref a, .str z]/\H1 a=some (xnO a C od)/\HT.iniIn K C fi=true/\Q .non H1
theorem OG {pl:Sem Bool} {X:Cx} {K:PySem.W.Frag} {x:Str} {CL:Addr} {p apos pos:Pos} {e₁ e₂:Expr} {t:TA} (hm:X.mg x=some (.ref CL)) (b:XBase K CL) (ha:PA X [e₁,e₂] t) (hK:X.K=K:=by rfl) (hg:Gl X x:=by rfl) (hd:(x == ("__debug__":Str))=false:=by decide)
    (he:starEach [e₁,e₂] X.env=(false,eval e₁ X.env)::starEach [e₂] X.env:=by rfl) (hpl:(backTo pos (starEach [e₂] X.env)).any (·.1)=false:=by rfl)
    (ht:eval (.Call (.Attribute (.Name x p) "__init__" apos) [e₁,e₂] [] pos) X.env=(do
      let ov <-eval (.Name x p) X.env
      standAt apos.atName
      let (f,first) <-holding [ov] (getMethod ov "__init__" pl)
      callWith pos f first (backTo pos (starEach [e₁,e₂] X.env)) (backToKw pos (keywordEach [] X.env))):=by rfl):
    PE X (.Call (.Attribute (.Name x p) "__init__" apos) [e₁,e₂] [] pos) (Pa K t):=by
  subst hK;intro pins s σ H Q I h;refine PySem.W.methodCall_KW (pl:=pl) (CQ I hg hm ?_ hd) ht;refine method_cls I.kIn b.sp (cls_value I.kIn b.rd b.fc (by decide +kernel) ?_);have I0:Inv X pins σ H { s with toks:=s.toks+1 }:=I.tok _;refine PyProof.Rows.callWith_builtin1 (thn (ha pos pins _ σ H _ I0 h) λ us s1 ⟨vs,H1,I1,r1,a,C,od,fi,z,ev,ea,hi,q⟩=> ?_) he hpl;subst ev;obtain ⟨u1,u2,rfl,r1',r2'⟩:=KQ r1;obtain rfl:u1=Value.ref a:=r1';obtain ⟨⟨t0,hea⟩,_⟩:=(show ObjOk X.prog X.w H1 s1.heap a (xnO a C od) from I1.hok a _ ea);refine HT.exc_initB (HT.ini_of I1.kIn hi) hea λ h' ha' keep=>⟨.non,H1,?_,rfl,q⟩;have J:=I1.write (x:=a) (e:=a) (o:=xnO a C od) (t':=s1.toks) (by rw [ea];exact True.intro) (.inl rfl) (λ b ob hb e=>keep b ob hb e) ⟨_,ha'⟩ (Pz ha');rw [Pk ea] at J;exact J
section
variable {P:Program} {w:World} {K:PySem.W.Frag} {mg:Str->Option Value} {base:Heap} {N:List Str} {qual:Str} {scope:Scope} {f:Addr} {cd:Value} {A:Around} {outer:List Env} {s₀:Shared} {H₀:Hp} {E:XK}
theorem Tt {H:Hp} {h:Heap} {e C:Addr} {od:Option Addr} (hok:HOk P w H h) (ea:H e=some (xnO e C od)):HOk P w (bar e H) h:=λ b u eb=>by
  have hb:b≠e:=λ z=>by
    have:=(if_pos z).symm.trans eb;cases this
  have eb:H b=some u:=(if_neg hb).symm.trans eb;have ne:∀ c v,H c=some v->(∀ φ,v≠ .ext φ)->c≠e:=λ c v q n z=>by rw [z,ea] at q;cases q;exact n _ rfl
  exact (hok b u eb).stay (λ c v _ q=>q) (λ c q=>(if_neg (ne c _ q λ φ z=>by cases z)).trans q) λ c xs q=>(if_neg (ne c _ q λ φ z=>by cases z)).trans q
theorem M3 {pins:List (Addr × Obj)} {σ:St} {H:Hp} {s:Shared} {e C t:Addr} {od:Option Addr} (I:Inv (Bw (CXE P w) P w K mg base N qual scope f cd A outer s₀ H₀ E) pins σ H s)
    (he:s.heap.get? e=some ⟨.ref C,od, .fields #[.ref t, .none, .none, .none, .bool false, .none], #[]⟩) (ea:H e=some (xnO e C od)) (new:s₀.heap.get? e=none) (q:E (.ref C) od (bar e H)):
    (Bw (CXE P w) P w K mg base N qual scope f cd A outer s₀ H₀ E).xe (.ref e) s:=by
  have hfr:(envOfC qual scope s₀.heap.objs.size f cd).frame=some s₀.heap.objs.size:=rfl;have hfs:frs (envOfC qual scope s₀.heap.objs.size f cd::outer)=s₀.heap.objs.size::frs outer:=DO hfr;have hen:(PySem.W.hideAll s.heap (e::frs (envOfC qual scope s₀.heap.objs.size f cd::outer))).get? e=none:=PySem.W.hideAll_none _ List.mem_cons_self;have key:=wpAny_leaving_firstW (M:=model P w) (A:=A.deeper (envOfC qual scope s₀.heap.objs.size f cd)) (E:=λ _ _=>False) (s:=s) (base:=PySem.W.hideAll s.heap (e::frs (envOfC qual scope s₀.heap.objs.size f cd::outer))) (a0:= .ref t)
    (Q:=λ _ s'=>∃ h2,s'={ s with heap:=h2 }/\Heap.LeftW (PySem.W.hideAll s.heap (e::frs (envOfC qual scope s₀.heap.objs.size f cd::outer))) (envOfC qual scope s₀.heap.objs.size f cd::outer) e (.ref C) (.ref t) s.heap h2)
    I.ok.frames (FS I.stack λ b hb=>PySem.W.hideAll_none _ (List.mem_cons_of_mem _ hb)) hfr he (λ b o e=>PySem.W.of_hideAll _ e) hen rfl rfl rfl λ h2 hl=>⟨h2,rfl,hl⟩
  refine wpAny_mono (CH (EQ _ _) key) (λ _ s' ⟨⟨h2,es,hl⟩,kd⟩=> ?_) λ _ _ z=>z.1.elim;subst es;obtain ⟨k1,⟨_,_,k2⟩,k3,ups⟩:=hl;have ib:Un (frs outer) [] H₀ H s₀.heap s.heap:=I.base;have nl:∀ b o,s₀.heap.get? b=some o->b≠s₀.heap.objs.size:=λ b o e=>Nat.ne_of_lt (Heap.lt_size e);have nE:∀ b o,s₀.heap.get? b=some o->b≠e:=λ b o q z=>by rw [z,new] at q;cases q
  have inB:∀ b o,s.heap.get? b=some o->b≠e->b∉frs (envOfC qual scope s₀.heap.objs.size f cd::outer)->h2.get? b=some o:=λ b o q h1 h3=>k1 b o (PySem.W.hideAll_get _ q λ z=>by
    rcases List.mem_cons.mp z with z | z
    · exact h1 z
    · exact h3 z)
  have notin:∀ b o,s₀.heap.get? b=some o->b∉frs outer->b∉frs (envOfC qual scope s₀.heap.objs.size f cd::outer):=λ b o e hn z=>by
    rw [hfs] at z;rcases List.mem_cons.mp z with z | z
    · exact nl b o e z
    · exact hn z
  have isin:∀ b,b∈frs outer->b∈frs (envOfC qual scope s₀.heap.objs.size f cd::outer):=λ b hb=>by rw [hfs];exact List.mem_cons_of_mem _ hb
  have neX:∀ b v,H b=some v->(∀ φ,v≠ .ext φ)->b≠e:=λ b v q n z=>by rw [z,ea] at q;cases q;exact n _ rfl
  have barN:∀ b,bar e H b≠none->b≠e/\H b≠none:=λ b hb=>by
    by_cases z:b=e
    · exact absurd (if_pos z) hb
    · exact ⟨z,λ q=>hb ((if_neg z).trans q)⟩
  have fl:Heap.FlyingW (PySem.W.hideAll s.heap (e::frs (envOfC qual scope s₀.heap.objs.size f cd::outer))) outer e (.ref C) (.ref t) h2:=⟨k1,hen,k2,k3⟩;refine ⟨e,C,t,od,bar e H,rfl,I.os,I.bare,?_,(Tt I.hok ea).on λ b u hb q=>inB b u q (barN b hb).1 (λ z=>(barN b hb).2 (I.stkFree b z)),⟨_,fl,λ b hb hn o q=> ?_⟩,DictIs.on ⟨_,he,rfl⟩ kd (let ⟨o,e,_⟩:=fl.there;⟨o,e⟩),q⟩
  · refine ⟨λ b o q hH hn _=> ?_,λ b o q hH hb _=> ?_,λ b o q hH _=> ?_,λ b o q _=> ?_,λ b xs q=> ?_,λ b o u q=> ?_,λ b ps q=> ?_⟩
    · exact inB b o (ib.keep b o q hH hn (by simp)) (nE b o q) (notin b o q hn)
    · obtain ⟨sl,e1⟩:=ib.slot b o q hH hb (by simp);obtain ⟨_,o',e',nf⟩:=A2 I.stack (isin b hb);rw [e1] at e';cases e';obtain ⟨sl3,e3⟩:=ups b _ e1 nf;exact ⟨sl3,e3⟩
    · exact (if_neg (nE b o q)).trans (ib.free b o q hH (by simp))
    · obtain ⟨o1,e1⟩:=ib.there b o q (by simp);by_cases hb:b∈frs outer
      · obtain ⟨_,o',e',nf⟩:=A2 I.stack (isin b hb);obtain ⟨sl3,e3⟩:=ups b _ e' nf;exact ⟨_,e3⟩
      · exact ⟨o1,inB b o1 e1 (nE b o q) (notin b o q hb)⟩
    · have:=ib.tups b xs q;exact (if_neg (neX b _ this λ φ z=>by cases z)).trans this
    · have:=ib.frzs b o u q;exact (if_neg (neX b _ this λ φ z=>by cases z)).trans this
    · obtain ⟨m,this⟩:=ib.tbls b ps q;exact ⟨m,(if_neg (neX b _ this λ φ z=>by cases z)).trans this⟩
  · have hbe:b≠e:=by
      rcases hb with hb | ⟨o1,e1⟩
      · exact (barN b hb).1
      · exact nE b o1 e1
    have hn2:b∉frs (envOfC qual scope s₀.heap.objs.size f cd::outer):=λ z=>by
      rcases hb with hb | ⟨o1,e1⟩
      · exact (barN b hb).2 (I.stkFree b z)
      · exact notin b o1 e1 hn z
    obtain ⟨o2,e2⟩:∃ o2,s.heap.get? b=some o2:=by
      rcases hb with hb | ⟨o1,e1⟩
      · cases hx:H b with
        | none=>exact absurd hx (barN b hb).2
        | some u=>exact Ht (I.hok b u hx)
      · exact ib.there b o1 e1 (by simp)
    have e3:=inB b o2 e2 hbe hn2;have q:h2.get? b=some o:=q;rw [q] at e3;cases e3;exact PySem.W.hideAll_get _ e2 λ z=>by
      rcases List.mem_cons.mp z with z | z
      · exact hbe z
      · exact hn2 z
end
end L2
namespace HT
open PySem PySem.Spec PyProof.Rows PySem.W PySem.Calls PySem.Builtin
theorem raise_made {M:Model} {A:Around} {E:Value->Shared->Prop} {s:Shared} {env:Env} {C fi:Addr} {x:Sem Value} {Q:Flow->Shared->Prop} (hh:A.handled=none)
    (h:wpAny M A x (λ v s₁=>∃ e t od,v= .ref e/\IniAt s₁.heap C fi/\s₁.heap.get? e=some ⟨.ref C,od, .fields #[.ref t, .none, .none, .none, .bool false, .none], #[]⟩/\E (.ref e) s₁) E s):
    wpAny M A (raiseStmt env (some x) none) Q E s:=by
  unfold raiseStmt;refine wpAny_bind (wpAny_mono h (λ v s₁ h₁=> ?_) λ _ _ x=>x);obtain ⟨e,t,od,rfl,⟨bm,N,nm,q,bs,hdct,sn,sub,ab,col,dd,k0,k1,k2,k3,k5,mN,hC,hN,hi,T⟩,he,hE⟩:=h₁;have hcB:(Value.ref C::bm).contains (.type "BaseException")=true:=by rw [List.contains_cons,T.hasType PySem.F.excBase_ValueError.hasBase,Bool.or_true]
  obtain ⟨hp,g,d,tk,os⟩:=s₁
  repeat (first | with_reducible refine wpAny_loadPart_at he ?_ | with_reducible refine wpAny_loadPart_at hC ?_ | (with_reducible refine wpAny_isSubtype_exc hC ?_;rw [hcB]) | wp_step)
  exact wpAny_raiseNew_none hh hE
end HT
namespace L2
open PySem PySem.Spec PyProof.Rows PySem.W
structure MkI (K:PySem.W.Frag) (C fi:Addr):Prop where
  ini:HT.iniIn K C fi=true
  fn:isFn K (.ref fi)=true
  kp:keepIn K (.ref C)=true
def Je (E:XK) (C:Addr) (sp:Sp) (t:TA):TS:=λ _ σ H=>t σ H λ vs H1=>vs.length<=900/\∀ a,H1 a=none->sp (.ref a::vs) (upd H1 a (xnO a C none)) (λ v H2=>v= .non/\∃ od,H2 a=some (xnO a C od)/\E (.ref C) od (bar a H2)) E0
theorem N3 {P:Program} {w:World} {K:PySem.W.Frag} {mg:Str->Option Value} {base:Heap} {N:List Str} {qual:Str} {scope:Scope} {f:Addr} {cd:Value} {A:Around} {outer:List Env} {s₀:Shared} {H₀:Hp} {E:XK} {k:Nat} {x:Str} {C fi:Addr} {fd:FuncData} {ps:List Str} {sp:Sp} {e₀:Expr} {rest:List Expr} {np cpos pos:Pos} {t:TA}
    (hm:mg x=some (.ref C)) (M:MkI K C fi) (F:FnOk P w K mg base CX0 k fi fd ps sp) (hb:Binds K fd ps []) (hr:Room (k+1) (A.deeper (envOfC qual scope s₀.heap.objs.size f cd)))
    (ha:PA (Bw (CXE P w) P w K mg base N qual scope f cd A outer s₀ H₀ E) (e₀::rest) t)
    (he:starEach (e₀::rest) (envOfC qual scope s₀.heap.objs.size f cd)=(false,eval e₀ (envOfC qual scope s₀.heap.objs.size f cd))::starEach rest (envOfC qual scope s₀.heap.objs.size f cd):=by rfl)
    (hpl:(backTo cpos (starEach rest (envOfC qual scope s₀.heap.objs.size f cd))).any (·.1)=false:=by rfl)
    (hg:Gl (Bw (CXE P w) P w K mg base N qual scope f cd A outer s₀ H₀ E) x:=by rfl) (hd:(x == ("__debug__":Str))=false:=by decide):
    PS (Bw (CXE P w) P w K mg base N qual scope f cd A outer s₀ H₀ E) (.Raise (some (.Call (.Name x np) (e₀::rest) [] cpos)) none pos) (Je E C sp t):=by
  intro pins s σ H D I h;rw [arm_exec_Raise];refine wpAny_bind (wpAny_standAt ?_);show wpAny _ _ (raiseStmt _ (some (do let v <-eval (.Call (.Name x np) (e₀::rest) [] cpos) (envOfC qual scope s₀.heap.objs.size f cd);standAt pos;pure v)) none) _ _ _;refine HT.raise_made (C:=C) (fi:=fi) (I.ok.hd rfl) (wpAny_bind (wpAny_mono (Q:=λ v s₁=>∃ e t od,v= .ref e/\HT.IniAt s₁.heap C fi/\s₁.heap.get? e=some ⟨.ref C,od, .fields #[.ref t, .none, .none, .none, .bool false, .none], #[]⟩/\(Bw (CXE P w) P w K mg base N qual scope f cd A outer s₀ H₀ E).xe (.ref e) s₁) ?_ (λ v s₃ h₃=>wpAny_bind (wpAny_standAt (wpAny_pure h₃))) λ _ _ x=>x));refine wpAny_Call_Name_kw (CQ I hg hm ?_ hd);refine PySem.W.callWith_K (h₀:=base) I.ok.mod.kin M.kp (thn (ha cpos pins s σ H _ I h) λ us s1 ⟨vs,H1,I1,r,hl,q⟩=>⟨I1.kIn,?_⟩) he hpl;have hq:=q (s1.heap.objs.size+1) (I1.hok.fresh (Nat.le_succ _));have hl':us.length<=1000:=by rw [<-r.length];omega
  have kp:∀ b o,s1.heap.get? b=some o->((s1.heap.push { cls:= .type "tuple",data:= .seq us.toArray }).push { cls:= .ref C,data:= .fields #[.ref s1.heap.objs.size, .none, .none, .none, .bool false, .none] }).get? b=some o:=λ b o e=>Heap.get?_push_of_some _ (Heap.get?_push_of_some _ e);have hget:((s1.heap.push { cls:= .type "tuple",data:= .seq us.toArray }).push { cls:= .ref C,data:= .fields #[.ref s1.heap.objs.size, .none, .none, .none, .bool false, .none] }).get? (s1.heap.objs.size+1)=some { cls:= .ref C,data:= .fields #[.ref s1.heap.objs.size, .none, .none, .none, .bool false, .none] }:=by heap_get
  have I2:=I1.laid (a:=s1.heap.objs.size+1) (o:=xnO (s1.heap.objs.size+1) C none) (t':=s1.toks) kp (Nat.le_succ _) (Pz hget);have r2:Vals (V.ref (s1.heap.objs.size+1)::vs) (Value.ref (s1.heap.objs.size+1)::us):= .cons rfl r;have hlen:(Value.ref (s1.heap.objs.size+1)::us).length=ps.length:=by
    have e:=r2.length;rw [F.len _ _ _ _ hq] at e;exact e.symm
  refine wpAny_call (HT.exc_make I1.kIn (HT.ini_of I1.kIn M.ini) (beq_iff_eq.mp M.fn) hl' (codeAny_mono (F.run _ _ _ _ ⟨Value.ref (s1.heap.objs.size+1)::us,[]⟩ (Value.ref (s1.heap.objs.size+1)::us) _ _ E0 (hr.make C us [])
    (I2.env0.make C us []) (by have:=hb _ (Value.ref (s1.heap.objs.size+1)::us) I2.kIn (by simpa using hlen);simpa using this) r2 hq) λ r s' hq'=> ?_))
  cases r with
  | error e=>exact False.elim hq'
  | ok fl=>
    cases fl with
    | ret u=>
      obtain ⟨v,H',I3,rv,ev,od,e3,q3⟩:=I2.after hq';subst ev;obtain ⟨⟨t0,he3⟩,_⟩:=(show ObjOk P w H' s'.heap (s1.heap.objs.size+1) (xnO (s1.heap.objs.size+1) C od) from I3.hok _ _ e3);refine ⟨rv,⟨s1.heap.objs.size+1,t0,od,rfl,HT.ini_of I3.kIn M.ini,he3,M3 I3 he3 e3 ?_ q3⟩⟩;exact Heap.get?_none_of_le (Nat.le_trans I1.sz (Nat.le_succ _))
    | next=>exact False.elim hq'
    | brk=>exact False.elim hq'
    | cont=>exact False.elim hq'
def LI (P:Program) (w:World) (K:PySem.W.Frag) (mg:Str->Option Value) (base:Heap) (x:Str) (C:Addr) (k:Nat) (ps:List Str) (sp:Sp):Prop:=
  ∃ fi fd,mg x=some (.ref C)/\MkI K C fi/\FnOk P w K mg base CX0 k fi fd ps sp/\Binds K fd ps []
theorem NW {P:Program} {w:World} {K:PySem.W.Frag} {mg:Str->Option Value} {base:Heap} {N:List Str} {qual:Str} {scope:Scope} {f:Addr} {cd:Value} {A:Around} {outer:List Env} {s₀:Shared} {H₀:Hp} {E:XK} {k:Nat} {x:Str} {C:Addr} {ps:List Str} {sp:Sp} {e₀:Expr} {rest:List Expr} {np cpos pos:Pos} {t:TA}
    (h:LI P w K mg base x C k ps sp) (hr:Room (k+1) (A.deeper (envOfC qual scope s₀.heap.objs.size f cd))) (ha:PA (Bw (CXE P w) P w K mg base N qual scope f cd A outer s₀ H₀ E) (e₀::rest) t)
    (he:starEach (e₀::rest) (envOfC qual scope s₀.heap.objs.size f cd)=(false,eval e₀ (envOfC qual scope s₀.heap.objs.size f cd))::starEach rest (envOfC qual scope s₀.heap.objs.size f cd):=by rfl)
    (hpl:(backTo cpos (starEach rest (envOfC qual scope s₀.heap.objs.size f cd))).any (·.1)=false:=by rfl)
    (hg:Gl (Bw (CXE P w) P w K mg base N qual scope f cd A outer s₀ H₀ E) x:=by rfl) (hd:(x == ("__debug__":Str))=false:=by decide):
    PS (Bw (CXE P w) P w K mg base N qual scope f cd A outer s₀ H₀ E) (.Raise (some (.Call (.Name x np) (e₀::rest) [] cpos)) none pos) (Je E C sp t):=by
  obtain ⟨fi,fd,hm,M,F,hb⟩:=h;exact N3 hm M F hb hr ha he hpl hg hd
section
variable {K:PySem.W.Frag} {σ:St} {H:Hp} {Q:VK} {D:Ends} {f:Str} {to tv te:TE} {t:TA} {E:XK} {C:Addr} {sp:Sp} {ts:List TE} {out:Str}
theorem GT (h:findIn K (.ref C) f=some none):takerIn K C f=some none:=by unfold takerIn;rw [h];rfl
theorem OZ (h:t σ H λ vs H1=>∃ a C od fi z,vs=[.ref a, .str z]/\H1 a=some (xnO a C od)/\HT.iniIn K C fi=true/\Q .non H1):Pa K t σ H Q:=h
theorem Mx (h:tv σ H λ y H1=>to σ H1 λ x H2=>∃ a C od,x= .ref a/\H2 a=some (xnO a C od)/\XSet K C/\takerIn K C f=some none/\
  ((od=none/\∀ dx,H2 dx=none->D.nx σ (upd (upd H2 dx (xdO dx [(f,y)])) a (xnO a C (some dx))))\/∃ dx fs,od=some dx/\H2 dx=some (xdO dx fs)/\fs.length<1000/\D.nx σ (upd H2 dx (xdO dx (AO f y fs))))):SI K f to tv D σ H:=h
theorem Mq (h:to σ H λ v H1=>∃ a C dx fs y,v= .ref a/\H1 a=some (EB a C (some dx))/\H1 dx=some (xdO dx fs)/\fs.lookup f=some y/\XKind K C/\findIn K (.ref C) f=some none/\Q y H1):Su K f to σ H Q:=h
theorem Py (h:te σ H λ v H1=>(∃ i:Int,v= .int i/\i.natAbs.log2<1920/\Q (.str (Str.ofString (toString i))) H1)\/∃ x:Str,v= .str x/\x.length<=100000/\Q (.str x) H1):Ys te σ H Q:=h
theorem GF (h:te σ H λ v H1=>∃ y,v= .str y/\(out++y).length<=100000/\IB ts (out++y) σ H1 Q):IB (te::ts) out σ H Q:=h
theorem Ng (h:Q (.str out) H):IB [] out σ H Q:=h
theorem Na (h:t σ H λ vs H1=>vs.length<=900/\∀ a,H1 a=none->sp (.ref a::vs) (upd H1 a (xnO a C none)) (λ v H2=>v= .non/\∃ od,H2 a=some (xnO a C od)/\E (.ref C) od (bar a H2)) E0):Je E C sp t D σ H:=h
end
end L2
namespace L2
open PySem PySem.Spec PyProof.Rows
section
variable {X:Cx} {elts:List Expr} {k:Nat} {tpos:Pos}
end
section
variable {K:PySem.W.Frag} {H:Hp} {i1 i2 off:Nat} {z:Str}
end
end L2
namespace L2
open PySem PySem.Spec PyProof.Rows PySem.W
section
variable {prog:Program} {w:World} {A:Around} {E:Value->Shared->Prop} {s:Shared}
def Ta (t:Addr) (b:Bool) (TI:Addr) (v:Value):Obj:={ cls:= .type "zip",data:= .fields #[rawInt t, .bool b, .bool false, .ref TI,v] }
structure ZipAg (t1 t2:Bool) (h:Heap) (z TI i1 i2 l1 l2 t:Addr) (k:Nat):Prop where
  hz:∃ b v,h.get? z=some (Ta t b TI v)
  ht:∃ o,h.get? t=some o
  hTI:IsPair h TI (.ref i1) (.ref i2)
  h1:Bm t1 h i1 l1 k
  h2:Bm t2 h i2 l2 k
def Zst (t1 t2:Bool) (h:Heap) (z TI TO i1 i2 l1 l2:Addr) (k:Nat):Prop:=ZipSt t1 t2 h z TI TO i1 i2 l1 l2 k\/∃ t,ZipAg t1 t2 h z TI i1 i2 l1 l2 t k/\t≠i1/\t≠i2/\t≠z
theorem Zst.at' {t1 t2:Bool} {h h':Heap} {z TI TO i1 i2 l1 l2 D:Addr} {k:Nat} (Z:Zst t1 t2 h z TI TO i1 i2 l1 l2 k) (n:∀ c∈[z,TI,TO,i1,i2],c≠D) (kp:∀ c o,c≠D->h.get? c=some o->h'.get? c=some o) (hD:∃ o,h'.get? D=some o):Zst t1 t2 h' z TI TO i1 i2 l1 l2 k:=by
  have kz:=λ o=>kp z o (n z (by simp));have kTI:=λ o=>kp TI o (n TI (by simp));have kTO:=λ o=>kp TO o (n TO (by simp));have k1:=λ o=>kp i1 o (n i1 (by simp));have k2:=λ o=>kp i2 o (n i2 (by simp));rcases Z with ⟨hz,hTI,⟨c,d,hTO⟩,h1,h2⟩ | ⟨t,⟨⟨b,v,hz⟩,⟨o,ht⟩,hTI,h1,h2⟩,n1⟩
  · exact .inl ⟨kz _ hz,kTI _ hTI,⟨c,d,kTO _ hTO⟩,Ay h1 λ o e=>k1 o e,Ay h2 λ o e=>k2 o e⟩
  · refine .inr ⟨t,⟨⟨b,v,kz _ hz⟩,?_,kTI _ hTI,Ay h1 λ o e=>k1 o e,Ay h2 λ o e=>k2 o e⟩,n1⟩;by_cases e:t=D
    · rw [e];exact hD
    · exact ⟨o,kp t o e ht⟩
end
section
variable {X:Cx} {pins:List (Addr × Obj)} {σ:St} {H:Hp} {s:Shared} {A:Around} {E:Value->Shared->Prop}
end
section
variable {X:Cx} {K:PySem.W.Frag}
end
end L2
namespace L2
open PySem PySem.Spec PyProof.Rows
def SS (P:Program) (w:World) (K:PySem.W.Frag) (mg:Str->Option Value) (base:Heap) (k:Nat) (f:Addr) (sp:Sp):Prop:=
  ∃ fd ps,PySem.W.keepIn K (.ref f)=true/\FnOk P w K mg base (CXE P w) k f fd ps sp/\Binds K fd ps []
theorem CallE.val {P:Program} {w:World} {K:PySem.W.Frag} {mg:Str->Option Value} {base:Heap} {x:Str} {k:Nat} {ps:List Str} {sp:Sp} (h:CallE P w K mg base x k ps sp):∃ f,mg x=some (.ref f)/\SS P w K mg base k f sp:=
  let ⟨f,fd,hm,hk,F,hb⟩:=h;⟨f,hm,fd,ps,hk,F,hb⟩
section
variable {X:Cx} {e o:Expr} {es:List Expr} {t:TA} {to:TE} {pos:Pos} {S:Addr->Sp->Prop} {E:XK}
end
section
variable {X:Cx} {K:PySem.W.Frag} {tg l:Expr} {ta:TA} {p pos:Pos}
end
section
variable {K:PySem.W.Frag} {σ0:St} {H:Hp} {a:Addr} {xs:List V}
end
section
variable {X:Cx} {scope:Scope} {cx:Str}
end
structure FnA (K:PySem.W.Frag) (m q:Str) (st:Stmt) (ps:List Str) (f:Addr) (fd:FuncData):Prop where
  fn:Fun K m q st f fd
  bi:Binds K fd ps []
section
variable {K:PySem.W.Frag} {mg:Str->Option Value} {m q x:Str} {st:Stmt} {ps:List Str} {f:Addr} {fd:FuncData}
theorem def_mk (a:mg x=some (.ref f)) (F:Fun K x x st f fd) (b:∀ us:List Value,us.length=ps.length->bindArgs fd ⟨us,[]⟩=pure (ps.zip us)):DefAt K mg x st ps f fd:=⟨F,a, .all b⟩
theorem fnA_mk (F:Fun K m q st f fd) (b:∀ us:List Value,us.length=ps.length->bindArgs fd ⟨us,[]⟩=pure (ps.zip us)):FnA K m q st ps f fd:=⟨F, .all b⟩
theorem exc_mk {C:Addr} (a:PySem.W.isClsIn K C=true) (b:PySem.W.findIn K (.ref C) "__getattribute__"=some (some (.builtin "BaseException.__getattribute__"))) (c:PySem.W.findIn K (.ref C) "__getattr__"=some none) (d:PySem.W.mroIn K C (.type "BaseException")=some true) (e:PySem.W.findIn K (.ref C) "__class__"=some (some (.builtin "object.__class__")))
    (f:PySem.W.specialIn K (.builtin "object.__class__") "__get__"=some (some (.builtin "getset_descriptor.__get__"))) (g:PySem.W.takesIn K (.builtin "object.__class__")=some true) (h:PySem.W.mroIn K C (.type "object")=some true):HT.ExcKind K C:=⟨a,b,c,d,e,f,g,h⟩
theorem ci_mk {n:Int} {t:Tok} (h:mg x=some (.int n t)):∃ t,mg x=some (.int n t):=⟨t,h⟩
theorem cs_mk {z:Str} {t:Tok} (h:mg x=some (.str z t)):∃ t,mg x=some (.str z t):=⟨t,h⟩
theorem own_nil:Own mg []:=λ _ h=>by cases h
theorem own_cons {xs:List Str} (a:mg x=none) (h:Own mg xs):Own mg (x::xs):=λ y hy=>by
  rcases List.mem_cons.mp hy with rfl | hy
  · exact a
  · exact h y hy
end
theorem xk_mk {K:PySem.W.Frag} {C:Addr} (h:HT.ExcKind K C) (d:PySem.W.hasDictIn K C=true):XKind K C:=⟨h,d⟩
section
variable {prog:Program} {w:World} {κ:Type} [DecidableEq κ] (kd:KeyKind prog w κ)
inductive Rows2 (h:Heap):List (List κ)->List Value->Prop
  | nil:Rows2 h [] []
  | cons {k:List κ} {b:Addr} {r:List (List κ)} {us:List Value} (e:IsTupleKey kd h k b) (m:Rows2 h r us):Rows2 h (k::r) (.ref b::us)
variable {kd}
theorem Rows2.len {h:Heap} {r:List (List κ)} {us:List Value} (p:Rows2 kd h r us):r.length=us.length:=by
  induction p with
  | nil=>rfl
  | cons _ _ ih=>rw [List.length_cons,List.length_cons,ih]
variable {A:Around} {E:Value->Shared->Prop} {s:Shared}
end
section
variable {prog:Program} {w:World} {κ:Type} [DecidableEq κ] {kd:HeapKind prog w κ} {A:Around} {E:Value->Shared->Prop} {s:Shared}
end
section
variable {P:Program} {w:World} {H:Hp} {h:Heap}
end
end L2
namespace HT
open PySem PySem.Spec PyProof.Rows PySem.W
variable {prog:Program} {w:World} {A:Around} {E:Value->Shared->Prop} {s:Shared}
def rawIt (it d:Addr) (i n ep:Nat) (p q x y:Value) (h:Heap):Prop:=
  h.get? it=some ⟨.type "dict_itemiterator",none, .fields #[p,q, .ref d, .int i 0, .int n 0, .int ep 0,x,y], #[]⟩
theorem rawIt.type {it d:Addr} {i n ep:Nat} {p q x y:Value} (z:rawIt it d i n ep p q x y s.heap):s.TypeIs (.ref it) "dict_itemiterator":=⟨_,z,rfl⟩
def X2 (k v:Value):Obj:=⟨.type "tuple",none, .seq #[k,v], #[]⟩
def rawOwn (it S:Addr) (p q:Value) (h:Heap):Prop:=(p= .none/\q= .bool false)\/∃ a f oa,p=rawInt ((a:Nat):Int)/\q= .bool f/\h.get? a=some oa/\a≠it/\a≠S
theorem rawOwn.to {it S:Addr} {p q:Value} {h h':Heap} (z:rawOwn it S p q h) (k:∀ b o,b≠it->b≠S->h.get? b=some o->h'.get? b=some o):rawOwn it S p q h':=
  z.imp id λ ⟨a,f,oa,h1,h2,h3,h4,h5⟩=>⟨a,f,oa,h1,h2,k a oa h4 h5 h3,h4,h5⟩
def RSt (it d S:Addr) (i n ep:Nat) (h:Heap):Prop:=∃ p q x y,rawIt it d i n ep p q x y h/\rawOwn it S p q h
theorem RSt.to {it d S:Addr} {i n ep:Nat} {h h':Heap} (z:RSt it d S i n ep h) (ne:it≠S) (k:∀ b o,b≠S->h.get? b=some o->h'.get? b=some o):RSt it d S i n ep h':=
  let ⟨p,q,x,y,h1,h2⟩:=z;⟨p,q,x,y,k _ _ ne h1,h2.to λ b o _ hs=>k b o hs⟩
structure PairsAt (es:Array DictEntry) (lo:Addr) (h:Heap) (as:List Addr):Prop where
  up:as.Pairwise (· < ·)
  lo:∀ a∈as,lo<a
  at':∀ (j:Nat) (a:Addr),as[j]?=some a->∃ e,es[j]?=some e/\h.get? a=some (X2 e.key e.val)
theorem PairsAt.to {es:Array DictEntry} {lo:Addr} {h h':Heap} {as:List Addr} (g:PairsAt es lo h as) (k:∀ b o,lo<b->h.get? b=some o->h'.get? b=some o):PairsAt es lo h' as:=
  ⟨g.up,g.lo,λ j a hj=>let ⟨e,h1,h2⟩:=g.at' j a hj;⟨e,h1,k a _ (g.lo a (List.mem_of_getElem? hj)) h2⟩⟩
end HT
namespace L2
open PySem PySem.Spec PyProof.Rows
section
variable {X:Cx} {pins:List (Addr × Obj)} {σ:St} {H H':Hp} {s:Shared} {h':Heap}
end
section
variable {P:Program} {w:World} {H:Hp} {Q:VK} {σ:St} {to:TE} {t:TA} {r:V->List V->Hp->VK->Prop}
end
variable {X:Cx} {o e:Expr} {es:List Expr} {to:TE} {t:TA} {name:Str} {apos cpos:Pos} {id:String} {r:V->List V->Hp->VK->Prop}
end L2
namespace L2
open PySem PySem.Spec PyProof.Rows PySem.W
section
variable {K:PySem.W.Frag} {a b:Addr} {xs zs:List V} {H:Hp} {σ0:St}
end
theorem Iu {X:Cx} (hu:X.A.units+64<cLine):OpR X (compareOp .NotIn) (Xv true):=by
  intro pins s σ H x y v u Q I rx ry h;obtain ⟨p,vs,ds,n,Y,rfl,hp,hn,l,el,rX,ok,q⟩:=h;obtain rfl:u=Value.ref p:=ry;rcases hp with hp | hp
  · obtain ⟨its,r,pl,hz⟩:=I.list (SqL.of hp);obtain ⟨e,he,ha⟩:=GD I hu hn l el rX ok rx r;refine SeqAt.notIn_listAt e pl.isList (λ w hw=>he w (by simpa using hw)) ⟨.bl _,H,I,rfl,?_⟩;rw [show its.toArray.any e=its.any e by simp,ha];exact q
  · obtain ⟨its,r,pl,hz⟩:=I.tuple (SqT.of hp);obtain ⟨e,he,ha⟩:=GD I hu hn l el rX ok rx r;refine SeqAt.notIn_tupleAt e pl (λ w hw=>he w (by simpa using hw)) ⟨.bl _,H,I,rfl,?_⟩;rw [show its.toArray.any e=its.any e by simp,ha];exact q
end L2
namespace L2
open PySem PySem.Spec PyProof.Rows
section
variable {X:Cx} {x m:Str} {C:Addr} {k:Nat} {ps:List Str} {sp:Sp} {E:XK} {o e:Expr} {es:List Expr} {t:TA} {ta:TE} {p pos apos:Pos}
end
structure FunD (K:PySem.W.Frag) (x qual:Str) (st:Stmt) (f:Addr) (fd:FuncData):Prop where
  ex:∃ (oc:Value) (od:Option Addr) (dV kV doc pm:Value) (an:Option Addr) (cdv ct:Value) (osl:Array (Option Value)),
    fd=PySem.W.fnOf x qual (DV st) (BO st) (Ah st) dV kV doc pm an cdv ct/\K.lookup f=some ⟨oc,od, .func fd,osl⟩/\PySem.W.codeIn K cdv qual=true
structure FnAD (K:PySem.W.Frag) (m q:Str) (st:Stmt) (ps:List Str) (f:Addr) (fd:FuncData):Prop where
  fn:FunD K m q st f fd
  bi:Binds K fd ps []
  bn:Binds K fd ps [.none]
end L2
namespace L2
open PySem PySem.Spec PyProof.Rows PySem.W
def IN (ta:TA):TE:=λ σ H Q=>ta σ H λ vs H1=>∃ j:Int,vs=[.int j]/\(-(2 ^ 40)<=j/\j<2 ^ 40)/\j<=100000/\∀ l,H1 l=none->Q (.ref l) (upd H1 l (.lst (((List.range j.toNat).map λ k:Nat=>(k:Int)).map V.int)))
theorem KU {ta:TA} {σ:St} {H:Hp} {Q:VK} (h:ta σ H λ vs H1=>∃ j:Int,vs=[.int j]/\(-(2 ^ 40)<=j/\j<2 ^ 40)/\j<=100000/\∀ l,H1 l=none->Q (.ref l) (upd H1 l (.lst (((List.range j.toNat).map λ k:Nat=>(k:Int)).map V.int)))):IN ta σ H Q:=h
theorem J6 {X:Cx} {a:Expr} {ta:TA} {p p2 pos pos2:Pos} (hgl:Gl X "list") (hml:X.mg "list"=none) (hg:Gl X "range") (hm:X.mg "range"=none) (ha:PA X [a] ta) (hc:X.calm=true:=by rfl)
    (hs:starEach [a] X.env=[(false,eval a X.env)]:=by rfl)
    (hs1:starEach [Expr.Call (.Name "range" p2) [a] [] pos2] X.env=[(false,eval (.Call (.Name "range" p2) [a] [] pos2) X.env)]:=by rfl):
    PE X (.Call (.Name "list" p) [.Call (.Name "range" p2) [a] [] pos2] [] pos) (IN ta):=by
  intro pins s σ H Q I h;have hmid:wpAny (model X.prog X.w) X.A (eval (.Call (.Name "range" p2) [a] [] pos2) X.env) (λ v s1=>∃ r j t u w H1,v=Value.ref r/\Inv X pins σ H1 s1/\IsRange s1.heap r 0 j 1 t u w/\(-(2 ^ 40)<=j/\j<2 ^ 40)/\j<=100000/\∀ l,H1 l=none->Q (.ref l) (upd H1 l (.lst (((List.range j.toNat).map λ k:Nat=>(k:Int)).map V.int)))) X.xe s:=by
    refine Call_ (CC I hg hm boot_range (PyProof.Rows.callWith_type1 (thn (ha pos2 pins s σ H _ I h) λ us s1 ⟨vs,H1,I1,r1,q1⟩=> ?_) hs rfl));obtain ⟨j,e,bd,sm,q⟩:=q1;subst e;cases r1 with
    | cons r rr=>
      cases rr;obtain ⟨t,rfl⟩:=r;refine call_range_1 ?_;exact ⟨_,j,_,t,_,H1,rfl,I1.kept λ b o e=>Heap.get?_push_of_some _ e,IsRange.new ..,bd,sm,q⟩
  refine wpAny_Call_Name_kw (CC I hgl hml AD (PyProof.Rows.callWith_type1 ?_ hs1 rfl));rw [hs1];refine Calls.spliced_cons (thn hmid λ v s1 ⟨r,j,t,u,w,H1,ev,I1,hr,bd,sm,q⟩=>Calls.spliced_nil ?_)
  · subst ev;obtain ⟨b3,b4⟩:=bd;have e0:(j - 0).toNat=j.toNat:=by rw [Int.sub_zero]
    refine call_list_range (I1.ok.hd hc) hr (small_one (by omega) (by omega) (by omega) (by omega)) (M6 0 j) (by omega) λ h' tk acc c keep hg it=> ?_;rw [e0] at it;have hv:Vals (((List.range j.toNat).map λ k:Nat=>(k:Int)).map V.int) acc.toList:=by
      refine Jr (by rw [Array.length_toList,it.1];simp) λ k u hu=> ?_;have hk:k<j.toNat:=by
        have:=(List.getElem?_eq_some_iff.mp hu).1;rw [Array.length_toList,it.1] at this;exact this
      obtain ⟨t,rfl⟩:=it.2 k u (by rw [<-Array.getElem?_toList];exact hu);refine ⟨.int (k:Int),by simp [hk],?_⟩;rw [Int.mul_one,Int.zero_add];exact ⟨t,rfl⟩
    refine ⟨.ref s1.heap.objs.size,_,I1.laid (t':=tk) (o:= .lst (((List.range j.toNat).map λ k:Nat=>(k:Int)).map V.int)) keep (Nat.le_refl _) ⟨?_,acc.toList,c,hv,?_⟩,rfl,q _ (I1.hok.fresh (Nat.le_refl _))⟩
    · rw [List.length_map,List.length_map,List.length_range];exact Nat.le_trans (show _<=100000 by omega) (by decide)
    · rw [hg]
end L2
namespace HT
open PySem PySem.Spec PyProof.Rows PySem.W
def SzSet (a:Addr) (n:Nat) (h:Heap):Prop:=∃ o es ep t,h.get? a=some o/\o.ExactSet/\o.data= .set es ep t/\t.fits es.size=true/\es.size=n/\n<scanBound
theorem SzSet.to {a:Addr} {n:Nat} {h h':Heap} (x:SzSet a n h) (k:∀ o,h.get? a=some o->h'.get? a=some o):SzSet a n h':=by
  obtain ⟨o,es,ep,t,ho,r⟩:=x;exact ⟨o,es,ep,t,k _ ho,r⟩
theorem WSet.sz {prog:Program} {w:World} {a:Addr} {ks:List Int} {h:Heap} (x:WSet prog w a ks h):SzSet a ks.length h:=by
  obtain ⟨o,es,ep,t,ho,hex,hd,_,p,_,b,f,_⟩:=x;have e:es.size=ks.length:=by rw [<-p.length_eq,List.length_map,Array.length_toList]
  exact ⟨o,es,ep,t,ho,hex,hd,f,e,by omega⟩
end HT
namespace L2
open PySem PySem.Spec PyProof.Rows PySem.W
def Ot (X:Cx):List V->Hp->VK->Prop:=λ xs H Q=>∃ (p:Addr) (n:Nat),xs=[.ref p]/\((∃ ks:List Int,H p=some (.ext (HT.WSet X.prog X.w p ks))/\ks.length=n)\/H p=some (.ext (HT.SzSet p n)))/\Q (nV n) H
theorem Lf {X:Cx}:AU X (.builtin "len") (Ot X):=by
  intro pins s σ H xs us Q I r h;obtain ⟨p,n,rfl,hp,q⟩:=h;obtain ⟨u,rfl,rx⟩:=Cg r;cases rx;have S:HT.SzSet p n s.heap:=by
    rcases hp with ⟨ks,hp,rfl⟩ | hp
    · obtain ⟨W,_,_⟩:=I.hok _ _ hp;exact W.sz
    · obtain ⟨W,_,_⟩:=I.hok _ _ hp;exact W
  obtain ⟨o,es,ep,t,ho,hex,hd,hf,rfl,hb⟩:=S;have hb':es.size<4096:=hb;refine call_len_set ho hex hd hf (by omega) ?_;exact ⟨nV es.size,H,I.kept λ b o e=>e,⟨_,rfl⟩,q⟩
theorem Mr {X:Cx} {H:Hp} {Q:VK} {p:Addr} {ks:List Int} (c:H p=some (.ext (HT.WSet X.prog X.w p ks))) (h:Q (nV ks.length) H):Ot X [.ref p] H Q:=⟨p,_,rfl, .inl ⟨ks,c,rfl⟩,h⟩
theorem RX {X:Cx} {H:Hp} {Q:VK} {p:Addr} {n:Nat} (c:H p=some (.ext (HT.SzSet p n))) (h:Q (nV n) H):Ot X [.ref p] H Q:=⟨p,n,rfl, .inr c,h⟩
theorem Fun.okC {P:Program} {w:World} {K:PySem.W.Frag} {mg:Str->Option Value} {base:Heap} {x qual:Str} {st:Stmt} {f:Addr} {fd:FuncData} {N ps:List Str} {k:Nat} {sp:Sp} (F:Fun K x qual st f fd) (S:FnScope N ps (Ah st)) (len:∀ vs H Q E,sp vs H Q E->vs.length=ps.length)
    (hbody:∀ (cdv:Value),PySem.W.codeIn K cdv qual=true->∀ (A:Around) (outer:List Env) (s:Shared) (H:Hp) (vs:List V) (Q:VK) (E:XK),Room k (A.deeper (envOfC qual (Ah st) s.heap.objs.size f cdv))->sp vs H Q E->
      ∃ t,PSs (Bw CX0 P w K mg base N qual (Ah st) f cdv A outer s H E).nox (BO st) t/\t { nx:=λ _ H'=>Q .non H',rt:=Q } (start N vs) H):FnOk P w K mg base CX0 (k+1) f fd ps sp:=by
  obtain ⟨oc,od,kV,doc,pm,an,cdv,ct,osl,rfl,lk,hcd⟩:=F.ex;refine Oc lk hcd S len λ A outer s H vs Q E hr hsp=> ?_;obtain ⟨t,h,q⟩:=hbody cdv hcd A outer s H vs Q E hr hsp;exact ⟨t,h.nox,q⟩
theorem TU {K:PySem.W.Frag} {cd:Value} {q:Str} (h:PySem.W.codeIn K cd q=true):kdsCode K cd=true:=by
  unfold PySem.W.codeIn at h;unfold kdsCode;split at h
  · split at h
    · rename_i ho
      dsimp only;rw [ho]
    · cases h
  · cases h
def Sl (X:Cx) (i:Int):TE:=λ σ H Q=>∀ l,H l=none->Q (.ref l) (upd H l (.ext λ h=>h.SetOf (intKind X.prog X.w) l (λ k=>decide (k=i)) 1))
theorem QJ {X:Cx} {i:Int} {j:Nat} {q:Str} {p2 pos:Pos} (hcd:PySem.W.codeIn X.K X.env.code q=true):PE X (.Set [.Constant (.int i) j p2] 0 pos) (Sl X i):=by
  intro pins s σ H Q I h;rw [arm_eval_Set];refine wpAny_bind (wpAny_standAt ?_);refine wpAny_bind (kds_main I.kIn (TU hcd) λ b=> ?_);rw [kds_star _ rfl,List.map_map];refine kds_core (ts:=(evalEach [PySem.Expr.Constant (.int i) j p2] X.env).map λ t=>do let v <-t;standAt pos;pure v) rfl rfl (by rw [List.length_map,kds_len];show 1<=30;decide) rfl λ led=> ?_;refine kds_all pos _ _ _ ?_;refine wpAny_Constant_int ?_;refine kds_fill_cons ?_;unfold setAdd;refine wpAny_holding (wpAny_bind ((intKind X.prog X.w).pyHash (k:=i) (intKind_is _ _ _ _) ?_));refine wpAny_setAddHashed_of (knd:=intKind X.prog X.w) (k:=i) (S:=λ _=>false) (n:=0) (intKind_is _ _ _ _) rfl ?_ (by decide) λ h' hsb hS'=> ?_
  · exact ⟨_, #[],0,_,Heap.get?_push_size _ rfl,⟨rfl,rfl,rfl⟩,rfl,λ e he=>by simp at he,λ k=>by simp,by decide,by rfl,rfl⟩
  refine kds_fill_nil rfl ?_;have hS:h'.SetOf (intKind X.prog X.w) s.heap.objs.size (λ k=>decide (k=i)) 1:=by
    have e:(λ k':Int=>(λ _:Int=>false) k'||decide (k'=i))=λ k=>decide (k=i):=by funext k;simp
    rw [e] at hS';exact hS'
  refine ⟨.ref s.heap.objs.size,_,I.laid (o:= .ext λ h=>h.SetOf (intKind X.prog X.w) s.heap.objs.size (λ k=>decide (k=i)) 1) (λ b o e=> ?_) (Nat.le_refl _) ⟨hS,?_,λ h1 h2 w1 k1=> ?_⟩,rfl,h _ (I.hok.fresh (Nat.le_refl _))⟩
  · have hb:=Heap.lt_size e;exact (hsb.2 b (Nat.ne_of_lt hb)).trans (Heap.get?_push_of_some _ e)
  · obtain ⟨o,_,_,_,ho,_⟩:=hS;exact ⟨o,ho⟩
  · obtain ⟨o,es,ep,t,ho,r⟩:=w1;exact ⟨o,es,ep,t,k1 _ ho,r⟩
end L2
namespace HT
open PySem PySem.Spec PyProof.Rows PySem.W
variable {prog:Program} {w:World} {A:Around} {E:Value->Shared->Prop} {s:Shared}
theorem K4:entryFor table "set.__sub__"=some Builtin.«frozenset.__sub__» := entryFor_alias (id':="frozenset.__sub__") (by kernel_rfl) rfl (by decide +kernel) (by kernel_rfl)
theorem Gz {v:Value} {Q:Bool->Shared->Prop} (hv:s.TypeIs v "set") (h:Q true s):wpAny (model prog w) A (Builtin.Frozenset.isAnySet v) Q E s:=by
  unfold Builtin.Frozenset.isAnySet orM;refine wpAny_bind (wpAny_isInstance hv sub_set_self ?_);exact wpAny_pure h
theorem Gw {a:Addr} {S:Int->Bool} {n:Nat} {Q:Nat->Shared->Prop} (ha:s.heap.SetOf (intKind prog w) a S n) (h:Q n s):wpAny (model prog w) A (Builtin.Frozenset.sizeOf a) Q E s:=by
  obtain ⟨o,es,ep,t,ho,_,hd,_,_,_,hf,rfl⟩:=ha;unfold Builtin.Frozenset.sizeOf;exact wpAny_bind (wpAny_setEntries_of ho hd hf (wpAny_pure h))
theorem Fo {a:Addr} {Q:Value->Shared->Prop} (ha:s.TypeIs (.ref a) "set") (h:Q (.type "set") s):wpAny (model prog w) A (Builtin.Frozenset.baseOf a) Q E s:=by
  unfold Builtin.Frozenset.baseOf;exact wpAny_bind (wpAny_isInstance ha sub_set_self (wpAny_pure h))
theorem sub_open {a b:Addr} {Q:Value->Shared->Prop} (ha:s.TypeIs (.ref a) "set") (hb:s.TypeIs (.ref b) "set")
    (h:wpAny (model prog w) A.in1 (Builtin.Frozenset.difference "frozenset.__sub__" a (.ref b)) (λ v s'=>v≠ .notImplemented/\Q v s') E s):
    wpAny (model prog w) A (binaryOp .Sub (.ref a) (.ref b)) Q E s:=by
  refine wpAny_binaryOp_same ha hb PySem.F.fills_set_sub PySem.F.slot_set_sub ?_;refine wpAny_call_entry PySem.F.slot_set_sub ha K4 ?_ (PySem.F.args_set_sub_2 _ _);show wpAny _ _ (Builtin.Frozenset.slot1 "__sub__" ⟨[.ref a, .ref b],[]⟩ >>= _) _ _ _;unfold Builtin.Frozenset.slot1 slotArgs;simp only [List.isEmpty_nil,Bool.not_true,Bool.false_eq_true, ↓reduceIte,bind_assoc,List.length_cons,List.length_nil,bne_self_eq_false,pure_bind];unfold andM;refine wpAny_bind (wpAny_bind (Gz ha ?_));refine Gz hb ?_;rw [if_neg (by decide)];unfold Builtin.Frozenset.addrOf;refine wpAny_bind (wpAny_pure ?_);refine wpAny_bind (wpAny_mono h (λ v s' hq=> ?_) λ _ _ x=>x);exact wpAny_pure ⟨v,rfl,hq⟩
theorem diff_open {a b:Addr} {S1:Int->Bool} {n m:Nat} {S2:Int->Bool} {Q:Value->Shared->Prop} (ha:s.heap.SetOf (intKind prog w) a S1 n) (hb:s.heap.SetOf (intKind prog w) b S2 m)
    (h1:n / 4>m->wpAny (model prog w) A (do
      let r <-Builtin.Frozenset.copyOf a
      holding [r] (Builtin.Frozenset.differenceUpdate "frozenset.__sub__" (<-Builtin.Frozenset.addrOf r) (.ref b))
      return r) Q E s)
    (h2:¬ n / 4>m->wpAny (model prog w) A (do
      let result <-newSet (<-Builtin.Frozenset.baseOf a);let r <-Builtin.Frozenset.addrOf result;let was <-setEpoch a
      holding [result] do
        for (h,x) in <-(setWalkUnseen a [b,r] (some r)) do
          holding [x] do
            let there <-pure (<-setFind b x h).isSome
            if !there then
              let _ <-setAddHashed r x h
          Builtin.Frozenset.unchanged "frozenset.__sub__" a was
      return result) Q E s):wpAny (model prog w) A (Builtin.Frozenset.difference "frozenset.__sub__" a (.ref b)) Q E s:=by
  have tb:s.TypeIs (.ref b) "set":=Heap.SetOf.typeIs hb;unfold Builtin.Frozenset.difference;dsimp only;refine wpAny_bind (Gz tb ?_);rw [if_neg (by decide)];refine wpAny_bind (m:=Builtin.Frozenset.addrOf (.ref b)) (wpAny_pure ?_);rw [if_neg (by simp)];rw [if_pos rfl];refine wpAny_bind (Gw hb ?_);refine wpAny_bind (Gw ha ?_);by_cases hc:n / 4>m
  · rw [if_pos hc];exact wpAny_bind (wpAny_rule (h1 hc))
  · rw [if_neg hc];exact h2 hc
def Jh (a:Addr) (was:Nat) (h:Heap):Prop:=∃ o es t,h.get? a=some o/\o.data= .set es was t/\t.fits es.size=true
theorem Ke {K:Type} [DecidableEq K] {knd:KeyKind prog w K} {a r:Addr} {S:K->Bool} {n:Nat} {h h':Heap} (x:h.SetOf knd a S n) (sb:Heap.SameBut r h h') (ne:a≠r):h'.SetOf knd a S n:=by
  obtain ⟨o,es,ep,t,ho,q⟩:=x;exact ⟨o,es,ep,t,(sb.2 a ne).trans ho,q⟩
theorem Hw {a b r:Addr} {i:Int} {was:Nat} (ne:a≠r) (nb:b≠r):∀ (L:List (Int × Value)) (s:Shared) (S:Int->Bool) (n:Nat) {Q:PUnit->Shared->Prop},ElemsOf (intKind prog w) L->(L.map kOf).Nodup->(∀ e∈L,S (kOf e)=false)->s.heap.SetOf (intKind prog w) r S n->s.heap.SetOf (intKind prog w) b (λ k=>decide (k=i)) 1->Jh a was s.heap->n+L.length<1000->
    (∀ h',Heap.SameBut r s.heap h'->(∃ S',h'.SetOf (intKind prog w) r S' (n+(L.filter λ e=> !decide (kOf e=i)).length))->Q PUnit.unit { s with heap:=h' })->
    wpAny (model prog w) A (forIn L PUnit.unit λ x __s=>match x with
      | (h,x)=>do
        holding [x] do
          let __do_lift <-setFind b x h;let there <-pure __do_lift.isSome
          if (!there)=true then do
              let _ <-setAddHashed r x h
              pure ()
            else pure ()
        Builtin.Frozenset.unchanged "frozenset.__sub__" a was
        pure (ForInStep.yield PUnit.unit)) Q E s
  | [],s,S,n,Q,_,_,_,hr,_,_,_,hQ=>by
    rw [List.forIn_nil];exact wpAny_pure (hQ s.heap (Heap.SameBut.refl r s.heap) ⟨S,hr⟩)
  | (hh,v)::L,s,S,n,Q,hel,hnd,hS,hr,hb,hep,hn,hQ=>by
    rw [List.forIn_cons];obtain ⟨⟨k,hk,e1⟩,hsc⟩:=hel.head;have e1:hh=(intKind prog w).hash k:=e1;obtain ⟨tk,etk⟩:=Value.isInt_shape hk;have ek:kOf (hh,v)=k:=by
      have etk:v= .int k tk:=etk;unfold kOf;rw [etk]
    rw [List.map_cons,ek,List.nodup_cons] at hnd;have hSk:S k=false:=by have:=hS (hh,v) (List.mem_cons_self ..);rwa [ek] at this
    have unch:∀ (h':Heap) (P:PUnit->Shared->Prop),Jh a was h'->P PUnit.unit { s with heap:=h' }->wpAny (model prog w) A (Builtin.Frozenset.unchanged "frozenset.__sub__" a was) P E { s with heap:=h' }:=λ h' P ⟨o,es,t,ho,hd,hf⟩ hP=>by
      unfold Builtin.Frozenset.unchanged;refine wpAny_bind (wpAny_setEpoch_of (s:={ s with heap:=h' }) ho hd hf ?_);rw [if_neg (by simp)];exact wpAny_pure hP
    refine wpAny_bind ?_;dsimp only;rw [e1];refine wpAny_bind (wpAny_holding (wpAny_bind (wpAny_setFind_of (knd:=intKind prog w) (k:=k) hk hsc hb λ rr hrr=> ?_)));refine wpAny_bind (wpAny_pure ?_);by_cases z:k=i
    · have z1:rr.isSome=true:=by rw [hrr];exact decide_eq_true z
      rw [z1,if_neg (by decide)];refine wpAny_pure ?_;refine wpAny_bind (unch s.heap _ hep (wpAny_pure ?_));refine Hw ne nb L s S n hel.tail hnd.2 (λ e he=>hS e (List.mem_cons_of_mem _ he)) hr hb hep (by rw [List.length_cons] at hn;omega) λ h' sb q=>hQ h' sb ?_;rw [List.filter_cons,ek,decide_eq_true z];exact q
    · have z1:rr.isSome=false:=by rw [hrr];exact decide_eq_false z
      rw [z1,if_pos (by decide)];rw [List.length_cons] at hn;refine wpAny_bind (wpAny_setAddHashed_of (knd:=intKind prog w) (k:=k) hk hsc hr (show n+1<4096 by omega) λ h' sb hS'=> ?_);refine wpAny_pure ?_;rw [hSk,if_neg (by decide)] at hS';have hep':Jh a was h':=by
        obtain ⟨o,es,t,ho,q⟩:=hep;exact ⟨o,es,t,(sb.2 a ne).trans ho,q⟩
      refine wpAny_bind (unch h' _ hep' (wpAny_pure ?_));refine Hw ne nb L { s with heap:=h' } _ (n+1) hel.tail hnd.2 (λ e he=> ?_) hS' (Ke hb sb nb) hep' (by omega) λ h2 sb2 q=>hQ h2 (sb.trans sb2) ?_
      · rw [hS e (List.mem_cons_of_mem _ he),Bool.false_or];exact decide_eq_false λ q=>hnd.1 (by rw [<-q];exact List.mem_map.mpr ⟨e,he,rfl⟩)
      · rw [List.filter_cons,ek,decide_eq_false z];rw [if_pos (by decide),List.length_cons];obtain ⟨S',q⟩:=q;exact ⟨S',by rw [show n+((L.filter λ e=> !decide (kOf e=i)).length+1)=n+1+(L.filter λ e=> !decide (kOf e=i)).length by omega];exact q⟩
section
variable {s:Shared}
theorem walk_of {a:Addr} {es:Array (Int × Value)} {ep:Nat} {t:SetTable} {Q:Array (Int × Value)->Shared->Prop} (hS:RawS a es ep t s.heap) (tk:TOk (!bt w) t)
    (h:∀ (arr:Array (Int × Value)) (d:Drawn),arr.toList.Perm es.toList->Q arr { s with drawn:=d }):wpAny (model prog w) A (setWalk a) Q E s:=by
  unfold setWalk;refine wpAny_bind (hS.state ?_);dsimp only;refine wpAny_bind (wpAny_bind (wpAny_askSetting (wpAny_pure ?_)));refine wpAny_ite_split (λ z=> ?_) λ z=> ?_
  · refine wpAny_bind (wpAny_askSetting ?_);exact wpAny_pure (h _ s.drawn (Ir _ _))
  · refine wpAny_ite_split (λ z2=> ?_) λ z2=> ?_
    · refine wpAny_bind (Mt _ _ _ (by rw [Array.length_toList];exact Nat.le_refl _) λ ys d p=> ?_);exact wpAny_pure (h ys.toArray d p)
    · have hl:t.led=true:=by
        have z:¬ bt w=true:=z;have:=tk.led;cases hb:bt w with
        | true=>exact absurd hb z
        | false=>rw [hb] at this;simpa using this
      refine wpAny_bind ?_;refine wpAny_ite_split (λ z3=> ?_) λ z3=> ?_
      · have z3:(!t.led&&decide (es.size>1))=true:=z3;rw [hl] at z3;cases z3
      · exact wpAny_pure (wpAny_pure (h es s.drawn (List.Perm.refl _)))
theorem Qg {Q:Bool->Shared->Prop}:∀ (as:List Addr),(∀ a∈as,∃ S n,s.heap.SetOf (intKind prog w) a S n)->Q true s->wpAny (model prog w) A (setsQuiet as) Q E s:=by
  intro as h hQ;unfold setsQuiet;dsimp only;refine wpAny_bind (wpAny_mono (Q:=λ r s'=>r=⟨none,PUnit.unit⟩/\s'=s) ?_ (λ r s' hq=> ?_) λ _ _ x=>x)
  · induction as with
    | nil=>
      rw [List.forIn_nil];exact wpAny_pure ⟨rfl,rfl⟩
    | cons a as ih=>
      rw [List.forIn_cons];obtain ⟨S,n,o,es,ep,t,ho,_,hd,hel,_,_,hf,_⟩:=h a (List.mem_cons_self ..);refine wpAny_bind (wpAny_bind (wpAny_setEntries_of ho hd hf ?_));have inner : ∀ (L : List (Int × Value)), ElemsOf (intKind prog w) L -> ∀ (P : Option Bool × Unit -> Shared -> Prop), P (none, ()) s -> wpAny (model prog w) A (forIn L ((none, ()) : Option Bool × Unit) λ x __s =>
            match x.snd with
            | Value.ref a=>do
              let __do_lift <-specialOf x.snd (Str.ofString "__eq__")
              if (__do_lift != some (Value.builtin "object.__eq__"))=true then pure (ForInStep.done (some false,()))
                else pure (ForInStep.yield (none,()))
            | x=>pure (ForInStep.yield (none,()))) P E s:=by
        intro L
        induction L with
        | nil=>
          intro _ P hP;rw [List.forIn_nil];exact wpAny_pure hP
        | cons e L ihL=>
          intro hl P hP;rw [List.forIn_cons];obtain ⟨k,tk,ek,_⟩:=EZ hl (List.mem_cons_self ..);refine wpAny_bind ?_;rw [ek];exact wpAny_pure (ihL hl.tail P hP)
      refine wpAny_bind ?_;rw [<-Array.forIn_toList];refine inner es.toList hel _ ?_;exact wpAny_pure (ih λ a' ha'=>h a' (List.mem_cons_of_mem _ ha'))
  · obtain ⟨rfl,rfl⟩:=hq;exact wpAny_pure hQ
theorem Ny {a b r:Addr} {es:Array (Int × Value)} {ep:Nat} {t:SetTable} {ks:List Int} {S:Int->Bool} {n:Nat} {Q:Array (Int × Value)->Shared->Prop} (hS:RawS a es ep t s.heap) (tk:TOk (!bt w) t) (ha:∃ S n,s.heap.SetOf (intKind prog w) a S n) (hb:s.heap.SetOf (intKind prog w) b S n) (hr:s.heap.SetOf (intKind prog w) r (λ _=>false) 0)
    (h:∀ (arr:Array (Int × Value)) (d:Drawn) (h':Heap),arr.toList.Perm es.toList->Heap.SameBut r s.heap h'->h'.SetOf (intKind prog w) r (λ _=>false) 0->Q arr { s with heap:=h',drawn:=d }):wpAny (model prog w) A (setWalkUnseen a [b,r] (some r)) Q E s:=by
  have plainW:wpAny (model prog w) A (setWalk a) Q E s:=walk_of hS tk λ arr d p=>h arr d s.heap p (Heap.SameBut.refl r s.heap) hr;unfold setWalkUnseen;refine wpAny_bind (hS.state ?_);dsimp only;refine wpAny_bind (wpAny_bind (wpAny_askSetting (wpAny_pure ?_)));refine wpAny_ite_split (λ z=> ?_) λ z=> ?_
  · exact plainW
  refine wpAny_bind (Qg [a,b,r] (λ c hc=> ?_) ?_)
  · simp only [List.mem_cons,List.not_mem_nil,or_false] at hc;rcases hc with rfl | rfl | rfl
    · exact ha
    · exact ⟨_,_,hb⟩
    · exact ⟨_,_,hr⟩
  rw [if_neg (by decide)];refine wpAny_bind (wpAny_rule ?_);obtain ⟨o,ef,ep2,tf,ho,hex,hd,hel,hmem,hbd,hf,hn⟩:=id hr;refine wpAny_bind (wpAny_setState_of ho hd hf ?_);dsimp only;refine wpAny_ite_split (λ z2=> ?_) λ z2=> ?_
  · have g:=SetOf_store (knd:=intKind prog w) (S':=λ _=>false) (es':=ef) (t':={ tf with led:=tf.led&&t.led,plain:=tf.plain&&t.plain }) ho hex hd hel hmem hbd hf;refine wpAny_bind (wpAny_storeSet_of ho hd ?_ (fits_of_scanBound hbd));refine wpAny_pure (h es s.drawn _ (List.Perm.refl _) (Heap.SameBut.update s.heap r _) ?_);have g2:=g.2;rw [hn] at g2;exact g2
  · exact wpAny_pure (h es s.drawn s.heap (List.Perm.refl _) (Heap.SameBut.refl r s.heap) hr)
theorem WSet.setOf {a:Addr} {ks:List Int} {h:Heap} (x:WSet prog w a ks h):h.SetOf (intKind prog w) a (λ k=>decide (k∈ks)) ks.length:=by
  obtain ⟨o,es,ep,t,ho,hex,hd,hel,p,_,b,f,_⟩:=x;refine ⟨o,es,ep,t,ho,hex,hd,hel,λ k=> ?_,b,f,by rw [<-p.length_eq,List.length_map,Array.length_toList]⟩;rw [decide_eq_true_eq];constructor
  · intro hk;obtain ⟨e,he,ek⟩:=List.mem_map.mp (p.mem_iff.mpr hk);obtain ⟨k',t',e2,e3⟩:=EZ hel he;refine ⟨e,he,?_⟩;rw [e2,show k'=k from e3.symm.trans ek];exact intKind_is _ _ _ _
  · rintro ⟨e,he,hk⟩;obtain ⟨t',ht⟩:=Value.isInt_shape hk;refine p.mem_iff.mp (List.mem_map.mpr ⟨e,he,?_⟩);unfold kOf;rw [ht]
theorem diff_small {a b:Addr} {ks:List Int} {i:Int} {Q:Value->Shared->Prop} (ha:WSet prog w a ks s.heap) (hb:s.heap.SetOf (intKind prog w) b (λ k=>decide (k=i)) 1) (hl:ks.length<=16)
    (h:∀ (h':Heap) (d:Drawn),SzSet s.heap.objs.size (ks.filter λ k=> !decide (k=i)).length h'->(∀ b o,s.heap.get? b=some o->h'.get? b=some o)->Q (.ref s.heap.objs.size) { s with heap:=h',drawn:=d }):
    wpAny (model prog w) A (do
      let result <-newSet (<-Builtin.Frozenset.baseOf a);let r <-Builtin.Frozenset.addrOf result;let was <-setEpoch a
      holding [result] do
        for (h,x) in <-(setWalkUnseen a [b,r] (some r)) do
          holding [x] do
            let there <-pure (<-setFind b x h).isSome
            if !there then
              let _ <-setAddHashed r x h
          Builtin.Frozenset.unchanged "frozenset.__sub__" a was
      return result) Q E s:=by
  have sa:=ha.setOf;obtain ⟨o,es,ep,t,ho,hex,hd,hel,pm,nd,hbd,hf,tk⟩:=ha;have la:=Heap.lt_size ho;have lb:b<s.heap.objs.size:=by obtain ⟨ob,_,_,_,hob,_⟩:=hb;exact Heap.lt_size hob
  refine wpAny_bind (Fo ⟨o,ho,hex.1⟩ ?_);refine wpAny_bind (wpAny_newSet_of (knd:=intKind prog w) λ led hr=> ?_);generalize hH1:s.heap.push { cls:= .type "set",dict:=none,data:= .set #[] 0 (.fresh 0 0 led) }=H1 at hr;have kp:∀ c oc,s.heap.get? c=some oc->H1.get? c=some oc:=λ c oc e=>by rw [<-hH1];exact Heap.get?_push_of_some _ e
  have sa1:H1.SetOf (intKind prog w) a (λ k=>decide (k∈ks)) ks.length:=by
    obtain ⟨o',es',ep',t',ho',q⟩:=sa;exact ⟨o',es',ep',t',kp _ _ ho',q⟩
  have sb1:H1.SetOf (intKind prog w) b (λ k=>decide (k=i)) 1:=by
    obtain ⟨o',es',ep',t',ho',q⟩:=hb;exact ⟨o',es',ep',t',kp _ _ ho',q⟩
  unfold Builtin.Frozenset.addrOf;refine wpAny_bind (wpAny_pure ?_);refine wpAny_bind (wpAny_setEpoch_of (s:={ s with heap:=H1 }) (kp _ _ ho) hd hf ?_);refine wpAny_bind (wpAny_holding ?_);refine wpAny_bind (Ny (s:={ s with heap:=H1 }) (ks:=ks) (hS:=⟨⟨o,kp _ _ ho,hex,hd⟩,hf⟩) tk ⟨_,_,sa1⟩ sb1 hr λ arr d h2 pa sb2 hr2=> ?_);have ne:a≠s.heap.objs.size:=Nat.ne_of_lt la;have nb:b≠s.heap.objs.size:=Nat.ne_of_lt lb;refine wpAny_bind ?_;rw [<-Array.forIn_toList];have pk:(arr.toList.map kOf).Perm ks:=(pa.map kOf).trans pm;have lk:arr.toList.length=ks.length:=by rw [<-pk.length_eq,List.length_map]
  refine Hw (i:=i) ne nb arr.toList _ (λ _=>false) 0 (hel.perm pa) (pk.nodup_iff.mpr nd) (λ _ _=>rfl) hr2 (Ke sb1 sb2 nb) ⟨o,es,t,(sb2.2 a ne).trans (kp _ _ ho),hd,hf⟩ (by omega) λ h3 sb3 q=> ?_;refine wpAny_pure (wpAny_pure (h h3 d ?_ λ c oc e=> ?_))
  · obtain ⟨S',o3,es3,ep3,t3,ho3,hex3,hd3,_,_,hb3,hf3,hn3⟩:=q;refine ⟨o3,es3,ep3,t3,ho3,hex3,hd3,hf3,?_,?_⟩
    · rw [hn3,Nat.zero_add];have e1:(arr.toList.filter λ e=> !decide (kOf e=i)).length=((arr.toList.map kOf).filter λ k=> !decide (k=i)).length:=by
        rw [List.filter_map,List.length_map];rfl
      rw [e1];exact (pk.filter _).length_eq
    · have:=List.length_filter_le (λ k=> !decide (k=i)) ks;show _<4096;omega
  · have hc:=Nat.ne_of_lt (Heap.lt_size e);exact (sb3.2 c hc).trans ((sb2.2 c hc).trans (kp _ _ e))
end
end HT
namespace L2
open PySem PySem.Spec PyProof.Rows PySem.W
def On (K:PySem.W.Frag) (CL:Addr) (j:Nat) (ts:TS) (D:Ends) (σ:St):XK:=λ cls od H'=>∃ C,cls= .ref C/\PySem.W.exmOne K cls (.ref CL)=some true/\
  ∀ (a:Addr),H' a=none->ts (Tj j D) (σ.set j (some (.ref a))) (upd H' a (EB a C od))
def Sj (K:PySem.W.Frag) (CL:Addr) (j i:Nat) (sp:Sp) (ta:TA) (ts:TS):TS:=λ D σ H=>ta σ H λ vs H1=>sp vs H1 (λ v H2=>D.nx (σ.set i (some v)) H2) (On K CL j ts D σ)
theorem Qr {X:Cx} {x n d y:Str} {CL:Addr} {j i k:Nat} {ps:List Str} {sp:Sp} {e:Expr} {es:List Expr} {b₀:Stmt} {suite:List Stmt} {ta:TA} {ts:TS} {xp hp pos dp fp cp ap:Pos} (hst:X.stack=X.env::X.outer) (hf:X.env.frame=some X.env.locals) (hm:X.mg x=some (.ref CL))
    (hN:X.N.Nodup) (hj:X.N[j]?=some n) (hx:X.env.scope.names.lookup n=some .local) (hi:X.N[i]?=some d) (hdl:X.env.scope.names.lookup d=some .local)
    (hF:CallE X.prog X.w X.K X.mg X.base y k ps sp) (hr0:Room k X.A) (ha:∀ (pn:List (Addr × Obj)) (xe:Value->Shared->Prop),PA (X.tryC pn xe) (e::es) ta) (hs:∀ (a:Addr) (xe:Value->Shared->Prop),PSs (X.markC a xe) (b₀::suite) ts)
    (hgy:Gl X y:=by rfl) (hdy:(y == ("__debug__":Str))=false:=by decide) (hg:Gl X x:=by rfl) (hd:(x == ("__debug__":Str))=false:=by decide)
    (he:starEach (e::es) X.env=(false,eval e X.env)::starEach es X.env:=by rfl) (hpl:(backTo cp (starEach es X.env)).any (·.1)=false:=by rfl)
    (hsw:swapsWith (.Call (.Name y fp) (e::es) [] cp) (some (.Name d dp)) ap.line X.env=pure false:=by rfl):
    PS X (.Try [.Assign [.Name d dp] (.Call (.Name y fp) (e::es) [] cp) ap] [.ExceptHandler (some (.Name x xp)) (some n) (b₀::suite) hp] [] [] pos) (Sj X.K CL j i sp ta ts):=by
  intro pins s σ H D I h;refine wpAny_Try_except ?_;have pass:∀ H1 s1 e s',Inv X pins σ H1 s1->CXE X.prog X.w X.stack H1 s1 (On X.K CL j ts D σ) e s'->wpAny (model X.prog X.w) X.A (noteFrame e X.env) (λ _ s₂=>wpAny (model X.prog X.w) X.A (setFlight e none) (λ _ s₃=>wpAny (model X.prog X.w) X.A (handleBy e X.env [.ExceptHandler (some (.Name x xp)) (some n) (b₀::suite) hp]) (SP X pins D) X.xe s₃) X.xe s₂) X.xe s':=by
    intro H1 s1 e s' I1' hc;refine Z3 I1' hst hf hc λ a C t od H' B h3 e0 fl3 u3 di3 inv an q=> ?_;subst e0;obtain ⟨C',eC,hx',hr⟩:=q;cases eC;have I3:=(inv h3 fl3 u3 di3).1;obtain ⟨oa,hoa,hca⟩:=fl3.there;refine wpAny_handleBy_cons (codeAny_handlers_test ?_) (by intro q;cases q);refine Calls.Name_function_global I.ok.kind hg (Calls.loadGlobal_global (by rw [I.ok.glob];exact I.mod.glob.keeps I3.bk) hm ?_) hd;have lt:Looks (model X.prog X.w) h3 (typeOf (.ref a)) (.ref C):=hca▸(Looks.ld hoa).andThen .now;refine Looks.here (s:={ s' with heap:=h3 }) (PySem.W.exm_one (K:=X.K) I3.kIn lt hx') ?_;show codeAny _ _ (.handlers (.ref a) [.ExceptHandler none (some n) (b₀::suite) hp] X.env) _ _;refine codeAny_handlers_suite_as ?_;refine Qz (base:=B) (l:=X.stack) (s:={ s' with heap:=h3 }) fl3.1 fl3.2.2.1 fl3.2.2.2 λ h4 k1 k2 k3 k4 kd4=> ?_;have fl4:B.FlyingW X.stack a (.ref C) (.ref t) h4:=⟨k1,fl3.2.1,k2,k3⟩;have u4:s'.heap.UpToSlots h4:=Hs u3 λ b o e nf=>⟨o.slots,k4 b o e nf⟩;have I4:=(inv h4 fl4 u4 (di3.on kd4 (let ⟨o,e,_⟩:=fl4.there;⟨o,e⟩))).2;refine BZ (v:= .ref a) I4 hN hj (.inl hx) rfl (λ s5 I5=> ?_) (.inr hx);refine wpAny_mono (hs a _ pins s5 _ _ (Tj j D) I5.markC (hr a an)) (λ f s6 hq=> ?_) λ _ _ y=>y;have fin:∀ σ6 H6,Inv X pins σ6 H6 s6->∀ Qf:Shared->Prop,(∀ s7,Inv X pins (σ6.set j none) H6 s7->Qf s7)->wpAny (model X.prog X.w) X.A (do bindName X.env n .none;unbindBehindTheSuite X.env n hp) (λ _ s₃=>Qf s₃) X.xe s6:=λ σ6 H6 I6 Qf hQ=>by
      refine wpAny_bind (bindName_ (BZ (v:= .non) I6 hN hj (.inl hx) rfl (λ s7 I7=> ?_) (.inr hx)));unfold unbindBehindTheSuite;have hl6:j<σ6.length:=by rw [I6.len];exact (List.getElem?_eq_some_iff.mp hj).1
      refine wpAny_onRaise (NS (v:= .non) I7 hN hj hx (by rw [List.getElem?_set_self hl6]) λ s8 I8=> ?_);rw [List.set_set] at I8;exact hQ s8 I8
    show wpAny (model X.prog X.w) X.A (do bindName X.env n .none;unbindBehindTheSuite X.env n hp) (λ _ s₃=>SP X pins D f s₃) X.xe s6;cases f with
    | next=>
      obtain ⟨σ6,H6,I6,q6⟩:=hq;exact fin σ6 H6 (I6.unmark I.ok) _ λ s7 I7=>⟨_,_,I7,q6⟩
    | brk=>
      obtain ⟨σ6,H6,I6,q6⟩:=hq;exact fin σ6 H6 (I6.unmark I.ok) _ λ s7 I7=>⟨_,_,I7,q6⟩
    | cont=>
      obtain ⟨σ6,H6,I6,q6⟩:=hq;exact fin σ6 H6 (I6.unmark I.ok) _ λ s7 I7=>⟨_,_,I7,q6⟩
    | ret u=>
      obtain ⟨v6,σ6,H6,I6,r6,q6⟩:=hq;exact fin σ6 H6 (I6.unmark I.ok) _ λ s7 I7=>⟨v6,_,_,I7,r6,q6⟩
  generalize hXE:(λ e s₁=>wpAny (model X.prog X.w) X.A (noteFrame e X.env) (λ _ s₂=>wpAny (model X.prog X.w) X.A (setFlight e none) (λ _ s₃=>wpAny (model X.prog X.w) X.A (handleBy e X.env [.ExceptHandler (some (.Name x xp)) (some n) (b₀::suite) hp]) (SP X pins D) X.xe s₃) X.xe s₂) X.xe s₁:Value->Shared->Prop)=XE at*;have pass:∀ H1 s1 e s',Inv X pins σ H1 s1->CXE X.prog X.w X.stack H1 s1 (On X.K CL j ts D σ) e s'->XE e s':=λ H1 s1 e s' a b=>by rw [<-hXE];exact pass H1 s1 e s' a b
  obtain ⟨f,fd,hmy,hk,F,hb⟩:=hF;have body:wpAny (model X.prog X.w) X.A (execs [.Assign [.Name d dp] (.Call (.Name y fp) (e::es) [] cp) ap] X.env) (SP (X.tryC (X.pn++pins) XE) [] D) XE s:=by
    have It:Inv (X.tryC (X.pn++pins) XE) [] σ H s:=I.tryC;have call:wpAny (model X.prog X.w) X.A (eval (.Call (.Name y fp) (e::es) [] cp) X.env) (EP (X.tryC (X.pn++pins) XE) [] σ (λ v H2=>D.nx (σ.set i (some v)) H2)) XE s:=by
      refine wpAny_Call_Name_kw (CQ (X:=X.tryC (X.pn++pins) XE) It hgy hmy ?_ hdy);refine PySem.W.callWith_K (h₀:=X.base) It.ok.mod.kin hk (thn (ha _ _ cp [] s σ H _ It h) λ us s1 ⟨vs,H1,I1,r,q⟩=>⟨I1.kIn,?_⟩) he hpl;have hl:(us++[]).length=ps.length:=by rw [List.append_nil, <-r.length];exact F.len _ _ _ _ q
      have r2:Vals vs (us++[]):=by rw [List.append_nil];exact r
      refine wpAny_call (codeAny_mono (F.run X.A X.stack s1 H1 ⟨us,[]⟩ (us++[]) vs _ _ hr0 I1.env0 (hb s1 us I1.kIn hl) r2 q) λ r s' hq=> ?_);cases r with
      | error e=>exact pass H1 s1 e s' (I1.untry I.ok) hq
      | ok fl=>
        cases fl with
        | ret u=>exact I1.after hq
        | next=>exact False.elim hq
        | brk=>exact False.elim hq
        | cont=>exact False.elim hq
    have asg:wpAny (model X.prog X.w) X.A (exec (.Assign [.Name d dp] (.Call (.Name y fp) (e::es) [] cp) ap) X.env) (SP (X.tryC (X.pn++pins) XE) [] D) XE s:=by
      refine wpAny_Assign_Name (thn call λ v s1 ⟨y',H1,I1,r1,q1⟩=> ?_) hsw;exact BZ (X:=X.tryC (X.pn++pins) XE) I1 hN hi (.inl hdl) r1 (λ s2 I2=>⟨_,H1,I2,q1⟩) (.inr hdl)
    refine wpAny_execs_cons (thn asg λ f s1 q=> ?_);cases f with
    | next=>exact wpAny_execs_nil q
    | ret v=>exact q
    | brk=>exact q
    | cont=>exact q
  refine wpAny_mono body (λ f s₁ hq=> ?_) λ _ _ y=>y;cases f with
  | next=>
    obtain ⟨σ',H',I',q'⟩:=hq;exact wpAny_execs_nil ⟨σ',H',I'.untry I.ok,q'⟩
  | brk=>
    obtain ⟨σ',H',I',q'⟩:=hq;exact ⟨σ',H',I'.untry I.ok,q'⟩
  | cont=>
    obtain ⟨σ',H',I',q'⟩:=hq;exact ⟨σ',H',I'.untry I.ok,q'⟩
  | ret u=>
    obtain ⟨v',σ',H',I',r',q'⟩:=hq;exact ⟨v',σ',H',I'.untry I.ok,r',q'⟩
end L2
namespace HT
open PySem
def orb (m:Nat):Nat->Nat->Nat->Nat × Nat
  | 0,i,p=>(i,p)
  | t+1,i,p=>orb m t (SetTable.leap m i p).1 (SetTable.leap m i p).2
theorem MJ (m:Nat):∀ (t u i p:Nat),orb m (t+u) i p=orb m u (orb m t i p).1 (orb m t i p).2
  | 0,u,i,p=>by rw [Nat.zero_add];rfl
  | t+1,u,i,p=>by
    rw [show t+1+u=(t+u)+1 by omega];show orb m (t+u) _ _=_;rw [MJ m t u];rfl
theorem Sx (m:Nat):∀ (t i p:Nat),(orb m t i p).2=p / 32 ^ t
  | 0,i,p=>by show p=p / 32 ^ 0;simp
  | t+1,i,p=>by
    show (orb m t _ _).2=_;rw [Sx m t];unfold SetTable.leap;show p / 32 / 32 ^ t=_;rw [Nat.div_div_eq_div_mul,Nat.pow_succ,Nat.mul_comm]
theorem SZ (m:Nat) (t i p:Nat) (h:i<m+1):(orb m t i p).1<m+1:=by
  induction t generalizing i p with
  | zero=>exact h
  | succ t ih=>exact ih _ _ (Nat.mod_lt _ (Nat.succ_pos m))
theorem Vi:∀ i,i<16->∀ j,j<16->∃ t,t<16/\(orb 15 t i 0).1=j:=by decide +kernel
theorem X3:∀ i,i<32->∀ j,j<32->∃ t,t<32/\(orb 31 t i 0).1=j:=by decide +kernel
theorem Yn:∀ i,i<64->∀ j,j<64->∃ t,t<64/\(orb 63 t i 0).1=j:=by decide +kernel
theorem Rt {m:Nat} (hm:m=15\/m=31\/m=63) {i j:Nat} (hi:i<m+1) (hj:j<m+1):∃ t,t<m+1/\(orb m t i 0).1=j:=by
  rcases hm with rfl | rfl | rfl
  · exact Vi i hi j hj
  · exact X3 i hi j hj
  · exact Yn i hi j hj
theorem M4 {m:Nat} (hm:m=15\/m=31\/m=63) {i j p:Nat} (hi:i<m+1) (hj:j<m+1) (hp:p<2 ^ 64):∃ t,t<m+15/\(orb m t i p).1=j:=by
  have e0:(orb m 13 i p).2=0:=by
    rw [Sx];exact Nat.div_eq_of_lt (Nat.lt_of_lt_of_le hp (by decide))
  obtain ⟨t,ht,e⟩:=Rt hm (SZ m 13 i p hi) hj;refine ⟨13+t,by omega,?_⟩;rw [MJ,e0];exact e
theorem IJ {m:Nat} {owner:Array (Option Nat)} {j:Nat} (hj:owner.getD j (some 0)=none):∀ (fuel i p:Nat),(∃ t,t<fuel/\(orb m t i p).1=j)->∃ r,SetTable.layClean.free m owner fuel i p=some r/\owner.getD r (some 0)=none
  | 0,i,p,⟨t,ht,_⟩=>absurd ht (Nat.not_lt_zero t)
  | fuel+1,i,p,⟨t,ht,e⟩=>by
    unfold SetTable.layClean.free;cases hf:(List.range (SetTable.runEnd m i+1 - i)).find? λ k=>(owner.getD (i+k) (some 0)).isNone with
    | some k=>
      dsimp only;exact ⟨i+k,rfl,by simpa using List.find?_some hf⟩
    | none=>
      dsimp only;refine IJ hj fuel _ _ ?_;cases t with
      | zero=>
        have e:i=j:=e;have:=List.find?_eq_none.mp hf 0 (List.mem_range.mpr (by unfold SetTable.runEnd;split <;> omega));rw [Nat.add_zero,e,hj] at this;exact absurd rfl this
      | succ t=>exact ⟨t,by omega,e⟩
def ET (m k:Nat) (owner:Array (Option Nat)):Prop:=owner.size=m+1/\(owner.toList.filterMap id).Perm (List.range k)
theorem J5:∀ (l:List (Option Nat)) (j k:Nat),l[j]?=some none->((l.set j (some k)).filterMap id).Perm (k::l.filterMap id)
  | [],j,k,h=>by simp at h
  | x::l,0,k,h=>by
    have e:x=none:=by simpa using h
    subst e;simp
  | x::l,j+1,k,h=>by
    have h:l[j]?=some none:=by simpa using h
    have ih:=J5 l j k h;rw [List.set_cons_succ];cases x with
    | none=>simpa using ih
    | some y=>
      simp only [List.filterMap_cons,id];exact (ih.cons y).trans (List.Perm.swap ..)
theorem Kt:∀ (l:List (Option Nat)),none∉l->(l.filterMap id).length=l.length
  | [],_=>rfl
  | none::l,h=>absurd (List.mem_cons_self ..) h
  | some x::l,h=>by
    simp only [List.filterMap_cons,id,List.length_cons];rw [Kt l λ q=>h (List.mem_cons_of_mem _ q)]
theorem NZ {m k:Nat} {owner:Array (Option Nat)} (h:ET m k owner) (hk:k<m+1):∃ j,j<m+1/\owner.getD j (some 0)=none:=by
  by_cases z:none∈owner.toList
  · obtain ⟨j,hj,e⟩:=List.mem_iff_getElem.mp z;have hj':j<owner.size:=by simpa using hj
    refine ⟨j,h.1▸hj',?_⟩;simp [Array.getD,hj'];simpa using e
  · have e:=Kt _ z;rw [h.2.length_eq,List.length_range,Array.length_toList,h.1] at e;omega
theorem GC (h:Int):SetTable.bits h<2 ^ 64:=by
  unfold SetTable.bits;have h1:=Int.emod_nonneg h (b:=2 ^ 64) (by decide);have h2:=Int.emod_lt_of_pos h (b:=2 ^ 64) (by decide);omega
theorem OF {m k:Nat} {owner:Array (Option Nat)} (hm:m=15\/m=31\/m=63) (I:ET m k owner) (hk:k<m+1) (h:Int):
    ∃ j,SetTable.layClean.free m owner (SetTable.turns m) (SetTable.bits h%(m+1)) (SetTable.bits h)=some j/\ET m (k+1) (owner.setIfInBounds j (some k)):=by
  obtain ⟨j0,hj0,e0⟩:=NZ I hk;obtain ⟨r,er,hr⟩:=IJ (m:=m) e0 (SetTable.turns m) (SetTable.bits h%(m+1)) (SetTable.bits h) (M4 hm (Nat.mod_lt _ (Nat.succ_pos m)) hj0 (GC h));refine ⟨r,er,by rw [Array.size_setIfInBounds];exact I.1,?_⟩;rw [Array.toList_setIfInBounds,List.range_succ];have hl:owner.toList[r]?=some none:=by
    rw [Array.getElem?_toList];unfold Array.getD at hr;split at hr
    · rename_i hz
      rw [Array.getElem?_eq_getElem hz];exact congrArg some hr
    · cases hr
  exact ((J5 _ r k hl).trans (I.2.cons k)).trans (List.perm_append_singleton k _).symm
theorem KR {m:Nat} (hm:m=15\/m=31\/m=63):∀ (hs:List Int) (k:Nat) (owner:Array (Option Nat)),ET m k owner->k+hs.length<=m+1->
    ∃ owner',hs.foldl (λ (acc:Option (Array (Option Nat) × Nat)) h=>do
      let (owner,k) <-acc;let j <-SetTable.layClean.free m owner (SetTable.turns m) (SetTable.bits h%(m+1)) (SetTable.bits h)
      pure (owner.setIfInBounds j (some k),k+1)) (some (owner,k))=some (owner',k+hs.length)/\ET m (k+hs.length) owner'
  | [],k,owner,I,_=>⟨owner,rfl,I⟩
  | h::hs,k,owner,I,hl=>by
    rw [List.length_cons] at hl;obtain ⟨j,ej,I'⟩:=OF hm I (by omega) h;obtain ⟨o',e',I2⟩:=KR hm hs (k+1) _ I' (by omega);refine ⟨o',?_,?_⟩
    · rw [List.foldl_cons];simp only [Option.bind_eq_bind,Option.bind_some,ej,Option.pure_def];rw [show k+(h::hs).length=k+1+hs.length by rw [List.length_cons];omega];exact e'
    · rw [show k+(h::hs).length=k+1+hs.length by rw [List.length_cons];omega];exact I2
theorem Nk {m:Nat} (hm:m=15\/m=31\/m=63) (hs:Array Int) (hl:hs.size<=m+1):∃ owner,SetTable.layClean m hs=some owner/\ET m hs.size owner:=by
  have I0:ET m 0 (Array.replicate (m+1) none):=by
    refine ⟨Array.size_replicate,?_⟩;rw [Array.toList_replicate];have:∀ n,((List.replicate n (none:Option Nat)).filterMap id)=[]:=λ n=>by
      rw [List.filterMap_eq_nil_iff];intro a ha;rw [List.eq_of_mem_replicate ha];rfl
    rw [this];exact .nil
  obtain ⟨o,e,I⟩:=KR hm hs.toList 0 _ I0 (by simpa using hl);refine ⟨o,?_,by simpa using I⟩;unfold SetTable.layClean;rw [<-Array.foldl_toList,e];rfl
theorem J9 {m fi mo:Nat} {le pl:Bool} (hm:m=15\/m=31\/m=63) (hs:Array Int) (hl:hs.size<=m+1):
    ∃ t order,SetTable.laid m fi mo le pl hs=some (t,order)/\order.toList.Perm (List.range hs.size)/\t.place.size=hs.size/\t.dummies= #[]/\t.mask=m:=by
  obtain ⟨o,e,I⟩:=Nk hm hs hl;have e2:o.toList=(List.range (m+1)).map λ j=>o.getD j none:=by
    refine List.ext_getElem (by simp [I.1]) λ i h1 h2=> ?_;have hi:i<o.size:=by simpa using h1
    simp [Array.getD,hi]
  have e3:((List.range (m+1)).filterMap λ j=>(o.getD j none).map (j, ·)).map (·.2)=o.toList.filterMap id:=by
    rw [e2,List.filterMap_map,List.map_filterMap];refine congrArg (λ f=>List.filterMap f (List.range (m+1))) ?_;funext j;show Option.map _ (Option.map _ (o.getD j none))=o.getD j none;rw [Option.map_map];cases o.getD j none <;> rfl
  refine ⟨_,_,by unfold SetTable.laid;rw [e];rfl,?_,?_,rfl,rfl⟩
  · show List.Perm (List.toArray _).toList _;rw [e3];exact I.2
  · show (List.toArray _).size=_;rw [List.size_toArray,List.length_map, <-List.length_map (f:=λ (x:Nat × Nat)=>x.2),e3,I.2.length_eq,List.length_range]
end HT
namespace HT
open PySem PySem.Spec PyProof.Rows PySem.W
variable {prog:Program} {w:World} {A:Around} {E:Value->Shared->Prop} {s:Shared}
theorem La:∀ n,n<17->8<=n->(SetTable.sizeAbove (n*2) - 1=15\/SetTable.sizeAbove (n*2) - 1=31\/SetTable.sizeAbove (n*2) - 1=63)/\n<SetTable.sizeAbove (n*2) - 1/\SetTable.sizeAbove (n*2)<65:=by decide +kernel
def MD (es:Array (Int × Value)) (t:SetTable) (order:Array Nat):Sem (Array (Int × Value) × SetTable):=if ((Array.filterMap (λ x:Nat=>es[x]?) order).size != es.size)=true then (unsupported "internal:set-table-lost-an-element" >>= λ (_:Unit)=>pure (Array.filterMap (λ x:Nat=>es[x]?) order,t)) else pure (Array.filterMap (λ x:Nat=>es[x]?) order,t)
theorem K1 {es:Array (Int × Value)} {t:SetTable} {order:Array Nat} {Q:Array (Int × Value) × SetTable->Shared->Prop} (e:(Array.filterMap (λ x:Nat=>es[x]?) order).size=es.size) (h:Q (Array.filterMap (λ x:Nat=>es[x]?) order,t) s):wpAny (model prog w) A (MD es t order) Q E s:=by
  unfold MD;rw [e,if_neg (by simp)];exact wpAny_pure h
theorem K9 {a:Addr} {o:Obj} {ep n:Nat} {t:SetTable} {Q:Unit->Shared->Prop} (ho:s.heap.get? a=some o) (hd:o.data= .set #[] ep t) (hf:t.fits 0=true) (h1:n<17) (h2:8<=n)
    (h:∀ t':SetTable,t'.place.size=0->t'.dummies= #[]->t'.mask=SetTable.sizeAbove (n*2) - 1->Q () { s with heap:=s.heap.update a (Obj.putSet #[] t') }):wpAny (model prog w) A (setRelay a (n*2)) Q E s:=by
  obtain ⟨am,_,ab⟩:=La n h1 h2;unfold setRelay;refine wpAny_bind (wpAny_setState_of ho hd hf ?_);dsimp only;rw [if_neg (by rw [sizeLine_eq];omega)];obtain ⟨t',order,e,pm,hp,hdm,hmk⟩:=J9 (fi:=t.finger) (mo:=t.movedTo (SetTable.sizeAbove (n*2) - 1)) (le:=t.led) (pl:=t.plain) am #[] (Nat.zero_le _);have e':t.relaid ((#[]:Array (Int × Value)).map (·.1)) (n*2)=some (t',order):=by
    unfold SetTable.relaid;rw [Array.map_empty];exact e
  rw [e'];have eo:order= #[]:=by
    have:order.toList=[]:=List.perm_nil.mp pm;rw [<-Array.toArray_toList (xs:=order),this]
  subst eo;refine wpAny_bind ?_;show wpAny (model prog w) A (MD #[] t' #[]) _ _ _;refine K1 rfl ?_;exact wpAny_storeSet_of ho hd (h t' hp hdm hmk) (Nat.zero_le _)
theorem Qy {a:Addr} {o:Obj} {es:Array (Int × Value)} {ep:Nat} {t:SetTable} {Q:Value->Shared->Prop} (ho:s.heap.get? a=some o) (hex:o.ExactSet) (hd:o.data= .set es ep t) (hf:t.fits es.size=true) (dm:t.dummies= #[]) (h1:es.size<17) (h2:8<=es.size)
    (h:∀ (h':Heap) (o':Obj) (es':Array (Int × Value)) (ep':Nat) (t':SetTable),es'.toList.Perm es.toList->h'.get? s.heap.objs.size=some o'->o'.ExactSet->o'.data= .set es' ep' t'->t'.fits es'.size=true->t'.dummies= #[]->(∀ b ob,s.heap.get? b=some ob->h'.get? b=some ob)->Q (.ref s.heap.objs.size) { s with heap:=h' }):
    wpAny (model prog w) A (Builtin.Frozenset.copyOf a) Q E s:=by
  obtain ⟨am,an,ab⟩:=La es.size h1 h2;have ha:=Heap.lt_size ho;have ne:(s.heap.objs.size == a)=false:=by
    rw [beq_eq_false_iff_ne];exact Nat.ne_of_gt ha
  unfold Builtin.Frozenset.copyOf;refine wpAny_bind (Fo ⟨o,ho,hex.1⟩ ?_);refine wpAny_bind (wpAny_newSet_of (knd:=intKind prog w) λ led hr=> ?_);have gr:(s.heap.push { cls:= .type "set",dict:=none,data:= .set #[] 0 (.fresh 0 0 led) }).get? s.heap.objs.size=some { cls:= .type "set",dict:=none,data:= .set #[] 0 (.fresh 0 0 led) }:=Heap.get?_push_size _ rfl;generalize hH1:s.heap.push { cls:= .type "set",dict:=none,data:= .set #[] 0 (.fresh 0 0 led) }=H1 at hr gr ⊢;have kp:∀ c oc,s.heap.get? c=some oc->H1.get? c=some oc:=λ c oc e=>by rw [<-hH1];exact Heap.get?_push_of_some _ e
  unfold Builtin.Frozenset.addrOf;refine wpAny_bind (wpAny_pure ?_);refine wpAny_bind ?_;unfold setMerge;rw [ne,if_neg (by decide)];refine wpAny_bind (wpAny_setState_of (s:={ s with heap:=H1 }) (kp _ _ ho) hd hf ?_);dsimp only;have nz:es.isEmpty=false:=by
    rw [Array.isEmpty_eq_false_iff];intro z;rw [z] at h2;exact absurd h2 (by decide)
  rw [nz,if_neg (by decide)];unfold setRoomFor;refine wpAny_bind (wpAny_bind (wpAny_setState_of (s:={ s with heap:=H1 }) gr rfl rfl ?_));have rf:(SetTable.fresh 0 0 led).roomFor es.size=some (es.size*2):=by
    show (if (0+0+es.size)*5>=7*3 then some ((0+es.size)*2) else none)=_;rw [if_pos (by omega),Nat.zero_add]
  dsimp only;rw [rf];dsimp only;refine K9 (s:={ s with heap:=H1 }) gr rfl rfl h1 h2 λ t1 p1 d1 m1=> ?_;have nr:∀ {b ob},s.heap.get? b=some ob->b≠s.heap.objs.size:=λ e=>Nat.ne_of_lt (Heap.lt_size e);have store:∀ {H:Heap} {o:Obj} {es1:Array (Int × Value)} {ep1:Nat} {t1:SetTable} (es2:Array (Int × Value)) (t2:SetTable),H.get? s.heap.objs.size=some o->o.data= .set es1 ep1 t1->(H.update s.heap.objs.size (Obj.putSet es2 t2)).get? s.heap.objs.size=some { o with data:= .set es2 (ep1+1) t2 }:=λ es2 t2 g hd=>by
    have z:=Heap.get?_update_self (Obj.putSet es2 t2) g (by rw [putSet_of es2 t2 hd];rfl)
    rwa [putSet_of es2 t2 hd] at z
  have g2:=store #[] t1 gr rfl;have kp2:∀ c oc,s.heap.get? c=some oc->(H1.update s.heap.objs.size (Obj.putSet #[] t1)).get? c=some oc:=λ c oc e=>((Heap.SameBut.update H1 s.heap.objs.size (Obj.putSet #[] t1)).2 c (nr e)).trans (kp _ _ e);generalize hH2:H1.update s.heap.objs.size (Obj.putSet #[] t1)=H2 at g2 kp2 ⊢;have f1:t1.fill=0:=by unfold SetTable.fill;rw [p1,d1];rfl
  have ft1:t1.fits (#[]:Array (Int × Value)).size=true:=by
    simp only [SetTable.fits,Bool.and_eq_true,beq_iff_eq,decide_eq_true_eq];exact ⟨p1,by rw [f1];exact Nat.zero_le _⟩
  refine wpAny_bind (wpAny_setState_of (s:={ s with heap:=H2 }) g2 rfl ft1 ?_);dsimp only;have fin:∀ (es2:Array (Int × Value)) (t2:SetTable),es2.toList.Perm es.toList->t2.fits es2.size=true->t2.dummies= #[]->wpAny (model prog w) A (storeSet s.heap.objs.size es2 t2) (λ a s'=>wpAny (model prog w) A (pure (Value.ref s.heap.objs.size)) Q E s') E { s with heap:=H2 }:=λ es2 t2 pm f2 d2=>by
    have l2:es2.size=es.size:=by rw [<-Array.length_toList,pm.length_eq,Array.length_toList]
    refine wpAny_storeSet_of (s:={ s with heap:=H2 }) g2 rfl ?_ (by rw [sizeLine_eq];omega);refine wpAny_pure (h _ _ es2 _ t2 pm (store es2 t2 g2 rfl) ⟨rfl,rfl,rfl⟩ rfl f2 d2 λ b ob e=> ?_);exact ((Heap.SameBut.update H2 s.heap.objs.size _).2 b (nr e)).trans (kp2 _ _ e)
  unfold SetTable.road;rw [f1,if_neg (by decide)];by_cases z:(t1.mask == t.mask&&t.dummies.isEmpty)=true
  · rw [if_pos z];dsimp only;exact fin es _ (List.Perm.refl _) hf dm
  · rw [if_neg z];dsimp only;obtain ⟨t',order,e,pm,hp,hdm,hmk⟩:=J9 (m:=t1.mask) (fi:=t1.finger) (mo:=t1.moves) (le:=t1.led&&t.led) (pl:=t1.plain&&t.plain) (by rw [m1];exact am) (es.map (·.1)) (by rw [Array.size_map,m1];omega);rw [Array.size_map] at pm hp;rw [e];refine wpAny_bind ?_;show wpAny (model prog w) A (MD es t' order) _ _ _;have pe:(Array.filterMap (λ x:Nat=>es[x]?) order).toList.Perm es.toList:=by
      rw [Array.toList_filterMap];exact (pm.filterMap _).trans (by rw [filterMap_getElem?_range])
    have le:(Array.filterMap (λ x:Nat=>es[x]?) order).size=es.size:=by rw [<-Array.length_toList,pe.length_eq,Array.length_toList]
    refine K1 le ?_;refine fin _ _ pe ?_ hdm;simp only [SetTable.fits,Bool.and_eq_true,beq_iff_eq,decide_eq_true_eq];refine ⟨by rw [hp,le],?_⟩;unfold SetTable.fill;rw [hp,hdm,hmk,m1];show es.size+0<=_;omega
theorem Pn {a:Addr} {o:Obj} {es:Array (Int × Value)} {ep:Nat} {t:SetTable} {Q:Array (Int × Value)->Shared->Prop} (ho:s.heap.get? a=some o) (hd:o.data= .set es ep t) (hf:t.fits es.size=true) (h1:es.size=1)
    (h:∀ arr:Array (Int × Value),arr.toList.Perm es.toList->Q arr s):wpAny (model prog w) A (setWalk a) Q E s:=by
  unfold setWalk;refine wpAny_bind (wpAny_setState_of ho hd hf ?_);dsimp only;refine wpAny_bind (wpAny_bind (wpAny_askSetting (wpAny_pure ?_)));refine wpAny_ite_split (λ z=> ?_) λ z=> ?_
  · refine wpAny_bind (wpAny_askSetting ?_);exact wpAny_pure (h _ (Ir _ _))
  · refine wpAny_ite_split (λ z2=> ?_) λ z2=> ?_
    · have z2:(!t.plain&&decide (es.size>1))=true:=z2;rw [h1] at z2;simp at z2
    · refine wpAny_bind ?_;refine wpAny_ite_split (λ z3=> ?_) λ z3=> ?_
      · have z3:(!t.led&&decide (es.size>1))=true:=z3;rw [h1] at z3;simp at z3
      · exact wpAny_pure (wpAny_pure (h es (List.Perm.refl _)))
theorem G4 {α:Type} {xs:Array α} {j:Nat} (h:j<xs.size):(SetTable.eraseAt xs j).size+1=xs.size:=by
  unfold SetTable.eraseAt;simp;omega
theorem Lr {r:Addr} {o:Obj} {es:Array (Int × Value)} {ep:Nat} {t:SetTable} {i:Int} {v:Value} {Q:Bool->Shared->Prop} (hv:(intKind prog w).is i v=true) (hsc:v.scannable=true) (ho:s.heap.get? r=some o) (hex:o.ExactSet) (hd:o.data= .set es ep t) (hf:t.fits es.size=true) (hel:ElemsOf (intKind prog w) es.toList) (nd:(es.toList.map kOf).Nodup) (hb:es.size<17) (dm:t.dummies= #[]) (h8:8<=es.size)
    (h:∀ (h':Heap) (o':Obj) (es':Array (Int × Value)) (ep':Nat) (t':SetTable) (b:Bool),h'.get? r=some o'->o'.ExactSet->o'.data= .set es' ep' t'->t'.fits es'.size=true->t'.tooManyDummies=false->es'.size=((es.toList.map kOf).filter λ k=> !decide (k=i)).length->Heap.SameBut r s.heap h'->Q b { s with heap:=h' }):
    wpAny (model prog w) A (setDiscardHashed r v ((intKind prog w).hash i)) Q E s:=by
  have hf0:=hf;simp only [SetTable.fits,Bool.and_eq_true,beq_iff_eq,decide_eq_true_eq] at hf0;unfold setDiscardHashed;refine wpAny_bind ?_;unfold setFind setFindIn;refine wpAny_bind (wpAny_setState_of ho hd hf ?_);dsimp only;rw [byScan_of hsc (show es.size<4096 by omega) hel];simp only [↓reduceIte];refine wpAny_bind (wpAny_rule ?_);refine wpAny_bind (wpAny_setScan_of hv ho hd hf hel ?_);cases hr:List.findIdx? (λ e=>(intKind prog w).is i e.2) es.toList with
  | none=>
    dsimp only;refine wpAny_pure (wpAny_pure ?_);have:=h s.heap o es ep t false ho hex hd hf (by unfold SetTable.tooManyDummies;rw [dm];simp) ?_ (Heap.SameBut.refl r s.heap)
    · exact this
    rw [List.filter_eq_self.mpr λ k hk=> ?_,List.length_map,Array.length_toList];obtain ⟨e,he,ek⟩:=List.mem_map.mp hk;obtain ⟨k',t',e2,e3⟩:=EZ hel he;have q:=List.findIdx?_eq_none_iff.mp hr e he;rw [e2] at q;simp only [Bool.not_eq_eq_eq_not,Bool.not_true,decide_eq_false_iff_not];intro ki;rw [show k'=i from e3.symm.trans (ek.trans ki),show (intKind prog w).is i (.int i t')=true from intKind_is _ _ _ _] at q;cases q
  | some j=>
    dsimp only;obtain ⟨hj,hpj,_⟩:=List.findIdx?_eq_some_iff_getElem.mp hr;rw [Nat.zero_add];have hj':j<es.size:=by simpa using hj
    refine wpAny_pure ?_;dsimp only;refine wpAny_bind (wpAny_setState_of ho hd hf ?_);dsimp only;have se:=G4 hj';refine wpAny_bind (wpAny_storeSet_of ho hd ?_ (by rw [sizeLine_eq];omega));refine wpAny_bind (wpAny_point (wpAny_pure ?_));have g1:(s.heap.update r (Obj.putSet (SetTable.eraseAt es j) (t.drop j))).get? r=some { o with data:= .set (SetTable.eraseAt es j) (ep+1) (t.drop j) }:=by
      have z:=Heap.get?_update_self (Obj.putSet (SetTable.eraseAt es j) (t.drop j)) ho (by rw [putSet_of _ _ hd];rfl)
      rwa [putSet_of _ _ hd] at z
    have pj:t.place[j]?=some t.place[j]:=Array.getElem?_eq_getElem (by omega);have dr:t.drop j={ t with place:=SetTable.eraseAt t.place j,dummies:= #[t.place[j]] }:=by
      unfold SetTable.drop;rw [pj];dsimp only;rw [dm];rfl
    have sp:=G4 (xs:=t.place) (j:=j) (by omega);refine h _ _ (SetTable.eraseAt es j) (ep+1) (t.drop j) true g1 hex rfl ?_ ?_ ?_ (Heap.SameBut.update s.heap r _)
    · rw [dr];simp only [SetTable.fits,SetTable.fill,Bool.and_eq_true,beq_iff_eq,decide_eq_true_eq];have:=hf0.2;unfold SetTable.fill at this;refine ⟨by omega,?_⟩;refine decide_eq_true ?_;show _+1<=_;omega
    · rw [dr];unfold SetTable.tooManyDummies;have:=hf0.2;unfold SetTable.fill at this;show decide (1>t.mask / 4)=false;rw [decide_eq_false_iff_not];omega
    · have im:i∈es.toList.map kOf:=by
        obtain ⟨t',ht⟩:=Value.isInt_shape hpj;refine List.mem_map.mpr ⟨_,List.getElem_mem hj,?_⟩;unfold kOf;rw [ht]
      have e1:(es.toList.map kOf).filter (λ k=> !decide (k=i))=(es.toList.map kOf).erase i:=by
        rw [List.Nodup.erase_eq_filter nd];refine congrArg (λ f=>List.filter f _) ?_;funext k;rw [<-Bool.beq_eq_decide_eq];rfl
      rw [e1,List.length_erase_of_mem im,List.length_map,Array.length_toList];omega
theorem diff_big {a b:Addr} {ks:List Int} {i:Int} {Q:Value->Shared->Prop} (ha:WSet prog w a ks s.heap) (hb:s.heap.SetOf (intKind prog w) b (λ k=>decide (k=i)) 1) (hl:ks.length<=16) (h8:8<=ks.length)
    (h:∀ (h':Heap) (d:Drawn),SzSet s.heap.objs.size (ks.filter λ k=> !decide (k=i)).length h'->(∀ b o,s.heap.get? b=some o->h'.get? b=some o)->Q (.ref s.heap.objs.size) { s with heap:=h',drawn:=d }):
    wpAny (model prog w) A (do
      let r <-Builtin.Frozenset.copyOf a
      holding [r] (Builtin.Frozenset.differenceUpdate "frozenset.__sub__" (<-Builtin.Frozenset.addrOf r) (.ref b))
      return r) Q E s:=by
  obtain ⟨o,es,ep,t,ho,hex,hd,hel,pm,nd,hbd,hf,tk⟩:=ha;have hlen:es.size=ks.length:=by rw [<-pm.length_eq,List.length_map,Array.length_toList]
  refine wpAny_bind (Qy ho hex hd hf tk.dum (by omega) (by omega) λ h1 o1 es1 ep1 t1 p1 g1 x1 d1 f1 dm1 kp1=> ?_);have hb1:h1.SetOf (intKind prog w) b (λ k=>decide (k=i)) 1:=by
    obtain ⟨o',es',ep',t',ho',q⟩:=hb;exact ⟨o',es',ep',t',kp1 _ _ ho',q⟩
  have nb:b≠s.heap.objs.size:=by
    obtain ⟨o',_,_,_,ho',_⟩:=hb;exact Nat.ne_of_lt (Heap.lt_size ho')
  have l1:es1.size=es.size:=by rw [<-Array.length_toList,p1.length_eq,Array.length_toList]
  have tb:Shared.TypeIs { s with heap:=h1 } (.ref b) "set":=Heap.SetOf.typeIs hb1;have sr:h1.SetOf (intKind prog w) s.heap.objs.size (λ k=>decide (∃ e∈es1.toList,(intKind prog w).is k e.2=true)) es1.size:=⟨o1,es1,ep1,t1,g1,x1,d1,hel.perm p1,λ k=>by simp,by show _<4096;omega,f1,rfl⟩;unfold Builtin.Frozenset.addrOf;refine wpAny_bind (wpAny_pure ?_);refine wpAny_bind (wpAny_holding ?_);unfold Builtin.Frozenset.differenceUpdate;have nq:(Value.ref b == Value.ref s.heap.objs.size)=false:=by
    rw [beq_eq_false_iff_ne];intro z;exact nb (Value.ref.inj z)
  rw [nq,if_neg (by decide)];refine wpAny_bind (Gz tb ?_);rw [if_pos rfl];unfold Builtin.Frozenset.addrOf;refine wpAny_bind (wpAny_pure ?_);refine wpAny_bind (Gw hb1 ?_);refine wpAny_bind (Gw sr ?_);rw [if_neg (by omega)];obtain ⟨ob,esb,epb,tb',hob,hexb,hdb,helb,hmemb,_,hfb,hnb⟩:=id hb1;refine wpAny_bind (wpAny_setEpoch_of (s:={ s with heap:=h1 }) hob hdb hfb ?_);refine wpAny_bind (wpAny_holding ?_);unfold setWalkUnseen;refine wpAny_bind (wpAny_bind (wpAny_setState_of (s:={ s with heap:=h1 }) hob hdb hfb ?_));dsimp only;refine wpAny_bind (wpAny_bind (wpAny_askSetting (wpAny_pure ?_)));rw [if_pos (by rw [hnb];simp)];refine Pn (s:={ s with heap:=h1 }) hob hdb hfb hnb λ arr pa=> ?_;obtain ⟨x,ex⟩:∃ x,esb.toList=[x]:=by
    have:esb.toList.length=1:=by rw [Array.length_toList];exact hnb
    match hq:esb.toList with
    | []=>rw [hq] at this;cases this
    | [x]=>exact ⟨x,rfl⟩
    | _::_::_=>rw [hq] at this;cases this
  have ea:arr.toList=[x]:=by rw [ex] at pa;exact List.perm_singleton.mp pa
  obtain ⟨⟨k,hk,e1⟩,hsc⟩:=helb x (by rw [ex];exact List.mem_cons_self ..);have ki:k=i:=by
    have:=(hmemb k).mpr ⟨x,by rw [ex];exact List.mem_cons_self ..,hk⟩;simpa using this
  subst ki;refine wpAny_bind ?_;rw [<-Array.forIn_toList,ea,List.forIn_cons];refine wpAny_bind (wpAny_bind (wpAny_holding ?_));rw [show x.fst=(intKind prog w).hash k from e1];refine Lr (s:={ s with heap:=h1 }) hk hsc g1 x1 d1 f1 (hel.perm p1) (((p1.map kOf).trans pm).nodup_iff.mpr nd) (by omega) dm1 (by omega) λ h2 o2 es2 ep2 t2 bb g2 x2 d2 f2 tm2 sz2 sb2=> ?_;refine wpAny_bind ?_;unfold Builtin.Frozenset.unchanged;refine wpAny_bind (wpAny_setEpoch_of (s:={ s with heap:=h2 }) ((sb2.2 b nb).trans hob) hdb hfb ?_);rw [if_neg (by simp)];refine wpAny_pure (wpAny_pure ?_);dsimp only;rw [List.forIn_nil];refine wpAny_pure (wpAny_pure ?_);unfold setTidy;refine wpAny_bind (wpAny_setState_of (s:={ s with heap:=h2 }) g2 d2 f2 ?_);dsimp only;rw [tm2,if_neg (by decide)];refine wpAny_pure (wpAny_pure (h h2 s.drawn ?_ λ c oc e=> ?_))
  · have e2:es2.size=(ks.filter λ k'=> !decide (k'=k)).length:=by
      rw [sz2];exact (((p1.map kOf).trans pm).filter _).length_eq
    refine ⟨o2,es2,ep2,t2,g2,x2,d2,f2,e2,?_⟩;have:=List.length_filter_le (λ k'=> !decide (k'=k)) ks;show _<4096;omega
  · exact (sb2.2 c (Nat.ne_of_lt (Heap.lt_size e))).trans (kp1 _ _ e)
end HT
namespace L2
open PySem PySem.Spec PyProof.Rows PySem.W
def Xl (X:Cx):R2:=λ x y H Q=>∃ (p q:Addr) (ks:List Int) (i:Int),x= .ref p/\y= .ref q/\H p=some (.ext (HT.WSet X.prog X.w p ks))/\H q=some (.ext λ h=>h.SetOf (intKind X.prog X.w) q (λ k=>decide (k=i)) 1)/\ks.length<=16/\∀ l,H l=none->Q (.ref l) (upd H l (.ext (HT.SzSet l (ks.filter λ k=> !decide (k=i)).length)))
theorem R4 {X:Cx}:OpR X (binaryOp .Sub) (Xl X):=by
  intro pins s σ H x y v u Q I rx ry h;obtain ⟨p,q,ks,i,rfl,rfl,hp,hq,hl,k⟩:=h;cases rx;cases ry;obtain ⟨W,_,_⟩:=I.hok _ _ hp;obtain ⟨B,_,_⟩:=I.hok _ _ hq;have sW:=W.setOf;refine HT.sub_open (Heap.SetOf.typeIs sW) (Heap.SetOf.typeIs B) ?_;have fin:∀ (h':Heap) (d:Drawn),HT.SzSet s.heap.objs.size (ks.filter λ k=> !decide (k=i)).length h'->(∀ b o,s.heap.get? b=some o->h'.get? b=some o)->(Value.ref s.heap.objs.size≠ .notImplemented/\EP X pins σ Q (.ref s.heap.objs.size) { s with heap:=h',drawn:=d }):=λ h' d z kp=>by
    refine ⟨by simp, .ref s.heap.objs.size,_,(I.laid (t':=s.toks) (o:= .ext (HT.SzSet s.heap.objs.size (ks.filter λ k=> !decide (k=i)).length)) kp (Nat.le_refl _) ⟨z,?_,λ h1 h2 w1 k1=>w1.to k1⟩).drew d,rfl,k _ (I.hok.fresh (Nat.le_refl _))⟩;obtain ⟨o,_,_,_,ho,_⟩:=z;exact ⟨o,ho⟩
  refine HT.diff_open sW B (λ c=> ?_) λ c=> ?_
  · exact HT.diff_big W B hl (by omega) fin
  · exact HT.diff_small W B hl fin
end L2
namespace MTies
def wn (t l:Nat):Bool:=decide (t ||| l=l)
def toldB (T:List Nat) (l:Nat):Bool:=decide (MM.uOf (T.filter (wn · l))=l)
def mk (T L:List Nat):Bool:=L.all (toldB T)
def Rz:Nat->List Nat->Prop
  | _,[]=>True
  | a,x::R=>a<=x/\x<16/\Rz (x+1) R
def frst (T:List Nat):Nat:=match T.getLast? with
  | some x=>x+1
  | none=>1
def ext:Nat->List Nat->List (List Nat)
  | 0,T=>[T]
  | n+1,T=>(List.range' (frst T) (16 - frst T)).flatMap λ t=>ext n (T++[t])
theorem FG (T:List Nat) (t:Nat):frst (T++[t])=t+1:=by simp [frst]
theorem JD:∀ {R:List Nat} {a b:Nat},a<=b->Rz b R->Rz a R
  | [],_,_,_,_=>trivial
  | _::_,_,_,h,⟨h1,h2,h3⟩=>⟨Nat.le_trans h h1,h2,h3⟩
theorem rz_ge:∀ {R:List Nat} {a:Nat},Rz a R->∀ r∈R,a<=r/\r<16
  | [],_,_,r,h=>nomatch h
  | x::R,a,⟨h1,h2,h3⟩,r,h=>by
    rcases List.mem_cons.mp h with rfl | h
    · exact ⟨h1,h2⟩
    · have:=rz_ge h3 r h;exact ⟨by omega,this.2⟩
theorem LU:∀ {T R:List Nat} {a:Nat},Rz a (T++R)↔Rz a T/\Rz (match T.getLast? with | some x=>x+1 | none=>a) R
  | [],R,a=>by simp [Rz]
  | x::T,R,a=>by
    have ih:= @LU T R (x+1);simp only [List.cons_append,Rz,ih];cases T with
    | nil=>simp [Rz];exact and_assoc.symm
    | cons y T=>
      simp only [List.getLast?_cons_cons,and_assoc];cases hg:(y::T).getLast? with
      | none=>simp at hg
      | some z=>simp [and_assoc]
theorem rz_snoc {T:List Nat} {t:Nat}:Rz 1 (T++[t])↔Rz 1 T/\frst T<=t/\t<16:=by
  rw [LU];simp [Rz,frst]
theorem ext_mem:∀ {n:Nat} {T S:List Nat},S∈ext n T↔∃ R,R.length=n/\Rz (frst T) R/\S=T++R
  | 0,T,S=>by
    simp only [ext,List.mem_singleton];exact ⟨λ h=>⟨[],rfl,trivial,by simp [h]⟩,λ ⟨R,h1,_,h3⟩=>by rw [h3,List.length_eq_zero_iff.mp h1,List.append_nil]⟩
  | n+1,T,S=>by
    simp only [ext,List.mem_flatMap,List.mem_range'_1];constructor
    · rintro ⟨t,ht,hS⟩;obtain ⟨R,h1,h2,h3⟩:=ext_mem.mp hS;rw [FG] at h2;exact ⟨t::R,by simp [h1],⟨ht.1,by omega,h2⟩,by rw [h3,List.append_assoc];rfl⟩
    · rintro ⟨R,h1,h2,h3⟩;cases R with
      | nil=>cases h1
      | cons t R=>
        obtain ⟨g1,g2,g3⟩:=h2;refine ⟨t,⟨g1,by omega⟩,ext_mem.mpr ⟨R,by simpa using h1,by rw [FG];exact g3,by rw [h3,List.append_assoc];rfl⟩⟩
theorem QR (A B:List Nat):MM.uOf (A++B)=MM.uOf A ||| MM.uOf B:=by
  apply Nat.eq_of_testBit_eq;intro i;rw [MM.uOf_bit,Nat.testBit_or,MM.uOf_bit,MM.uOf_bit,List.any_append]
theorem Og (l:Nat) (B:List Nat) (h:∀ b∈B,wn b l=true):MM.uOf B ||| l=l:=by
  apply Nat.eq_of_testBit_eq;intro i;rw [Nat.testBit_or,MM.uOf_bit];cases hl:l.testBit i with
  | true=>simp
  | false=>
    simp only [Bool.or_false,List.any_eq_false];intro b hb;have:=congrArg (Nat.testBit · i) (of_decide_eq_true (h b hb));simp only [Nat.testBit_or,hl,Bool.or_false] at this;rw [this];decide
theorem wn_le {t l:Nat} (h:wn t l=true):t<=l:=by
  have:=of_decide_eq_true h;rw [<-this];exact Nat.left_le_or
theorem IP {T R:List Nat} {l:Nat} (h:toldB T l=true):toldB (T++R) l=true:=by
  unfold toldB at*;have h:=of_decide_eq_true h;refine decide_eq_true ?_;rw [List.filter_append,QR,h,Nat.or_comm];exact Og _ _ λ b hb=>(List.mem_filter.mp hb).2
theorem NB {T R:List Nat} {l:Nat} (h:∀ r∈R,wn r l=false):toldB (T++R) l=toldB T l:=by
  unfold toldB;rw [List.filter_append,List.filter_eq_nil_iff (l:=R) |>.mpr (λ r hr=>by rw [h r hr];decide),List.append_nil]
def minL:List Nat->Nat
  | []=>0
  | [x]=>x
  | x::y::l=>min x (minL (y::l))
theorem minL_mem:∀ {l:List Nat},l≠[]->minL l∈l
  | [],h=>absurd rfl h
  | [x],_=>by simp [minL]
  | x::y::l,_=>by
    have:= @minL_mem (y::l) (by simp);unfold minL;rcases Nat.le_total x (minL (y::l)) with h | h
    · rw [Nat.min_eq_left h];simp
    · rw [Nat.min_eq_right h];exact List.mem_cons_of_mem _ this
def search:Nat->List Nat->List Nat->Option (List Nat)
  | n,T,L=>if (L.filter λ l=> !toldB T l)=[] then some T else match n with
    | 0=>none
    | n+1=>(List.range' (frst T) (minL (L.filter λ l=> !toldB T l)+1 - frst T)).findSome? λ t=>if (L.filter λ l=> !toldB T l).any (wn t ·)=true then search n (T++[t]) (L.filter λ l=> !toldB T l) else none
theorem findSome_none {α β:Type} {f:α->Option β} {l:List α} (h:∀ x∈l,f x=none):l.findSome? f=none:=List.findSome?_eq_none_iff.mpr h
theorem Dx {α β:Type} {f g:α->Option β}:∀ {l:List α},(∀ x∈l,f x=g x)->l.findSome? f=l.findSome? g
  | [],_=>rfl
  | x::l,h=>by
    simp only [List.findSome?_cons];rw [h x (List.mem_cons_self ..),Dx λ y hy=>h y (List.mem_cons_of_mem _ hy)]
theorem N2 {K:List Nat} (hK:∀ k∈K,k<16):∀ (n:Nat) (T L:List Nat),Rz 1 T->(∀ l∈L,l∈K)->(∀ k∈K,k∈L\/toldB T k=true)->
    (∀ R:List Nat,R.length<T.length+n->Rz 1 R->mk R K=false)->search n T L=(ext n T).find? (mk · K):=by
  intro n
  induction n with
  | zero=>
    intro T L rT sub cov hmin;unfold search;by_cases hU:(L.filter λ l=> !toldB T l)=[]
    · rw [if_pos hU];have hm:mk T K=true:=List.all_eq_true.mpr λ k hk=>by
        rcases cov k hk with h | h
        · have:=List.filter_eq_nil_iff.mp hU k h;simpa using this
        · exact h
      simp [ext,hm]
    · rw [if_neg hU];obtain ⟨u,hu⟩:=List.exists_mem_of_ne_nil _ hU;obtain ⟨h1,h2⟩:=List.mem_filter.mp hu;have hm:mk T K=false:=by
        cases h:mk T K with
        | false=>rfl
        | true=>
          have:=List.all_eq_true.mp h u (sub u h1);rw [this] at h2;cases h2
      simp [ext,hm]
  | succ n ih=>
    intro T L rT sub cov hmin;unfold search;by_cases hU:(L.filter λ l=> !toldB T l)=[]
    · exfalso;have hm:mk T K=true:=List.all_eq_true.mpr λ k hk=>by
        rcases cov k hk with h | h
        · have:=List.filter_eq_nil_iff.mp hU k h;simpa using this
        · exact h
      have:=hmin T (by omega) rT;rw [hm] at this;cases this
    · rw [if_neg hU];dsimp only;have um:=minL_mem hU;generalize hUe:(L.filter λ l=> !toldB T l)=U at*;have hUm:∀ u∈U,u∈L/\toldB T u=false:=λ u hu=>by
        rw [<-hUe] at hu;have:=List.mem_filter.mp hu;exact ⟨this.1,by simpa using this.2⟩
      have u16:minL U<16:=hK _ (sub _ (hUm _ um).1);have none_of:∀ t,frst T<=t->t<16->(minL U<t\/U.any (wn t ·)=false)->(ext n (T++[t])).find? (mk · K)=none:=by
        intro t h1 h2 h3;rw [List.find?_eq_none];intro S hS hm;obtain ⟨R,g1,g2,rfl⟩:=ext_mem.mp hS;rw [FG] at g2;rcases h3 with h3 | h3
        · have:=List.all_eq_true.mp hm _ (sub _ (hUm _ um).1);rw [List.append_assoc,NB,(hUm _ um).2] at this
          · cases this
          · intro r hr;cases hw:wn r (minL U) with
            | false=>rfl
            | true=>
              have l1:=wn_le hw;rcases List.mem_append.mp hr with q | q
              · rw [List.mem_singleton.mp q] at l1;omega
              · have:=(rz_ge g2 r q).1;omega
        · have rr:Rz 1 (T++R):=by
            rw [LU];refine ⟨rT,?_⟩;have:frst T=(match T.getLast? with | some x=>x+1 | none=>1):=rfl;rw [<-this];exact JD (by omega) g2
          have:=hmin (T++R) (by rw [List.length_append];omega) rr;have hm':mk (T++R) K=true:=List.all_eq_true.mpr λ k hk=>by
            have hk1:=List.all_eq_true.mp hm k hk;cases ht:toldB T k with
            | true=>exact IP ht
            | false=>
              have hkU:k∈U:=by
                rw [<-hUe];exact List.mem_filter.mpr ⟨(cov k hk).resolve_right (by rw [ht];decide),by rw [ht];rfl⟩
              have hw:wn t k=false:=by
                have:=List.any_eq_false.mp h3 k hkU;simpa using this
              unfold toldB at hk1 ⊢;rw [List.filter_append,List.filter_append,List.filter_cons,hw] at hk1;rw [List.filter_append];simpa using hk1
          rw [hm'] at this;cases this
      have split:(ext (n+1) T).find? (mk · K)=(List.range' (frst T) (16 - frst T)).findSome? λ t=>(ext n (T++[t])).find? (mk · K):=by
        show (List.flatMap _ _).find? _=_;rw [List.find?_flatMap]
      rw [split];have hcut:List.range' (frst T) (16 - frst T)=List.range' (frst T) (minL U+1 - frst T)++List.range' (frst T+(minL U+1 - frst T)) (16 - frst T - (minL U+1 - frst T)):=by
        rw [List.range'_append_1];congr 1;omega
      rw [hcut,List.findSome?_append];rw [findSome_none (l:=List.range' (frst T+(minL U+1 - frst T)) _) λ t ht=>by
        have:=List.mem_range'_1.mp ht;exact none_of t (by omega) (by omega) (.inl (by omega))]
      rw [Option.or_none];refine Dx λ t ht=> ?_;have ht:=List.mem_range'_1.mp ht;by_cases hw:U.any (wn t ·)=true
      · rw [if_pos hw];refine ih (T++[t]) U (rz_snoc.mpr ⟨rT,ht.1,by omega⟩) (λ u hu=>sub u (hUm u hu).1) (λ k hk=> ?_) (λ R hR rR=>hmin R (by rw [List.length_append,List.length_singleton] at hR;omega) rR);cases h:toldB T k with
        | true=>exact .inr (IP h)
        | false=>
          left;rw [<-hUe];exact List.mem_filter.mpr ⟨(cov k hk).resolve_right (by rw [h];decide),by rw [h];rfl⟩
      · rw [if_neg hw];exact (none_of t ht.1 (by omega) (.inr (by simpa using hw))).symm
theorem minL_le:∀ {l:List Nat} {u:Nat},u∈l->minL l<=u
  | [],_,h=>nomatch h
  | [x],u,h=>by rw [List.mem_singleton.mp h];exact Nat.le_refl _
  | x::y::l,u,h=>by
    unfold minL;rcases List.mem_cons.mp h with rfl | h
    · exact Nat.min_le_left ..
    · exact Nat.le_trans (Nat.min_le_right ..) (minL_le h)
theorem frst_le {T:List Nat} (h:Rz 1 T):1<=frst T/\frst T<=16:=by
  unfold frst;cases hg:T.getLast? with
  | none=>exact ⟨Nat.le_refl _,by decide⟩
  | some x=>
    have:=rz_ge h x (List.mem_of_getLast? hg);show 1<=x+1/\x+1<=16;exact ⟨by omega,by omega⟩
theorem find_first {β:Type} {g:Nat->Option β} {f k i:Nat} {r:β} (hi:i<k) (h1:∀ j,j<i->g (f+j)=none) (h2:g (f+i)=some r):(List.range' f k).findSome? g=some r:=by
  have e:List.range' f k=List.range' f i++List.range' (f+i) (k - i):=by
    rw [List.range'_append_1];congr 1;omega
  obtain ⟨m,hm⟩:∃ m,k - i=m+1:=⟨k - i - 1,by omega⟩;rw [e,List.findSome?_append,findSome_none λ t ht=> ?_,hm,List.range'_succ,List.findSome?_cons,h2]
  · rfl
  · have ht:=List.mem_range'_1.mp ht;have:=h1 (t - f) (by omega)
    rwa [show f+(t - f)=t by omega] at this
theorem any_at (p:Nat->Bool) (U:List Nat):((List.range U.length).map λ i=>p (U.getD i 0)).any id=U.any p:=by
  have e:U=(List.range U.length).map λ i=>U.getD i 0:=by
    apply List.ext_getElem
    · simp
    · intro i h1 h2;simp [List.getD_eq_getElem?_getD,h1]
  conv=>rhs;rw [e]
  rw [List.any_map,List.any_map];rfl
theorem YQ:∀ k,k<16->toldB [1,2,4,8] k=true:=by decide
theorem few4 {K:List Nat} (hK:∀ k∈K,k<16):(ext 4 []).find? (mk · K)≠none:=by
  intro h;rw [List.find?_eq_none] at h;refine h [1,2,4,8] (ext_mem.mpr ⟨[1,2,4,8],rfl,?_,rfl⟩) (List.all_eq_true.mpr λ k hk=>YQ k (hK k hk));simp [Rz,frst]
theorem Pi {K:List Nat} {m:Nat} (h:∀ j,j<m->(ext j []).find? (mk · K)=none):∀ R:List Nat,R.length<m->Rz 1 R->mk R K=false:=by
  intro R hl hr;have:=List.find?_eq_none.mp (h _ hl) R (ext_mem.mpr ⟨R,rfl,hr,rfl⟩);simpa using this
theorem search0 {K:List Nat} (hK:∀ k∈K,k<16) {m:Nat} (h:∀ j,j<m->(ext j []).find? (mk · K)=none):search m [] K=(ext m []).find? (mk · K):=
  N2 hK m [] K trivial (λ _ h=>h) (λ _ h=> .inl h) (by simpa using Pi h)
theorem SM {n:Nat} {S:List Nat} (h:S∈ext n []):Rz 1 S/\S.length=n:=by
  obtain ⟨R,h1,h2,rfl⟩:=ext_mem.mp h;exact ⟨h2,by simpa using h1⟩
end MTies
namespace L2
open PySem PySem.Spec PyProof.Rows
def BV (ks:List Int) (m:Int):List Int:=if m∈(0::ks) then ks else ks++[m]
def kOf (ms:List Int):List Int:=ms.foldl BV []
def kZ (l:List Int) (j:Nat):List (Key × V):=(l.zipIdx j).map λ p=>(.inl p.1, .int (p.2:Nat))
def kD (ks:List Int):List (Key × V):=kZ (0::ks) 0
theorem Pc:∀ (l:List Int) (j:Nat) (m:Int),Dz (kZ l j) (.inl m)=if m∈l then some (.int ((j+l.idxOf m:Nat):Int)) else none
  | [],j,m=>rfl
  | x::l,j,m=>by
    unfold kZ;rw [List.zipIdx_cons,List.map_cons];unfold Dz;rw [List.find?_cons];by_cases h:x=m
    · subst h;simp
    · have e:(decide ((Sum.inl x:Key)= .inl m))=false:=by simp [h]
      simp only [e];have ih:=Pc l (j+1) m;unfold kZ Dz at ih;rw [ih];have hm:(m∈x::l)↔m∈l:=by simp [Ne.symm h]
      by_cases q:m∈l
      · rw [if_pos q,if_pos (hm.mpr q),List.idxOf_cons];have e2:(x == m)=false:=by simp [h]
        rw [e2];simp only [cond_false];congr 2;omega
      · rw [if_neg q,if_neg (λ z=>q (hm.mp z))]
theorem LH (ks:List Int) (m:Int):Dz (kD ks) (.inl m)=if m∈(0::ks) then some (.int (((0::ks).idxOf m:Nat):Int)) else none:=by
  unfold kD;rw [Pc,Nat.zero_add]
theorem Ox (ks:List Int):(kD ks).length=ks.length+1:=by
  unfold kD kZ;simp
theorem NA (l:List Int) (m:Int) (j:Nat):kZ (l++[m]) j=kZ l j++[(.inl m, .int ((j+l.length:Nat):Int))]:=by
  unfold kZ;rw [List.zipIdx_append,List.map_append];rfl
theorem TC (ks:List Int) (m:Int) (h:¬ m∈(0::ks)):Do (kD ks) (.inl m) (.int ((ks.length+1:Nat):Int))=kD (ks++[m]):=by
  rw [Ow _ (by rw [LH,if_neg h])];unfold kD;rw [<-List.cons_append,NA];simp
theorem Mh:∀ (l:List Int) (j:Nat),(kZ l j).map (λ kv=>kV kv.1)=l.map V.int
  | [],j=>rfl
  | x::l,j=>by
    have ih:=Mh l (j+1);unfold kZ at ih ⊢;rw [List.zipIdx_cons,List.map_cons,List.map_cons,ih,List.map_cons];rfl
theorem Qv (ks:List Int):(kD ks).map (λ kv=>kV kv.1)=(0::ks).map V.int:=Mh _ 0
theorem GI (ms:List Int) (m:Int):kOf (ms++[m])=BV (kOf ms) m:=by
  unfold kOf;rw [List.foldl_append];rfl
theorem O4 (ks:List Int) (m:Int):(BV ks m).length<=ks.length+1:=by
  unfold BV;split
  · omega
  · simp
theorem GJ (ms:List Int) (i:Nat) (h:i<ms.length):kOf (ms.take (i+1))=BV (kOf (ms.take i)) ms[i]:=by
  rw [List.take_succ_eq_append_getElem h,GI]
theorem JT:∀ (ms:List Int),(kOf ms).length<=ms.length:=by
  refine MM.snoc_ind (Nat.le_refl _) λ l a ih=> ?_;rw [GI,List.length_append];have:=O4 (kOf l) a;have:[a].length=1:=rfl;omega
theorem JK:∀ (ms:List Int) (m:Int),m∈ms->m∈(0::kOf ms):=by
  refine MM.snoc_ind (λ m h=>nomatch h) λ l a ih=> ?_
  · intro m h;rw [GI];unfold BV;rcases List.mem_append.mp h with q | q
    · have:=ih m q;split
      · exact this
      · rw [<-List.cons_append];exact List.mem_append_left _ this
    · have e:m=a:=by simpa using q
      subst e;split
      · assumption
      · rw [<-List.cons_append];exact List.mem_append_right _ (by simp)
end L2
namespace MTies
structure Few (L:List Nat) (m:Nat) (R:List Nat):Prop where
  old:∀ j,j<m->(ext j []).find? (mk · L)=none
  now:(ext m []).find? (mk · L)=some R
theorem Few.rz {L:List Nat} {m:Nat} {R:List Nat} (h:Few L m R):Rz 1 R/\R.length=m:=SM (List.mem_of_find?_eq_some h.now)
theorem Few.mkk {L:List Nat} {m:Nat} {R:List Nat} (h:Few L m R):MTies.mk R L=true:=List.find?_some (p:=λ x=>MTies.mk x L) h.now
theorem Few.told {L:List Nat} {m:Nat} {R:List Nat} (h:Few L m R) {l:Nat} (hl:l∈L):MM.uOf (R.filter (wn · l))=l:=by
  have:=List.all_eq_true.mp h.mkk l hl;unfold toldB at this;exact of_decide_eq_true this
theorem FM (p:Nat->Bool):∀ {R:List Nat} {a:Nat},Rz a R->Rz a (R.filter p)
  | [],_,_=>trivial
  | x::R,a,⟨h1,h2,h3⟩=>by
    rw [List.filter_cons];split
    · exact ⟨h1,h2,FM p h3⟩
    · exact JD (by omega) (FM p h3)
theorem Few.min {L:List Nat} {m:Nat} {R:List Nat} (h:Few L m R) {S:List Nat} (hz:Rz 1 S) (hm:MTies.mk S L=true):m<=S.length:=by
  rcases Nat.lt_or_ge S.length m with z | z
  · have:=Pi h.old S z hz;rw [hm] at this;cases this
  · exact z
theorem Few.used {L:List Nat} {m:Nat} {R:List Nat} (h:Few L m R):∀ t∈R,∃ l,l∈L/\wn t l=true:=by
  obtain ⟨hz,hl⟩:=h.rz;have hm:MTies.mk (R.filter λ t=>L.any (wn t)) L=true:=by
    refine List.all_eq_true.mpr λ l hl=> ?_;unfold toldB;rw [decide_eq_true_eq,List.filter_filter];have e:R.filter (λ a=>wn a l&&L.any (wn a))=R.filter (wn · l):=by
      refine List.filter_congr λ t _=> ?_;cases q:wn t l with
      | false=>rfl
      | true=>
        rw [Bool.true_and];exact List.any_eq_true.mpr ⟨l,hl,q⟩
    rw [e];exact h.told hl
  have le:=h.min (FM _ hz) hm;intro t ht;have e:R.filter (λ t=>L.any (wn t))=R:=List.filter_eq_self.mpr (by
    have:=List.length_filter_le (λ t=>L.any (wn t)) R;exact (List.length_filter_eq_length_iff).mp (by omega))
  have q:=List.mem_filter.mp (show t∈R.filter (λ t=>L.any (wn t)) by rw [e];exact ht);exact List.any_eq_true.mp q.2
theorem Rh:∀ k,k<=4->∀ l,l<2 ^ k->toldB ([1,2,4,8].take k) l=true:=by decide
theorem WR:∀ k,k<=4->Rz 1 ([1,2,4,8].take k):=by
  intro k hk
  match k,hk with
  | 0,_=>trivial
  | 1,_=>exact ⟨by decide,by decide,trivial⟩
  | 2,_=>exact ⟨by decide,by decide,by decide,by decide,trivial⟩
  | 3,_=>exact ⟨by decide,by decide,by decide,by decide,by decide,by decide,trivial⟩
  | 4,_=>exact ⟨by decide,by decide,by decide,by decide,by decide,by decide,by decide,by decide,trivial⟩
theorem Few.le_sh {L:List Nat} {m:Nat} {R:List Nat} (h:Few L m R) {k:Nat} (hk:k<=4) (hl:∀ l∈L,l<2 ^ k):m<=k:=by
  have:=h.min (WR k hk) (List.all_eq_true.mpr λ l q=>Rh k hk l (hl l q));rw [List.length_take] at this;omega
theorem len_sub {α:Type} [BEq α] [LawfulBEq α]:∀ {S L:List α},S.Nodup->(∀ x∈S,x∈L)->S.length<=L.length
  | [],L,_,_=>Nat.zero_le _
  | x::S,L,hn,hs=>by
    have hx:=hs x (List.mem_cons_self ..);rw [List.nodup_cons] at hn;have:=len_sub (L:=L.erase x) hn.2 λ y hy=>(List.mem_erase_of_ne (λ (z:y=x)=>hn.1 (by rw [<-z];exact hy))).mpr (hs y (List.mem_cons_of_mem _ hy));rw [List.length_erase_of_mem hx] at this;have:=List.length_pos_of_mem hx;rw [List.length_cons];omega
theorem Pm (p:Nat->Bool):∀ n a,a+n=16->Rz a ((List.range' a n).filter p)
  | 0,a,_=>trivial
  | n+1,a,h=>by
    rw [List.range'_succ,List.filter_cons];have ih:=Pm p n (a+1) (by omega);split
    · exact ⟨Nat.le_refl _,by omega,ih⟩
    · exact JD (by omega) ih
theorem Few.le_len {L:List Nat} {m:Nat} {R:List Nat} (h:Few L m R) (hl:∀ l∈L,1<=l/\l<16):m<=L.length:=by
  have hm:MTies.mk ((List.range' 1 15).filter λ t=>decide (t∈L)) L=true:=by
    refine List.all_eq_true.mpr λ l q=> ?_;unfold toldB;rw [decide_eq_true_eq];have hb:=hl l q;have hin:l∈((List.range' 1 15).filter λ t=>decide (t∈L)).filter (wn · l):=by
      refine List.mem_filter.mpr ⟨List.mem_filter.mpr ⟨List.mem_range'_1.mpr (by omega),decide_eq_true q⟩,?_⟩;unfold wn;simp
    generalize hS:((List.range' 1 15).filter λ t=>decide (t∈L)).filter (wn · l)=S at hin;have hw:∀ b∈S,wn b l=true:=λ b hb=>by
      rw [<-hS] at hb;exact (List.mem_filter.mp hb).2
    have e:=Og l S hw;refine Nat.eq_of_testBit_eq λ i=> ?_;cases z:l.testBit i with
    | true=>
      rw [MM.uOf_bit];exact List.any_eq_true.mpr ⟨l,hin,z⟩
    | false=>
      have:=congrArg (·.testBit i) e;simp only [Nat.testBit_or,z,Bool.or_false] at this;exact this
  have:=h.min (Pm _ 15 1 rfl) hm;refine Nat.le_trans this (len_sub ((List.nodup_range' ..).filter _) λ x hx=>of_decide_eq_true (List.mem_filter.mp hx).2)
theorem rz_lt:∀ {R:List Nat} {a:Nat},Rz a R->R.Pairwise (· < ·)
  | [],_,_=> .nil
  | x::R,a,⟨_,_,h3⟩=> .cons (λ y hy=>by have:=(rz_ge h3 y hy).1;omega) (rz_lt h3)
theorem Few.uniq {L:List Nat} {m m':Nat} {R R':List Nat} (h:Few L m R) (h':Few L m' R'):m=m'/\R=R':=by
  have e:m=m':=by
    rcases Nat.lt_trichotomy m m' with z | z | z
    · have:=h'.old m z;rw [h.now] at this;cases this
    · exact z
    · have:=h.old m' z;rw [h'.now] at this;cases this
  subst e;exact ⟨rfl,Option.some.inj (h.now.symm.trans h'.now)⟩
theorem OU (f:Nat->Bool):∀ w,((((List.range w).filter f).map (· + 1)).map λ s=>2 ^ (s - 1)).sum=MM.ofB f w
  | 0=>rfl
  | w+1=>by
    rw [List.range_succ,List.filter_append,List.map_append,List.map_append,List.sum_append,OU f w];show _=MM.ofB f w+(f w).toNat*2 ^ w;cases z:f w with
    | false=>simp [z]
    | true=>simp [z]
theorem sum_nOf {m w:Nat} (h:m<2 ^ w):((MM.nOf m).map λ s=>2 ^ (s - 1)).sum=m:=by
  rw [MM.nOf_wide h,OU,MM.ofB_self _ _ h]
end MTies
open L2
local macro_rules | `(tactic| walk_at "t") => `(tactic| first | (with_reducible first | refine Pt ?_ | refine TK ?_ | refine QV ?_ | refine aa ?_ | refine UW ?_ | refine UO ?_ | refine SU ?_ | refine Vv ?_ | refine Tz ?_ | refine To ?_ | refine SV ?_ | refine Ra ?_ | refine W0 ?_ | refine Wp ?_ | refine Zs ?_ | refine TZ ?_ | refine RC ?_ | refine Ru ?_ | refine VH ?_ | refine Tu ?_ | refine Qx ?_ | refine Tg ?_ | refine QF ?_ | refine TF ?_ | refine TH ?_ | refine U0 ?_ | refine Ro ?_ | refine Vj ?_ | refine RD ?_ | refine NY ?_ | refine T1 ?_ | refine Lu ?_ | refine HZ ?_ | refine Rv ?_ | refine Qq ?_ | refine RH ?_ | refine Qe ?_ | refine QX ?_ | refine Nl ?_ | refine Q2 ?_ | refine Td ?_ | refine VY ?_ | refine Xa ?_ | refine VW ?_ | refine QE ?_ | refine Ts ?_ | refine W2 ?_ | refine YD ?_ | refine Vq ?_ | refine Yp ?_ | refine W5 ?_ | refine Zg ?_ | refine YO ?_ | refine Y5 ?_ | refine Qw ?_ | refine QQ ?_ | refine Oq ?_ | refine Ua ?_ | refine SY ?_ | refine RY ?_ | refine Re ?_) | ((with_reducible apply T3); exact rfl) | (with_reducible refine SR (by simp only [List.length_cons, List.length_nil]; decide) ?_))
local macro_rules | `(tactic| walk_at "s") => `(tactic| first | walk_at "t" | (with_reducible refine Ub ?_))
local macro_rules | `(tactic| walk_at "w") => `(tactic| repeat walk_at "s")
local macro_rules | `(tactic| wrow_has $H $n) => do let t := ((n.getId.toString.drop 1).toString); let i := λ (a : String) => Lean.mkIdent (Lean.Name.mkSimple (a ++ t)); `(tactic| (generalize e : upd $H $(i "p") _ = $(i "H"); have $(i "s"):ident : Same $H $(i "H") := (by rw [<-e]; exact Ak $(i "n")); have $(i "g"):ident := (congrFun e $(i "p")).symm.trans Ad; clear e))
local macro_rules | `(tactic| row_lines $H $n) => do let t := ((n.getId.toString.drop 1).toString); let i := λ (a : String) => Lean.mkIdent (Lean.Name.mkSimple (a ++ t)); `(tactic| (intro $(i "p"):ident $(i "n"):ident; wrow_has $H $n))
local macro_rules | `(tactic| walk_at "x") => `(tactic| repeat first | walk_at "s" | (with_reducible refine A9 (by decide) ?_))
namespace K08
open PySem L2 PySem.Spec PyProof.Rows
seal L2.PE L2.PT L2.PW L2.PA L2.PS L2.PSs L2.PI L2.PG L2.PTs L2.PGs
section
variable {P:Program} {w:World} {K:PySem.W.Frag} {mg:Str->Option Value} {base:Heap}
structure Cs where
  Draft:Addr
  Cloth:Addr
  LoomError:Addr
  BadRow:Addr
  BadWord:Addr
  TooMany:Addr
  NotPlain:Addr
  NotGrown:Addr
  BadDraft:Addr
  BadCloth:Addr
  OutOfPlace:Addr
structure Txt (K:PySem.W.Frag) (mg:Str->Option Value) (c:Cs):Prop where
  own:Own mg ["isinstance","int","bool","str","list","tuple","set","len","all","any","range","sum","zip","enumerate","min","max","ValueError"]
  g_Draft:mg "Draft"=some (.ref c.Draft)
  kd_Draft:Kind K c.Draft
  is_Draft:PySem.W.kitOne K (.ref c.Draft) (.ref c.Draft)=some true
  na_Draft_shafts:NoAttr K c.Draft "shafts"
  na_Draft_treadles:NoAttr K c.Draft "treadles"
  na_Draft_threading:NoAttr K c.Draft "threading"
  na_Draft_ties:NoAttr K c.Draft "ties"
  na_Draft_treading:NoAttr K c.Draft "treading"
  na_Draft_warp:NoAttr K c.Draft "warp"
  na_Draft_weft:NoAttr K c.Draft "weft"
  g_Cloth:mg "Cloth"=some (.ref c.Cloth)
  kd_Cloth:Kind K c.Cloth
  is_Cloth:PySem.W.kitOne K (.ref c.Cloth) (.ref c.Cloth)=some true
  na_Cloth_width:NoAttr K c.Cloth "width"
  na_Cloth_rows:NoAttr K c.Cloth "rows"
  g_LoomError:mg "LoomError"=some (.ref c.LoomError)
  g_BadRow:mg "BadRow"=some (.ref c.BadRow)
  g_BadWord:mg "BadWord"=some (.ref c.BadWord)
  g_TooMany:mg "TooMany"=some (.ref c.TooMany)
  g_NotPlain:mg "NotPlain"=some (.ref c.NotPlain)
  g_NotGrown:mg "NotGrown"=some (.ref c.NotGrown)
  g_BadDraft:mg "BadDraft"=some (.ref c.BadDraft)
  xk_BadDraft:HT.ExcKind K c.BadDraft
  xi_BadDraft:PySem.W.excIn K c.BadDraft [.type "ValueError", .type "Exception", .type "BaseException", .type "object"] "ValueError.__new__"=true
  xm_BadDraft_LoomError:PySem.W.exmOne K (.ref c.BadDraft) (.ref c.LoomError)=some true
  ki_BadDraft_BadRow:PySem.W.kitOne K (.ref c.BadDraft) (.ref c.BadRow)=some false
  ki_BadDraft_BadWord:PySem.W.kitOne K (.ref c.BadDraft) (.ref c.BadWord)=some false
  ki_BadDraft_TooMany:PySem.W.kitOne K (.ref c.BadDraft) (.ref c.TooMany)=some false
  ki_BadDraft_NotPlain:PySem.W.kitOne K (.ref c.BadDraft) (.ref c.NotPlain)=some false
  ki_BadDraft_NotGrown:PySem.W.kitOne K (.ref c.BadDraft) (.ref c.NotGrown)=some false
  ki_BadDraft_BadDraft:PySem.W.kitOne K (.ref c.BadDraft) (.ref c.BadDraft)=some true
  ki_BadDraft_BadCloth:PySem.W.kitOne K (.ref c.BadDraft) (.ref c.BadCloth)=some false
  ki_BadDraft_OutOfPlace:PySem.W.kitOne K (.ref c.BadDraft) (.ref c.OutOfPlace)=some false
  ki_BadDraft_ValueError:PySem.W.kitOne K (.ref c.BadDraft) (.type "ValueError")=some true
  g_BadCloth:mg "BadCloth"=some (.ref c.BadCloth)
  xk_BadCloth:HT.ExcKind K c.BadCloth
  xi_BadCloth:PySem.W.excIn K c.BadCloth [.type "ValueError", .type "Exception", .type "BaseException", .type "object"] "ValueError.__new__"=true
  xm_BadCloth_LoomError:PySem.W.exmOne K (.ref c.BadCloth) (.ref c.LoomError)=some true
  ki_BadCloth_BadRow:PySem.W.kitOne K (.ref c.BadCloth) (.ref c.BadRow)=some false
  ki_BadCloth_BadWord:PySem.W.kitOne K (.ref c.BadCloth) (.ref c.BadWord)=some false
  ki_BadCloth_TooMany:PySem.W.kitOne K (.ref c.BadCloth) (.ref c.TooMany)=some false
  ki_BadCloth_NotPlain:PySem.W.kitOne K (.ref c.BadCloth) (.ref c.NotPlain)=some false
  ki_BadCloth_NotGrown:PySem.W.kitOne K (.ref c.BadCloth) (.ref c.NotGrown)=some false
  ki_BadCloth_BadDraft:PySem.W.kitOne K (.ref c.BadCloth) (.ref c.BadDraft)=some false
  ki_BadCloth_BadCloth:PySem.W.kitOne K (.ref c.BadCloth) (.ref c.BadCloth)=some true
  ki_BadCloth_OutOfPlace:PySem.W.kitOne K (.ref c.BadCloth) (.ref c.OutOfPlace)=some false
  ki_BadCloth_ValueError:PySem.W.kitOne K (.ref c.BadCloth) (.type "ValueError")=some true
  g_OutOfPlace:mg "OutOfPlace"=some (.ref c.OutOfPlace)
  xk_TooMany:XKind K c.TooMany
  xs_TooMany:XSet K c.TooMany
  xm_TooMany_LoomError:PySem.W.exmOne K (.ref c.TooMany) (.ref c.LoomError)=some true
  ki_TooMany_BadRow:PySem.W.kitOne K (.ref c.TooMany) (.ref c.BadRow)=some false
  ki_TooMany_BadWord:PySem.W.kitOne K (.ref c.TooMany) (.ref c.BadWord)=some false
  ki_TooMany_TooMany:PySem.W.kitOne K (.ref c.TooMany) (.ref c.TooMany)=some true
  ki_TooMany_NotPlain:PySem.W.kitOne K (.ref c.TooMany) (.ref c.NotPlain)=some false
  ki_TooMany_NotGrown:PySem.W.kitOne K (.ref c.TooMany) (.ref c.NotGrown)=some false
  ki_TooMany_BadDraft:PySem.W.kitOne K (.ref c.TooMany) (.ref c.BadDraft)=some false
  ki_TooMany_BadCloth:PySem.W.kitOne K (.ref c.TooMany) (.ref c.BadCloth)=some false
  ki_TooMany_OutOfPlace:PySem.W.kitOne K (.ref c.TooMany) (.ref c.OutOfPlace)=some false
  ki_TooMany_ValueError:PySem.W.kitOne K (.ref c.TooMany) (.type "ValueError")=some true
  xf_TooMany_what:PySem.W.findIn K (.ref c.TooMany) "what"=some none
  xf_TooMany_many:PySem.W.findIn K (.ref c.TooMany) "many"=some none
  xj_TooMany:∃ fi,HT.iniIn K c.TooMany fi=true
  xb_LoomError:XBase K c.LoomError
  k_MOST_SHAFTS:∃ t,mg "MOST_SHAFTS"=some (.int 16 t)
  k_MOST_TREADLES:∃ t,mg "MOST_TREADLES"=some (.int 16 t)
  k_MOST_ENDS:∃ t,mg "MOST_ENDS"=some (.int 60 t)
  k_MOST_PICKS:∃ t,mg "MOST_PICKS"=some (.int 60 t)
  k_COLOURS:∃ t,mg "COLOURS"=some (.str "abcdefghijklmnopqrstuvwxyz" t)
  k_WARP_COLOUR:∃ t,mg "WARP_COLOUR"=some (.str "a" t)
  k_WEFT_COLOUR:∃ t,mg "WEFT_COLOUR"=some (.str "b" t)
  k_MOST_LIFTED:∃ t,mg "MOST_LIFTED"=some (.int 4 t)
def Mg (K:PySem.W.Frag):Sp:=λ vs H Q _=>∃ (a:Addr) (ns:List Int),vs=[.ref a]/\SqL K H a (ns.map V.int)/\ns.length<=63/\∀ H',Q (.bl true) H'
end
section
variable {P:Program} {w:World} {K:PySem.W.Frag} {mg:Str->Option Value} {base:Heap} {c:Cs}
def FH:Sp:=λ vs H Q _=>∃ n:Nat,vs=[.int n]/\1<=n/\n<=1000/\Q (.int ((2 ^ (n - 1):Nat):Int)) H
abbrev Hf:Stmt:=top 2
theorem N5:FnScope ["number"] ["number"] (Ah Hf):=⟨rfl,rfl,rfl,by decide +kernel,rfl,by decide +kernel,by decide +kernel⟩
theorem NI {f:Addr} {fd:FuncData} (F:Fun K "bit_of" "bit_of" Hf f fd) (T:Txt K mg c):FnOk P w K mg base CX0 1 f fd ["number"] FH:=by
  refine F.ok N5 (λ vs H Q E h=> ?_) (λ cdv A outer s H vs Q E hr h=> ?_)
  · obtain ⟨n,rfl,_⟩:=h;rfl
  · obtain ⟨n,rfl,h1,h2,q⟩:=h;refine ⟨_,(Af (Al (Ao Ho Ag (Ao FO (pv 0) Ag)))),?_⟩;walk_at "w";refine A9 ⟨by omega,by omega,by decide⟩ ?_;rw [show ((n:Int) - 1).toNat=n - 1 by omega,K5];exact q
def BY (K:PySem.W.Frag):Sp:=λ vs H Q _=>∃ tp a,∃ ns:List Nat,vs=[.ref a]/\SqS tp K H a (ns.map nV)/\(∀ n∈ns,1<=n/\n<=1000)/\∀ H',Same H H'->Q (.int ((MM.mOf ns:Nat):Int)) H'
abbrev FL:Stmt:=top 3
theorem sc_mask_of:FnScope ["numbers","mask","number"] ["numbers"] (Ah FL):=⟨rfl,rfl,rfl,by decide +kernel,rfl,by decide +kernel,by decide +kernel⟩
theorem LY {f:Addr} {fd:FuncData} (F:Fun K "mask_of" "mask_of" FL f fd) (T:Txt K mg c) (c_bit_of:CallF P w K mg base "bit_of" 1 ["number"] FH):FnOk P w K mg base CX0 2 f fd ["numbers"] (BY K):=by
  refine F.ok sc_mask_of (λ vs H Q E h=> ?_) (λ cdv A outer s H vs Q E hr h=> ?_)
  · obtain ⟨tp,a,ns,rfl,_⟩:=h;rfl
  · obtain ⟨tp,a,ns,rfl,sa,hn,q⟩:=h;refine ⟨_,(Ac (An (i:=1) sc_mask_of.nd rfl (Or.inl rfl) Ag)
      (Ac (Cp PassesOwn.never rfl (KN (K:=K) (pv 0)) (Bd (i:=2) sc_mask_of.nd rfl (Or.inl rfl)) (Af (LD (i:=1) sc_mask_of.nd rfl (Or.inl rfl) (Ae c_bit_of hr (Aa (pv 2) Ab)) OM)))
      (Af (Al (pv 1))))),?_⟩
    walk_at "w";refine ⟨tp,a,rfl,⟨_,sa⟩,DS (KY sa) (λ i σ H3=>∃ x,σ=[some (.ref a),some (.int ((MM.mOf (ns.take i):Nat):Int)),x]/\Same H H3) ⟨_,rfl,Same.refl _⟩ (λ i σ H3 ⟨_,_,s⟩=>s) ?_ ?_⟩
    · rintro i σ H' H3 hi ⟨x,rfl,s'⟩ s3;have hi':i<ns.length:=by simpa using hi
      have hm:ns.getD i 0∈ns:=by rw [List.getD_eq_getElem?_getD,List.getElem?_eq_getElem hi'];exact List.getElem_mem hi'
      rw [Aq hi];walk_at "w";refine JI rfl ?_;walk_at "w";refine ⟨_,rfl,(hn _ hm).1,(hn _ hm).2,?_⟩;walk_at "w";rw [bO, <-MM.mOf_snoc, <-IG hi'];exact ⟨_,rfl,s'.trans s3⟩
    · rintro σ H3 ⟨x,rfl,s3⟩;walk_at "w";rw [List.length_map,List.take_length];exact q H3 s3
def G9:Sp:=λ vs H Q _=>∃ n:Nat,vs=[.int n]/\n<=1000/\Q (.int ((2 ^ n - 1:Nat):Int)) H
abbrev FI:Stmt:=top 4
theorem Le:FnScope ["most"] ["most"] (Ah FI):=⟨rfl,rfl,rfl,by decide +kernel,rfl,by decide +kernel,by decide +kernel⟩
theorem Ls {f:Addr} {fd:FuncData} (F:Fun K "mask_to" "mask_to" FI f fd) (T:Txt K mg c):FnOk P w K mg base CX0 1 f fd ["most"] G9:=by
  refine F.ok Le (λ vs H Q E h=> ?_) (λ cdv A outer s H vs Q E hr h=> ?_)
  · obtain ⟨n,rfl,_⟩:=h;rfl
  · obtain ⟨n,rfl,h1,q⟩:=h;refine ⟨_,(Af (Al (Ao FO (Ao Ho Ag (pv 0)) Ag))),?_⟩;walk_at "w";refine A9 ⟨by omega,by omega,by decide⟩ ?_;walk_at "w";have hp:0<2 ^ n:=Nat.two_pow_pos n;rw [show ((n:Int)).toNat=n by omega,K5,show ((2 ^ n:Nat):Int) - 1=((2 ^ n - 1:Nat):Int) by omega];exact q
def BE:Sp:=λ vs H Q _=>∃ m n:Nat,vs=[.int m, .int n]/\1<=n/\n<=1000/\Q (.bl (m.testBit (n - 1))) H
theorem Q3 (m i:Nat):(!decide (((m &&& 2 ^ i:Nat):Int)=0))=m.testBit i:=by
  have e:(m &&& 2 ^ i)=(m.testBit i).toNat*2 ^ i:=by
    refine Nat.eq_of_testBit_eq λ j=> ?_;rw [Nat.testBit_and,Nat.testBit_two_pow];by_cases h:i=j
    · subst h;cases hb:m.testBit i <;> simp
    · cases hb:m.testBit i <;> simp [h,Nat.testBit_two_pow]
  rw [e];have hp:0<2 ^ i:=Nat.two_pow_pos i;cases m.testBit i with
  | false=>simp
  | true=>
    rw [decide_eq_false (by rw [Bool.toNat_true];omega)];rfl
abbrev C8:Stmt:=top 5
theorem HJ:FnScope ["mask","number"] ["mask","number"] (Ah C8):=⟨rfl,rfl,rfl,by decide +kernel,rfl,by decide +kernel,by decide +kernel⟩
theorem Ig {f:Addr} {fd:FuncData} (F:Fun K "has_number" "has_number" C8 f fd) (T:Txt K mg c) (c_bit_of:CallF P w K mg base "bit_of" 1 ["number"] FH):FnOk P w K mg base CX0 2 f fd ["mask","number"] BE:=by
  refine F.ok HJ (λ vs H Q E h=> ?_) (λ cdv A outer s H vs Q E hr h=> ?_)
  · obtain ⟨m,n,rfl,_⟩:=h;rfl
  · obtain ⟨m,n,rfl,h1,h2,q⟩:=h;refine ⟨_,(Af (Al (BB Kq (Ao Lx (pv 0) (Ae c_bit_of hr (Aa (pv 1) Ab))) Ag (Aw _)))),?_⟩;walk_at "w";refine ⟨n,rfl,h1,h2,?_⟩;walk_at "w";rw [bA,Q3];exact q
def CB:Sp:=λ vs H Q _=>∃ m:Nat,vs=[.int m]/\m<2 ^ 900/\∀ H' p,Same H H'->H p=none->H' p=some (.lst ((MM.nOf m).map nV))->Q (.ref p) H'
abbrev CN:Stmt:=top 6
theorem Ip:FnScope ["mask"] ["mask"] (Ah CN):=⟨rfl,rfl,rfl,by decide +kernel,rfl,by decide +kernel,by decide +kernel⟩
theorem Ij {f:Addr} {fd:FuncData} (F:Fun K "numbers_of" "numbers_of" CN f fd) (T:Txt K mg c) (c_has_number:CallF P w K mg base "has_number" 2 ["mask","number"] BE):FnOk P w K mg base CX0 3 f fd ["mask"] CB:=by
  refine F.ok Ip (λ vs H Q E h=> ?_) (λ cdv A outer s H vs Q E hr h=> ?_)
  · obtain ⟨m,rfl,_⟩:=h;rfl
  · obtain ⟨m,rfl,h1,q⟩:=h;have hb:=MM.bits_le h1;refine ⟨_,(Af (Al (Av (CK rfl (T.own _ (by decide)) (Aa Ag (Aa (Ao Ba (SK (K:=K) PySem.F.plainAttrs_int PySem.F.slot_int_bit_length PySem.F.type_int_bit_length Ih (pv 0)) Ag) Ab))) (λ _ _ _ _=>(BC (Bb (Ae c_has_number hr (Aa (pv 1) (Aa (pv 0) Ab)))))) (λ _ _ _ _=>(pv 0))))),?_⟩;walk_at "w";refine tyI ?_;refine RA ?_;walk_at "w";refine ⟨_,_,rfl,⟨by decide,by decide,by omega,by omega⟩,λ D hD=> ?_⟩;rw [show ((MM.bits m:Nat)+1 - 1:Int).toNat=MM.bits m by omega];refine A1 (p:=m.testBit) (G:=λ i=>1+(i:Int)) (Ec rfl) hD (by omega) ?_ ?_ ?_
    · intro i H' R hi s k;walk_at "w";refine ⟨m,i+1,by rw [show (1:Int)+(i:Nat)=((i+1:Nat):Int) by omega],by omega,by omega,?_⟩;rw [show i+1 - 1=i by omega];exact ⟨_,rfl,k H' (Same.refl _)⟩
    · intro i H' R hi hp s k;walk_at "w";exact k H' (Same.refl _)
    · intro H' s hl;refine q H' D s hD ?_;rw [hl];unfold MM.nOf;rw [List.map_map,List.map_map];congr 2;refine List.map_congr_left λ i _=> ?_;show V.int (1+(i:Int))=V.int ((i+1:Nat):Int);congr 1;omega
def Cd (K:PySem.W.Frag):Sp:=λ vs H Q _=>∃ tp a,∃ ns:List Nat,vs=[.ref a]/\SqS tp K H a (ns.map nV)/\∀ H',Same H H'->Q (.int ((MM.uOf ns:Nat):Int)) H'
abbrev Ew:Stmt:=top 7
theorem sc_union_of:FnScope ["masks","union","mask"] ["masks"] (Ah Ew):=⟨rfl,rfl,rfl,by decide +kernel,rfl,by decide +kernel,by decide +kernel⟩
theorem K3 {f:Addr} {fd:FuncData} (F:Fun K "union_of" "union_of" Ew f fd) (T:Txt K mg c):FnOk P w K mg base CX0 1 f fd ["masks"] (Cd K):=by
  refine F.ok sc_union_of (λ vs H Q E h=> ?_) (λ cdv A outer s H vs Q E hr h=> ?_)
  · obtain ⟨tp,a,ns,rfl,_⟩:=h;rfl
  · obtain ⟨tp,a,ns,rfl,sa,q⟩:=h;refine ⟨_,(Ac (An (i:=1) sc_union_of.nd rfl (Or.inl rfl) Ag)
      (Ac (Cp PassesOwn.never rfl (KN (K:=K) (pv 0)) (Bd (i:=2) sc_union_of.nd rfl (Or.inl rfl)) (Af (LD (i:=1) sc_union_of.nd rfl (Or.inl rfl) (pv 2) OM)))
      (Af (Al (pv 1))))),?_⟩
    walk_at "w";refine ⟨tp,a,rfl,⟨_,sa⟩,DS (KY sa) (λ i σ H3=>∃ x,σ=[some (.ref a),some (.int ((MM.uOf (ns.take i):Nat):Int)),x]/\Same H H3) ⟨_,rfl,Same.refl _⟩ (λ i σ H3 ⟨_,_,s⟩=>s) ?_ ?_⟩
    · rintro i σ H' H3 hi ⟨x,rfl,s'⟩ s3;have hi':i<ns.length:=by simpa using hi
      rw [Aq hi];walk_at "w";refine JI rfl ?_;walk_at "w";rw [bO, <-MM.uOf_snoc, <-IG hi'];exact ⟨_,rfl,s'.trans s3⟩
    · rintro σ H3 ⟨x,rfl,s3⟩;walk_at "w";rw [List.length_map,List.take_length];exact q H3 s3
def Ga (K:PySem.W.Frag):Sp:=λ vs H Q _=>∃ x,vs=[x]/\Ty K H x/\Q (.bl (O1 x)) H
abbrev EG:Stmt:=top 24
theorem K7:FnScope ["thing"] ["thing"] (Ah EG):=⟨rfl,rfl,rfl,by decide +kernel,rfl,by decide +kernel,by decide +kernel⟩
theorem Lc {f:Addr} {fd:FuncData} (F:Fun K "is_whole" "is_whole" EG f fd) (T:Txt K mg c):FnOk P w K mg base CX0 1 f fd ["thing"] (Ga K):=by
  refine F.ok K7 (λ vs H Q E h=> ?_) (λ cdv A outer s H vs Q E hr h=> ?_)
  · obtain ⟨x,rfl,_⟩:=h;rfl
  · obtain ⟨x,rfl,⟨n,ty⟩,k⟩:=h;refine ⟨_,(Af (Al (EN (Aj (FZ (K:=K)) rfl (T.own _ (by decide)) boot_isinstance (Aa (pv 0) (Aa (GS rfl (T.own _ (by decide)) boot_int) Ab))) (FQ (Oj (Aj (FZ (K:=K)) rfl (T.own _ (by decide)) boot_isinstance (Aa (pv 0) (Aa (GS rfl (T.own _ (by decide)) boot_bool) Ab)))))))),?_⟩;walk_at "w";refine Cj ty (Qp ty) ?_;walk_at "w";refine N4 (λ hc=> ?_) (λ hc=> ?_)
    · walk_at "w";refine Cj ty (PQ ty) ?_;walk_at "w";exact F7 (by cases x <;> first | rfl | exact absurd hc Bool.false_ne_true) k
    · exact F7 (by cases x <;> first | rfl | exact absurd hc.symm Bool.false_ne_true) k
def BG (K:PySem.W.Frag):Sp:=λ vs H Q _=>∃ x a b,vs=[x, .int a, .int b]/\Ty K H x/\Q (.bl (Bq x a b)) H
abbrev ER:Stmt:=top 25
theorem KW:FnScope ["thing","least","most"] ["thing","least","most"] (Ah ER):=⟨rfl,rfl,rfl,by decide +kernel,rfl,by decide +kernel,by decide +kernel⟩
theorem J4 {f:Addr} {fd:FuncData} (F:Fun K "is_among" "is_among" ER f fd) (T:Txt K mg c) (c_is_whole:CallF P w K mg base "is_whole" 1 ["thing"] (Ga K)):FnOk P w K mg base CX0 2 f fd ["thing","least","most"] (BG K):=by
  refine F.ok KW (λ vs H Q E h=> ?_) (λ cdv A outer s H vs Q E hr h=> ?_)
  · obtain ⟨x,a,b,rfl,_⟩:=h;rfl
  · obtain ⟨x,a,b,rfl,ty,k⟩:=h;refine ⟨_,(Af (Al (EN (Ae c_is_whole hr (Aa (pv 0) Ab)) (FQ (OI OQ OQ (pv 1) (pv 0) (pv 2)))))),?_⟩;walk_at "w";refine ⟨x,rfl,ty,?_⟩;walk_at "w";refine N4 (λ hc=> ?_) (λ hc=> ?_)
    · cases x with
      | int i=>
        walk_at "w";refine N4 (λ h1=> ?_) (λ h1=> ?_)
        · walk_at "w";exact F7 (by show _=(decide (a<=i)&&decide (i<=b));rw [h1,Bool.true_and]) k
        · walk_at "w";exact F7 (by show _=(decide (a<=i)&&decide (i<=b));rw [h1,Bool.false_and]) k
      | _=>exact absurd hc Bool.false_ne_true
    · exact F7 (by cases x <;> first | rfl | exact absurd hc.symm Bool.false_ne_true) k
def ClAt (C:Addr) (H:Hp) (x:Addr) (n:Nat) (rs:List Nat):Prop:=∃ dx t,H x=some (.ins C dx [("width",nV n),("rows", .ref t)])/\H t=some (.tup (rs.map nV))
theorem ClAt.same {C:Addr} {H H':Hp} {x:Addr} {n:Nat} {rs:List Nat} (h:ClAt C H x n rs) (s:Same H H'):ClAt C H' x n rs:=by
  obtain ⟨dx,t,h1,h2⟩:=h;exact ⟨dx,t,s _ _ h1,s _ _ h2⟩
structure ClOk (n:Nat) (rs:List Nat):Prop where
  n1:1<=n
  n2:n<=60
  p1:1<=rs.length
  p2:rs.length<=60
  lt:∀ r∈rs,r<2 ^ n
inductive ClFit (K:PySem.W.Frag) (H:Hp):V->V->Bool->Prop
  | ends {e r:V} (ty:Ty K H e) (h:Bq e 1 60=false):ClFit K H e r false
  | kind {n:Nat} {r:V} {t:Value} (h1:1<=n) (h2:n<=60) (ty:TyOf K H r t) (h:PySem.W.kitOne K t (.type "list")=some false):ClFit K H (.int n) r false
  | many {n:Nat} {a:Addr} {xs:List V} (h1:1<=n) (h2:n<=60) (ha:H a=some (.lst xs)) (h:xs.length=0\/60<xs.length):ClFit K H (.int n) (.ref a) false
  | rows {n:Nat} {a:Addr} {xs:List V} (h1:1<=n) (h2:n<=60) (ha:H a=some (.lst xs)) (l1:1<=xs.length) (l2:xs.length<=60) (ty:∀ x∈xs,Ty K H x):ClFit K H (.int n) (.ref a) (xs.all λ x=>Bq x 0 ((2 ^ n - 1:Nat):Int))
theorem ClFit.ok {H:Hp} {n:Nat} {a:Addr} {rs:List Nat} (ha:H a=some (.lst (rs.map nV))) (ok:ClOk n rs):ClFit K H (.int n) (.ref a) true:=by
  have e:((rs.map nV).all λ x=>Bq x 0 ((2 ^ n - 1:Nat):Int))=true:=by
    rw [List.all_eq_true];intro x hx;obtain ⟨r,hr,rfl⟩:=List.mem_map.mp hx;have:=ok.lt _ hr;have hp:0<2 ^ n:=Nat.two_pow_pos n;show (decide ((0:Int)<=(r:Nat))&&decide (((r:Nat):Int)<=((2 ^ n - 1:Nat):Int)))=true;simp only [Bool.and_eq_true,decide_eq_true_eq];omega
  rw [<-e];refine .rows ok.n1 ok.n2 ha (by rw [List.length_map];exact ok.p1) (by rw [List.length_map];exact ok.p2) λ x hx=> ?_;obtain ⟨r,hr,rfl⟩:=List.mem_map.mp hx;exact ⟨_, .int _⟩
def En (K:PySem.W.Frag) (c:Cs):Sp:=λ vs H Q E=>∃ (e r:V) (b:Bool),vs=[e,r]/\ClFit K H e r b/\∀ H',Same H H'->(b=true->Q .non H')/\(b=false->E (.ref c.BadCloth) none H')
theorem Fg {n:Nat} (h1:1<=n) (h2:n<=60):Bq (.int n) 1 60=true:=by
  show (decide ((1:Int)<=n)&&decide ((n:Int)<=60))=true;simp;omega
abbrev CU:Stmt:=top 57
theorem HM:FnScope ["ends","rows"] ["ends","rows"] (Ah CU):=⟨rfl,rfl,rfl,by decide +kernel,rfl,by decide +kernel,by decide +kernel⟩
theorem Ib {f:Addr} {fd:FuncData} (F:Fun K "need_cloth" "need_cloth" CU f fd) (T:Txt K mg c) (c_is_among:CallF P w K mg base "is_among" 2 ["thing","least","most"] (BG K)) (c_mask_to:CallF P w K mg base "mask_to" 1 ["most"] G9):FnOk P w K mg base (CXE P w) 3 f fd ["ends","rows"] (En K c):=by
  refine Fun.okE F HM (λ vs H Q E h=> ?_) (λ cdv A outer s H vs Q E hr h=> ?_)
  · obtain ⟨e,r,b,rfl,_⟩:=h;rfl
  · obtain ⟨e,r,b,rfl,hf,k⟩:=h;have tye:Ty K H e:=by cases hf <;> first | assumption | exact ⟨_, .int _⟩
    refine ⟨_,(Ac (Bc (Da (Bb (Ae c_is_among hr (Aa (pv 0) (Aa Ag (Aa (Fw T.k_MOST_ENDS) Ab)))))) (Af (FU T.g_BadCloth T.xi_BadCloth (Aa AE Ab))) AK)
      (Ac (Bc (PW.pt (Fs (Da (Bb (Aj (FZ (K:=K)) rfl (T.own _ (by decide)) boot_isinstance (Aa (pv 1) (Aa (GS rfl (T.own _ (by decide)) AD) Ab))))) (FV (Da (Bb (Ae c_is_among hr (Aa (Aj (AZ (K:=K)) rfl (T.own _ (by decide)) boot_len (Aa (pv 1) Ab)) (Aa Ag (Aa (Fw T.k_MOST_PICKS) Ab))))))))) (Af (FU T.g_BadCloth T.xi_BadCloth (Aa AE Ab))) AK)
      (Af (Bc (Da (Bb (Aj (Mp (K:=K)) rfl (T.own _ (by decide)) DT (Aa (Av (A5 (K:=K) (pv 1)) (λ _ _ _ _=>Ax) (λ _ _ _ _=>(Ae c_is_among hr (Aa (pv 0) (Aa Ag (Aa (Ae c_mask_to (hr.mono (by decide)) (Aa (pv 1) Ab)) Ab)))))) Ab)))) (Af (FU T.g_BadCloth T.xi_BadCloth (Aa AE Ab))) AK)))),?_⟩
    walk_at "w";refine ⟨_,_,_,rfl,tye,?_⟩;walk_at "w";cases hf with
    | ends ty h=>
      rw [h];refine Lu ?_;exact ⟨by decide,(k H (Same.refl _)).2 rfl⟩
    | kind h1 h2 ty h=>
      rw [Fg h1 h2];refine HZ ?_;walk_at "w";refine Cj ty h ?_;walk_at "w";exact ⟨by decide,(k H (Same.refl _)).2 rfl⟩
    | @many n a xs h1 h2 ha h=>
      rw [Fg h1 h2];refine HZ ?_;walk_at "w";refine Cj (.lst ha) (kb (b:=true) (by decide +kernel)) ?_;walk_at "w";refine AC (SqL.of ha) ?_;walk_at "w";refine ⟨_,_,_,rfl,⟨_, .int _⟩,?_⟩;walk_at "w";have d2:Bq (.int (xs.length:Nat)) 1 60=false:=by
        show (decide ((1:Int)<=(xs.length:Nat))&&decide (((xs.length:Nat):Int)<=60))=false;rw [Bool.and_eq_false_iff,decide_eq_false_iff_not,decide_eq_false_iff_not];omega
      rw [d2];refine Lu ?_;exact ⟨by decide,(k H (Same.refl _)).2 rfl⟩
    | @rows n a xs h1 h2 ha l1 l2 ty=>
      rw [Fg h1 h2];refine HZ ?_;walk_at "w";refine Cj (.lst ha) (kb (b:=true) (by decide +kernel)) ?_;walk_at "w";refine AC (SqL.of ha) ?_;walk_at "w";refine ⟨_,_,_,rfl,⟨_, .int _⟩,?_⟩;walk_at "w";rw [Fg l1 l2];refine HZ ?_;walk_at "w";refine ⟨a,rfl,⟨_,SqL.of ha⟩,λ D hD=> ?_⟩;refine Ds (G:=λ i=>Bq (xs.getD i .non) 0 ((2 ^ n - 1:Nat):Int)) (AB (SqL.of ha) rfl) hD (by omega) ?_ ?_
      · intro i H' R hi s kk;walk_at "w";refine ⟨n,rfl,by omega,?_⟩;walk_at "w";refine ⟨_,_,_,rfl,(ty _ ?_).same s,?_⟩
        · rw [List.getD_eq_getElem?_getD,List.getElem?_eq_getElem hi];exact List.getElem_mem hi
        exact kk H' (Same.refl _)
      · intro H' s hl;walk_at "w";refine Jg (SqL.of hl) ?_;walk_at "w";have d4:((List.range xs.length).map λ i=>Bq (xs.getD i .non) 0 ((2 ^ n - 1:Nat):Int)).all id=xs.all λ x=>Bq x 0 ((2 ^ n - 1:Nat):Int):=by
          rw [Ar (λ x:V=>Bq x 0 ((2 ^ n - 1:Nat):Int)) xs .non,List.all_map];rfl
        rw [d4];refine N4 (λ hb=> ?_) (λ hb=> ?_)
        · have hb:(xs.all λ x=>Bq x 0 ((2 ^ n - 1:Nat):Int))=false:=by simpa using hb
          exact ⟨by decide,(k H' s).2 hb⟩
        · have hb:(xs.all λ x=>Bq x 0 ((2 ^ n - 1:Nat):Int))=true:=by simpa using hb
          walk_at "w";exact (k H' s).1 hb
def AH (K:PySem.W.Frag) (c:Cs):Sp:=λ vs H Q E=>∃ (x dx:Addr) (e r:V),vs=[.ref x,e,r]/\H x=some (.ins c.Cloth dx [])/\
  ((ClFit K H e r false/\∀ H',Same H H'->E (.ref c.BadCloth) none H')\/
  (∃ (n:Nat) (a:Addr) (rs:List Nat),e= .int n/\r= .ref a/\H a=some (.lst (rs.map nV))/\ClOk n rs/\∀ H',(∀ b o,H b=some o->b≠x->H' b=some o)->ClAt c.Cloth H' x n rs->Q .non H'))
abbrev Bz:Stmt:=AA (top 58) 0
theorem Fn:FnScope ["self","ends","rows"] ["self","ends","rows"] (Ah Bz):=⟨rfl,rfl,rfl,by decide +kernel,rfl,by decide +kernel,by decide +kernel⟩
theorem Fh {f:Addr} {fd:FuncData} (F:Fun K "__init__" "Cloth.__init__" Bz f fd) (T:Txt K mg c) (c_need_cloth:CallE P w K mg base "need_cloth" 3 ["ends","rows"] (En K c)):FnOk P w K mg base (CXE P w) 4 f fd ["self","ends","rows"] (AH K c):=by
  refine Fun.okE F Fn (λ vs H Q E h=> ?_) (λ cdv A outer s H vs Q E hr h=> ?_)
  · obtain ⟨x,dx,e,r,rfl,_⟩:=h;rfl
  · obtain ⟨x,dx,e,r,rfl,hx,h⟩:=h;refine ⟨_,(Ac (AL (Dp c_need_cloth hr My (Aa (pv 1) (Aa (pv 2) Ab))))
      (Ac (C6 (pv 0) (pv 1) rfl)
      (Af (C6 (pv 0) (Ap (Cf (K:=K)) rfl (T.own _ (by decide)) AY (Aa (pv 2) Ab)) rfl)))),?_⟩
    walk_at "w";rcases h with ⟨hf,k⟩ | ⟨n,a,rs,rfl,rfl,ha,ok,k⟩
    · exact ⟨_,_,false,rfl,hf,λ H1 s1=>⟨λ z=>absurd z (by decide),λ _=>k H1 s1⟩⟩
    refine ⟨_,_,true,rfl, .ok ha ok,λ H1 s1=>⟨λ _=> ?_,λ z=>absurd z (by decide)⟩⟩;walk_at "w";refine CY (s1 _ _ hx) T.kd_Cloth.cl T.na_Cloth_width (by decide) ?_;walk_at "w";have nax:a≠x:=Fv ha hx (by intro z;cases z);refine BH (SqL.of (by rw [Am nax];exact s1 _ _ ha)) λ t ht=> ?_;walk_at "w";have nxt:x≠t:=AF Ad ht;refine CY (by rw [Am nxt];exact Ad) T.kd_Cloth.cl T.na_Cloth_rows (by show 1<1000;decide) ?_;walk_at "w";refine k _ (λ b o e hb=> ?_) ⟨dx,t,Ad,by rw [Am (Ne.symm nxt),Ad]⟩;have hbt:b≠t:=λ z=>by
      subst z;rw [Am hb,s1 _ _ e] at ht;cases ht
    rw [Am hb,Am hbt,Am hb];exact s1 _ _ e
theorem RG {c:Cs} {H:Hp} {Q:VK} {E:XK} {n:Nat} {a:Addr} {rs:List Nat} (ha:H a=some (.lst (rs.map nV))) (ok:ClOk n rs) (h:∀ H' x,Same H H'->H x=none->ClAt c.Cloth H' x n rs->Q (.ref x) H'):
    ∀ x dx,H x=none->H dx=none->dx≠x->AH K c [.ref x, .int n, .ref a] (upd (upd H dx (.own x)) x (.ins c.Cloth dx [])) (λ v H2=>v= .non/\Q (.ref x) H2) E:=by
  intro x dx hx hdx ne;have s0:=Hy (o:=HO.ins c.Cloth dx []) (u:= .own x) hx hdx;exact ⟨x,dx,_,_,rfl,Ad, .inr ⟨n,a,rs,rfl,rfl,s0 _ _ ha,ok,λ H' kp at'=>⟨rfl,h H' x (λ b o e=>kp b o (s0 b o e) (AF e hx)) hx at'⟩⟩⟩
theorem SD {c:Cs} {H:Hp} {R:Addr->Hp->Prop} {E:XK} {n:Nat} {a:Addr} {rs:List Nat} (ha:H a=some (.lst (rs.map nV))) (ok:ClOk n rs) (h:∀ H' x,Same H H'->H x=none->ClAt c.Cloth H' x n rs->R x H'):
    ∀ x dx,H x=none->H dx=none->dx≠x->AH K c [.ref x, .int n, .ref a] (upd (upd H dx (.own x)) x (.ins c.Cloth dx [])) (λ v H2=>v= .non/\R x H2) E:=by
  intro x dx hx hdx ne;have s0:=Hy (o:=HO.ins c.Cloth dx []) (u:= .own x) hx hdx;exact ⟨x,dx,_,_,rfl,Ad, .inr ⟨n,a,rs,rfl,rfl,s0 _ _ ha,ok,λ H' kp at'=>⟨rfl,h H' x (λ b o e=>kp b o (s0 b o e) (AF e hx)) hx at'⟩⟩⟩
def Cu (c:Cs):Sp:=λ vs H Q _=>∃ x n rs,vs=[.ref x]/\ClAt c.Cloth H x n rs/\∀ H' p l,Same H H'->H p=none->H l=none->H' p=some (.tup [nV n, .ref l])->H' l=some (.lst (rs.map nV))->Q (.ref p) H'
abbrev Dc:Stmt:=AA (top 58) 1
theorem HU:FnScope ["self"] ["self"] (Ah Dc):=⟨rfl,rfl,rfl,by decide +kernel,rfl,by decide +kernel,by decide +kernel⟩
theorem Iq {f:Addr} {fd:FuncData} (F:Fun K "told" "Cloth.told" Dc f fd) (T:Txt K mg c):FnOk P w K mg base CX0 1 f fd ["self"] (Cu c):=by
  refine F.ok HU (λ vs H Q E h=> ?_) (λ cdv A outer s H vs Q E hr h=> ?_)
  · obtain ⟨x,n,rs,rfl,_⟩:=h;rfl
  · obtain ⟨x,n,rs,rfl,⟨dx,t,h1,h2⟩,k⟩:=h;refine ⟨_,(Af (Al (AX (Aa (Bl (K:=K) (pv 0) rfl) (Aa (Ap (Ck (K:=K)) rfl (T.own _ (by decide)) AD (Aa (Bl (K:=K) (pv 0) rfl) Ab)) Ab))))),?_⟩;walk_at "w";refine ⟨_,_,_,_,_,rfl,h1,T.kd_Cloth.cl,T.na_Cloth_width,rfl,?_⟩;walk_at "w";refine ⟨_,_,_,_,_,rfl,h1,T.kd_Cloth.cl,T.na_Cloth_rows,rfl,?_⟩;walk_at "w";refine Be (SqT.of h2) λ l hl=> ?_;walk_at "w";intro p hp;refine k _ p l ((Ak hl).trans (Ak hp)) ((Ak hl).free hp) hl Ad ?_;rw [Am (AF Ad hp),Ad]
def Cz (c:Cs):Sp:=λ vs H Q _=>∃ x n rs,vs=[.ref x]/\ClAt c.Cloth H x n rs/\Q (nV n) H
abbrev C0:Stmt:=AA (top 58) 2
theorem HY:FnScope ["self"] ["self"] (Ah C0):=⟨rfl,rfl,rfl,by decide +kernel,rfl,by decide +kernel,by decide +kernel⟩
theorem HQ {f:Addr} {fd:FuncData} (F:Fun K "ends" "Cloth.ends" C0 f fd) (T:Txt K mg c):FnOk P w K mg base CX0 1 f fd ["self"] (Cz c):=by
  refine F.ok HY (λ vs H Q E h=> ?_) (λ cdv A outer s H vs Q E hr h=> ?_)
  · obtain ⟨x,n,rs,rfl,_⟩:=h;rfl
  · obtain ⟨x,n,rs,rfl,⟨dx,t,h1,h2⟩,k⟩:=h;refine ⟨_,(Af (Al (Bl (K:=K) (pv 0) rfl))),?_⟩;walk_at "w";exact ⟨_,_,_,_,_,rfl,h1,T.kd_Cloth.cl,T.na_Cloth_width,rfl,k⟩
def B4 (c:Cs):Sp:=λ vs H Q _=>∃ x n rs,vs=[.ref x]/\ClAt c.Cloth H x n rs/\Q (nV rs.length) H
abbrev Cw:Stmt:=AA (top 58) 3
theorem Hm:FnScope ["self"] ["self"] (Ah Cw):=⟨rfl,rfl,rfl,by decide +kernel,rfl,by decide +kernel,by decide +kernel⟩
theorem GN {f:Addr} {fd:FuncData} (F:Fun K "picks" "Cloth.picks" Cw f fd) (T:Txt K mg c):FnOk P w K mg base CX0 1 f fd ["self"] (B4 c):=by
  refine F.ok Hm (λ vs H Q E h=> ?_) (λ cdv A outer s H vs Q E hr h=> ?_)
  · obtain ⟨x,n,rs,rfl,_⟩:=h;rfl
  · obtain ⟨x,n,rs,rfl,⟨dx,t,h1,h2⟩,k⟩:=h;refine ⟨_,(Af (Al (Aj (AZ (K:=K)) rfl (T.own _ (by decide)) boot_len (Aa (Bl (K:=K) (pv 0) rfl) Ab)))),?_⟩;walk_at "w";refine ⟨_,_,_,_,_,rfl,h1,T.kd_Cloth.cl,T.na_Cloth_rows,rfl,?_⟩;walk_at "w";refine Mo (SqT.of h2) ?_;rw [List.length_map];exact k
theorem Qu (f:Nat->Bool) (w:Nat):MM.mOf (((List.range w).filter f).map (· + 1))=MM.ofB f w:=by
  refine Nat.eq_of_testBit_eq λ i=> ?_;rw [MM.mOf_bit,MM.ofB_bit,Bool.eq_iff_iff,List.any_eq_true];constructor
  · rintro ⟨n,hn,e⟩;obtain ⟨k,hk,rfl⟩:=List.mem_map.mp hn;obtain ⟨h1,h2⟩:=List.mem_filter.mp hk;have e:k+1 - 1=i:=of_decide_eq_true e;have e:k=i:=by omega
    subst e;simp [List.mem_range.mp h1,h2]
  · intro h;simp only [Bool.and_eq_true,decide_eq_true_eq] at h;exact ⟨i+1,List.mem_map.mpr ⟨i,List.mem_filter.mpr ⟨List.mem_range.mpr h.1,h.2⟩,rfl⟩,by simp⟩
def IT (rs:List Nat) (e:Nat):Nat:=MM.ofB (λ p=>(rs.getD p 0).testBit (e - 1)) rs.length
def BW (c:Cs):Sp:=λ vs H Q _=>∃ x n rs,∃ e:Nat,vs=[.ref x,nV e]/\ClAt c.Cloth H x n rs/\rs.length<=60/\1<=e/\e<=60/\∀ H',Same H H'->Q (nV (IT rs e)) H'
abbrev Bo:Stmt:=AA (top 58) 5
theorem EE:FnScope ["self","end"] ["self","end"] (Ah Bo):=⟨rfl,rfl,rfl,by decide +kernel,rfl,by decide +kernel,by decide +kernel⟩
theorem EH {f:Addr} {fd:FuncData} (F:Fun K "column_at" "Cloth.column_at" Bo f fd) (T:Txt K mg c) (c_mask_of:CallF P w K mg base "mask_of" 2 ["numbers"] (BY K)) (c_has_number:CallF P w K mg base "has_number" 2 ["mask","number"] BE):FnOk P w K mg base CX0 3 f fd ["self","end"] (BW c):=by
  refine F.ok EE (λ vs H Q E h=> ?_) (λ cdv A outer s H vs Q E hr h=> ?_)
  · obtain ⟨x,n,rs,e,rfl,_⟩:=h;rfl
  · obtain ⟨x,n,rs,e,rfl,⟨dx,t,h1,h2⟩,hl,e1,e2,k⟩:=h;refine ⟨_,(Af (Al (Ae c_mask_of hr (Aa (CJ (K:=K) (Fk (K:=K) rfl (T.own _ (by decide)) (Aa (Bl (K:=K) (pv 0) rfl) Ab)) (λ _ _ _ _=>(BC (Bb (Ae c_has_number hr (Aa (pv 1) (Aa (pv 2) Ab)))))) (λ _ _ _ _=>(pv 0))) Ab)))),?_⟩;walk_at "w";refine ⟨_,_,_,_,_,rfl,h1,T.kd_Cloth.cl,T.na_Cloth_rows,rfl,?_⟩;walk_at "w";refine ⟨true,t,rfl,⟨_,SqT.of h2⟩,λ D hD=> ?_⟩;refine A1 (p:=λ i=>(rs.getD i 0).testBit (e - 1)) (G:=λ i=>((i+1:Nat):Int)) (Eb (tp:=true) (SqT.of h2) rfl rfl) hD (by rw [List.length_map];omega) ?_ ?_ ?_
    · intro i H' R hi s kk;rw [Aq hi];walk_at "w";refine ⟨rs.getD i 0,e,rfl,e1,by omega,?_⟩;exact ⟨_,rfl,kk H' (Same.refl _)⟩
    · intro i H' R hi hp s kk;walk_at "w";exact kk H' (Same.refl _)
    · intro H' s hl2;walk_at "w";have e:((((List.range (rs.map nV).length).filter λ i=>(rs.getD i 0).testBit (e - 1)).map λ i=>((i+1:Nat):Int)).map V.int)=(((List.range rs.length).filter λ i=>(rs.getD i 0).testBit (e - 1)).map (· + 1)).map nV:=by
        rw [List.length_map,List.map_map,List.map_map];rfl
      rw [e] at hl2;refine ⟨false,D,_,rfl,SqL.of hl2,λ n hn=> ?_,λ H2 s2=> ?_⟩
      · obtain ⟨j,hj,rfl⟩:=List.mem_map.mp hn;have:=List.mem_range.mp (List.mem_filter.mp hj).1;omega
      · rw [Qu];exact k H2 (s.trans s2)
abbrev colS:Str:="abcdefghijklmnopqrstuvwxyz"
def F6 (z:Str):Prop:=z.length=1/\(!(Builtin.Str.occurrences colS z 0 colS.length 1).isEmpty)=true
def EY:Sp:=λ vs H Q _=>∃ z,vs=[.str z]/\F6 z/\Q (.bl true) H
abbrev DI:Stmt:=top 26
theorem JJ:FnScope ["thing"] ["thing"] (Ah DI):=⟨rfl,rfl,rfl,by decide +kernel,rfl,by decide +kernel,by decide +kernel⟩
theorem Ju {f:Addr} {fd:FuncData} (F:Fun K "is_colour" "is_colour" DI f fd) (T:Txt K mg c):FnOk P w K mg base CX0 1 f fd ["thing"] EY:=by
  refine F.ok JJ (λ vs H Q E h=> ?_) (λ cdv A outer s H vs Q E hr h=> ?_)
  · obtain ⟨z,rfl,_⟩:=h;rfl
  · obtain ⟨z,rfl,hz,k⟩:=h;refine ⟨_,(Af (Al (EN (Aj (FZ (K:=K)) rfl (T.own _ (by decide)) boot_isinstance (Aa (pv 0) (Aa (GS rfl (T.own _ (by decide)) boot_str) Ab))) (EN (BB E7 (Aj (AZ (K:=K)) rfl (T.own _ (by decide)) boot_len (Aa (pv 0) Ab)) Ag (Aw _)) (FQ (BB M8 (pv 0) (Pg T.k_COLOURS) (by with_unfolding_all rfl))))))),?_⟩;walk_at "w";refine Cj (.str z) (kb (b:=true) (by decide +kernel)) ?_;walk_at "w";refine QP (by rw [hz.1];decide) ?_;walk_at "w";refine Gg (λ _=> ?_) (λ q=>absurd (by rw [hz.1];rfl) q);walk_at "w";refine ⟨_,_,rfl,rfl,?_⟩;rw [hz.2];exact k
def Mz:Sp:=λ vs H Q _=>∃ z,vs=[.bl true, .str z]/\Q .non H
abbrev LJ:Stmt:=top 28
theorem QC:FnScope ["holds","words"] ["holds","words"] (Ah LJ):=⟨rfl,rfl,rfl,by decide +kernel,rfl,by decide +kernel,by decide +kernel⟩
theorem Q6 {f:Addr} {fd:FuncData} (F:Fun K "need" "need" LJ f fd) (T:Txt K mg c):FnOk P w K mg base CX0 1 f fd ["holds","words"] Mz:=by
  refine F.ok QC (λ vs H Q E h=> ?_) (λ cdv A outer s H vs Q E hr h=> ?_)
  · obtain ⟨z,rfl,_⟩:=h;rfl
  · obtain ⟨z,rfl,k⟩:=h;refine ⟨_,(Af (Bc (Da (Bb (pv 0))) (Af PU) AK)),?_⟩;walk_at "w";exact k
def Ez:Sp:=λ vs H Q _=>∃ a xs,∃ lo hi:Int,vs=[.ref a, .int lo, .int hi]/\H a=some (.lst xs)/\lo<=xs.length/\xs.length<=hi/\Q (.bl true) H
abbrev FK:Stmt:=top 29
theorem LC:FnScope ["thing","least","most"] ["thing","least","most"] (Ah FK):=⟨rfl,rfl,rfl,by decide +kernel,rfl,by decide +kernel,by decide +kernel⟩
theorem Ln {f:Addr} {fd:FuncData} (F:Fun K "is_list" "is_list" FK f fd) (T:Txt K mg c) (c_is_among:CallF P w K mg base "is_among" 2 ["thing","least","most"] (BG K)):FnOk P w K mg base CX0 3 f fd ["thing","least","most"] Ez:=by
  refine F.ok LC (λ vs H Q E h=> ?_) (λ cdv A outer s H vs Q E hr h=> ?_)
  · obtain ⟨a,xs,lo,hi,rfl,_⟩:=h;rfl
  · obtain ⟨a,xs,lo,hi,rfl,ha,h1,h2,k⟩:=h;refine ⟨_,(Af (Al (EN (Aj (FZ (K:=K)) rfl (T.own _ (by decide)) boot_isinstance (Aa (pv 0) (Aa (GS rfl (T.own _ (by decide)) AD) Ab))) (FQ (Ae c_is_among hr (Aa (Aj (AZ (K:=K)) rfl (T.own _ (by decide)) boot_len (Aa (pv 0) Ab)) (Aa (pv 1) (Aa (pv 2) Ab)))))))),?_⟩;walk_at "w";refine Cj (.lst ha) (kb (b:=true) (by decide +kernel)) ?_;walk_at "w";refine AC (SqL.of ha) ?_;walk_at "w";refine ⟨_,_,_,rfl,⟨_, .int _⟩,?_⟩;refine F7 ?_ k;show (decide (lo<=(xs.length:Nat))&&decide (((xs.length:Nat):Int)<=hi))=true;simp [h1,h2]
def Rise (m:Nat) (ns:List Nat):Prop:=∀ i,i<ns.length->(0::ns).getD i 0+1<=ns.getD i 0/\ns.getD i 0<=m
def Ff:Sp:=λ vs H Q _=>∃ a ns m,vs=[.ref a,nV m]/\H a=some (.lst (ns.map nV))/\Rise m ns/\∀ H',Same H H'->Q (.bl true) H'
abbrev DB:Stmt:=top 30
theorem sc_is_rising:FnScope ["thing","most","last","number"] ["thing","most"] (Ah DB):=⟨rfl,rfl,rfl,by decide +kernel,rfl,by decide +kernel,by decide +kernel⟩
theorem Jk {f:Addr} {fd:FuncData} (F:Fun K "is_rising" "is_rising" DB f fd) (T:Txt K mg c) (c_is_among:CallF P w K mg base "is_among" 2 ["thing","least","most"] (BG K)):FnOk P w K mg base CX0 3 f fd ["thing","most"] Ff:=by
  refine F.ok sc_is_rising (λ vs H Q E h=> ?_) (λ cdv A outer s H vs Q E hr h=> ?_)
  · obtain ⟨a,ns,m,rfl,_⟩:=h;rfl
  · obtain ⟨a,ns,m,rfl,ha,hr',k⟩:=h;refine ⟨_,(Ac (Bc (Da (Bb (Aj (FZ (K:=K)) rfl (T.own _ (by decide)) boot_isinstance (Aa (pv 0) (Aa (GS rfl (T.own _ (by decide)) AD) Ab))))) (Af (Al E4)) AK)
      (Ac (An (i:=2) sc_is_rising.nd rfl (Or.inl rfl) Ag)
      (Ac (Cp PassesOwn.never rfl (A5 (K:=K) (pv 0)) (Bd (i:=3) sc_is_rising.nd rfl (Or.inl rfl)) (Ac (Bc (Da (Bb (Ae c_is_among hr (Aa (pv 3) (Aa (Ao Ba (pv 2) Ag) (Aa (pv 1) Ab)))))) (Af (Al E4)) AK)
      (Af (An (i:=2) sc_is_rising.nd rfl (Or.inl rfl) (pv 3)))))
      (Af (Al E4))))),?_⟩
    walk_at "w";refine Cj (.lst ha) (kb (b:=true) (by decide +kernel)) ?_;walk_at "w";refine ⟨a,rfl,⟨_,SqL.of ha⟩,DS (L9 (SqL.of ha)) (λ i σ H3=>∃ x,σ=[some (.ref a),some (nV m),some (nV ((0::ns).getD i 0)),x]/\Same H H3) ⟨_,rfl,Same.refl _⟩ (λ i σ H3 ⟨_,_,s⟩=>s) ?_ ?_⟩
    · rintro i σ H' H3 hi ⟨x,rfl,s'⟩ s3;have hi':i<ns.length:=by simpa using hi
      have hq:=hr' i hi';rw [Aq hi];walk_at "w";refine ⟨_,_,_,rfl,⟨_, .int _⟩,?_⟩;walk_at "w";have e:Bq (.int (ns.getD i 0:Nat)) (((0::ns).getD i 0:Nat)+1) (m:Nat)=true:=by
        show (decide ((((0::ns).getD i 0:Nat):Int)+1<=(ns.getD i 0:Nat))&&decide (((ns.getD i 0:Nat):Int)<=(m:Nat)))=true;simp only [Bool.and_eq_true,decide_eq_true_eq];omega
      rw [e];refine HZ ?_;walk_at "w";exact ⟨_,rfl,s'.trans s3⟩
    · rintro σ H3 ⟨x,rfl,s3⟩;walk_at "w";exact k H3 s3
def Ei:Sp:=λ vs H Q _=>∃ v ls m,vs=[v,nV m]/\Rp H FT 2 v (dLL ls)/\(∀ l∈ls,Rise m l)/\∀ H',Same H H'->Q (.bl true) H'
abbrev CZ:Stmt:=top 31
theorem Ii:FnScope ["thing","most"] ["thing","most"] (Ah CZ):=⟨rfl,rfl,rfl,by decide +kernel,rfl,by decide +kernel,by decide +kernel⟩
theorem HG {f:Addr} {fd:FuncData} (F:Fun K "are_rising" "are_rising" CZ f fd) (T:Txt K mg c) (c_is_rising:CallF P w K mg base "is_rising" 3 ["thing","most"] Ff):FnOk P w K mg base CX0 4 f fd ["thing","most"] Ei:=by
  refine F.ok Ii (λ vs H Q E h=> ?_) (λ cdv A outer s H vs Q E hr h=> ?_)
  · obtain ⟨v,ls,m,rfl,_⟩:=h;rfl
  · obtain ⟨v,ls,m,rfl,rv,hr',k⟩:=h;obtain ⟨m',a,vs,em,rfl,ha,_,hl,hb,el⟩:=FA rv;cases em;rw [List.length_map] at hl;refine ⟨_,(Af (Al (Aj (Mp (K:=K)) rfl (T.own _ (by decide)) DT (Aa (Av (A5 (K:=K) (pv 0)) (λ _ _ _ _=>Ax) (λ _ _ _ _=>(Ae c_is_rising hr (Aa (pv 0) (Aa (pv 1) Ab))))) Ab)))),?_⟩;walk_at "w";refine ⟨a,rfl,⟨_,SqL.of ha⟩,λ D hD=> ?_⟩;refine Ds (G:=λ _=>true) (AB (SqL.of ha) rfl) hD hb ?_ ?_
    · intro i H' R hi s kk;have hi':i<ls.length:=by omega
      have r:=el i (by simpa using hi');rw [AQ dL ls i .non [] hi'] at r;obtain ⟨b,eb,hb2,_,_⟩:=K0 r;rw [eb];walk_at "w";exact ⟨b,_,m,rfl,s _ _ hb2,hr' _ (Au hi'),kk⟩
    · intro H' s hl2;walk_at "w";refine Jg (SqL.of hl2) ?_;refine F7 ?_ (k H' s);simp
def DG:Sp:=λ vs H Q _=>∃ (a:Addr) (zs:List Str),vs=[.ref a,nV zs.length]/\H a=some (.lst (zs.map V.str))/\zs.length<=1000/\(∀ z∈zs,F6 z)/\∀ H',Same H H'->Q (.bl true) H'
abbrev Cy:Stmt:=top 32
theorem G5:FnScope ["thing","many"] ["thing","many"] (Ah Cy):=⟨rfl,rfl,rfl,by decide +kernel,rfl,by decide +kernel,by decide +kernel⟩
theorem GY {f:Addr} {fd:FuncData} (F:Fun K "are_colours" "are_colours" Cy f fd) (T:Txt K mg c) (c_is_list:CallF P w K mg base "is_list" 3 ["thing","least","most"] Ez) (c_is_colour:CallF P w K mg base "is_colour" 1 ["thing"] EY):FnOk P w K mg base CX0 4 f fd ["thing","many"] DG:=by
  refine F.ok G5 (λ vs H Q E h=> ?_) (λ cdv A outer s H vs Q E hr h=> ?_)
  · obtain ⟨a,zs,rfl,_⟩:=h;rfl
  · obtain ⟨a,zs,rfl,ha,hz,hc,k⟩:=h;refine ⟨_,(Af (Al (EN (Ae c_is_list hr (Aa (pv 0) (Aa (pv 1) (Aa (pv 1) Ab)))) (FQ (Aj (Mp (K:=K)) rfl (T.own _ (by decide)) DT (Aa (Av (A5 (K:=K) (pv 0)) (λ _ _ _ _=>Ax) (λ _ _ _ _=>(Ae c_is_colour (hr.mono (by decide)) (Aa (pv 0) Ab)))) Ab)))))),?_⟩;walk_at "w";refine ⟨a,_,_,_,rfl,ha,by simp,by simp,?_⟩;walk_at "w";refine ⟨a,rfl,⟨_,SqL.of ha⟩,λ D hD=> ?_⟩;refine Ds (G:=λ _=>true) (AB (SqL.of ha) rfl) hD (by rw [List.length_map];omega) ?_ ?_
    · intro i H' R hi s kk;have hi':i<zs.length:=by simpa using hi
      rw [E8 hi];walk_at "w";exact ⟨_,rfl,hc _ (Au hi'),kk H' (Same.refl _)⟩
    · intro H' s hl2;walk_at "w";refine Jg (SqL.of hl2) ?_;refine F7 ?_ (k H' s);simp
structure Dr where
  sh:Nat
  tr:Nat
  th:List Nat
  ti:List (List Nat)
  td:List (List Nat)
  wa:List Str
  we:List Str
structure DrOk (d:Dr):Prop where
  s1:1<=d.sh
  s2:d.sh<=16
  t1:1<=d.tr
  t2:d.tr<=16
  h1:1<=d.th.length
  h2:d.th.length<=60
  hs:∀ n∈d.th,n<=d.sh
  il:d.ti.length=d.tr
  ir:∀ l∈d.ti,Rise d.sh l
  p1:1<=d.td.length
  p2:d.td.length<=60
  pr:∀ l∈d.td,Rise d.tr l
  wl:d.wa.length=d.th.length
  wc:∀ z∈d.wa,F6 z
  fl:d.we.length=d.td.length
  fc:∀ z∈d.we,F6 z
structure Parts (H:Hp) (d:Dr) (vs:List V):Prop where
  ex:∃ a1 v2 v3 a4 a5,vs=[nV d.sh,nV d.tr, .ref a1,v2,v3, .ref a4, .ref a5]/\H a1=some (.lst (d.th.map nV))/\Rp H FT 2 v2 (dLL d.ti)/\Rp H FT 2 v3 (dLL d.td)/\H a4=some (.lst (d.wa.map V.str))/\H a5=some (.lst (d.we.map V.str))
theorem Parts.same {H H':Hp} {d:Dr} {vs:List V} (p:Parts H d vs) (s:Same H H'):Parts H' d vs:=by
  obtain ⟨a1,v2,v3,a4,a5,e,h1,h2,h3,h4,h5⟩:=p.ex;exact ⟨a1,v2,v3,a4,a5,e,s _ _ h1,h2.same s,h3.same s,s _ _ h4,s _ _ h5⟩
theorem am {n:Nat} {lo hi:Int} (h1:lo<=n) (h2:(n:Int)<=hi):Bq (nV n) lo hi=true:=by
  show (decide (lo<=(n:Nat))&&decide (((n:Nat):Int)<=hi))=true;simp [h1,h2]
def Er:Sp:=λ vs H Q _=>∃ d,Parts H d vs/\DrOk d/\∀ H',Same H H'->Q .non H'
abbrev CM:Stmt:=top 33
theorem Ia:FnScope ["shafts","treadles","threading","ties","treading","warp","weft"] ["shafts","treadles","threading","ties","treading","warp","weft"] (Ah CM):=⟨rfl,rfl,rfl,by decide +kernel,rfl,by decide +kernel,by decide +kernel⟩
theorem Il {f:Addr} {fd:FuncData} (F:Fun K "need_draft" "need_draft" CM f fd) (T:Txt K mg c) (c_need:CallF P w K mg base "need" 1 ["holds","words"] Mz) (c_is_among:CallF P w K mg base "is_among" 2 ["thing","least","most"] (BG K)) (c_is_list:CallF P w K mg base "is_list" 3 ["thing","least","most"] Ez) (c_are_rising:CallF P w K mg base "are_rising" 4 ["thing","most"] Ei) (c_are_colours:CallF P w K mg base "are_colours" 4 ["thing","many"] DG):FnOk P w K mg base CX0 5 f fd ["shafts","treadles","threading","ties","treading","warp","weft"] Er:=by
  refine F.ok Ia (λ vs H Q E h=> ?_) (λ cdv A outer s H vs Q E hr h=> ?_)
  · obtain ⟨d,⟨a1,v2,v3,a4,a5,rfl,_⟩,_⟩:=h;rfl
  · obtain ⟨d,⟨a1,v2,v3,a4,a5,rfl,h1,h2,h3,h4,h5⟩,ok,k⟩:=h;obtain ⟨m2,a2,vs2,em2,rfl,ha2,_,hl2,hb2,el2⟩:=FA h2;obtain ⟨m3,a3,vs3,em3,rfl,ha3,_,hl3,hb3,el3⟩:=FA h3;rw [List.length_map] at hl2 hl3;refine ⟨_,(Ac (AL (Ae c_need (hr.mono (by decide)) (Aa (Ae c_is_among (hr.mono (by decide)) (Aa (pv 0) (Aa Ag (Aa (Fw T.k_MOST_SHAFTS) Ab)))) (Aa AE Ab))))
      (Ac (AL (Ae c_need (hr.mono (by decide)) (Aa (Ae c_is_among (hr.mono (by decide)) (Aa (pv 1) (Aa Ag (Aa (Fw T.k_MOST_TREADLES) Ab)))) (Aa AE Ab))))
      (Ac (AL (Ae c_need (hr.mono (by decide)) (Aa (Ae c_is_list (hr.mono (by decide)) (Aa (pv 2) (Aa Ag (Aa (Fw T.k_MOST_ENDS) Ab)))) (Aa AE Ab))))
      (Ac (AL (Ae c_need (hr.mono (by decide)) (Aa (Aj (Mp (K:=K)) rfl (T.own _ (by decide)) DT (Aa (Av (A5 (K:=K) (pv 2)) (λ _ _ _ _=>Ax) (λ _ _ _ _=>(Ae c_is_among (hr.mono (by decide)) (Aa (pv 0) (Aa Ag (Aa (pv 1) Ab)))))) Ab)) (Aa AE Ab))))
      (Ac (AL (Ae c_need (hr.mono (by decide)) (Aa (Ae c_is_list (hr.mono (by decide)) (Aa (pv 3) (Aa (pv 1) (Aa (pv 1) Ab)))) (Aa AE Ab))))
      (Ac (AL (Ae c_need (hr.mono (by decide)) (Aa (Ae c_are_rising hr (Aa (pv 3) (Aa (pv 0) Ab))) (Aa AE Ab))))
      (Ac (AL (Ae c_need (hr.mono (by decide)) (Aa (Ae c_is_list (hr.mono (by decide)) (Aa (pv 4) (Aa Ag (Aa (Fw T.k_MOST_PICKS) Ab)))) (Aa AE Ab))))
      (Ac (AL (Ae c_need (hr.mono (by decide)) (Aa (Ae c_are_rising hr (Aa (pv 4) (Aa (pv 1) Ab))) (Aa AE Ab))))
      (Ac (AL (Ae c_need (hr.mono (by decide)) (Aa (Ae c_are_colours hr (Aa (pv 5) (Aa (Aj (AZ (K:=K)) rfl (T.own _ (by decide)) boot_len (Aa (pv 2) Ab)) Ab))) (Aa AE Ab))))
      (Af (AL (Ae c_need (hr.mono (by decide)) (Aa (Ae c_are_colours hr (Aa (pv 6) (Aa (Aj (AZ (K:=K)) rfl (T.own _ (by decide)) boot_len (Aa (pv 4) Ab)) Ab))) (Aa AE Ab)))))))))))))),?_⟩
    walk_at "w";refine ⟨_,_,_,rfl,⟨_, .int _⟩,?_⟩;walk_at "w";rw [am (by have:=ok.s1;omega) (by have:=ok.s2;omega)];refine ⟨_,rfl,?_⟩;walk_at "w";refine ⟨_,_,_,rfl,⟨_, .int _⟩,?_⟩;walk_at "w";rw [am (by have:=ok.t1;omega) (by have:=ok.t2;omega)];refine ⟨_,rfl,?_⟩;walk_at "w";refine ⟨a1,_,_,_,rfl,h1,by have:=ok.h1;simp;omega,by have:=ok.h2;simp;omega,?_⟩;walk_at "w";refine ⟨_,rfl,?_⟩;walk_at "w";refine ⟨a1,rfl,⟨_,SqL.of h1⟩,λ D hD=> ?_⟩;refine Ds (G:=λ _=>true) (AB (SqL.of h1) rfl) hD (by have:=ok.h2;rw [List.length_map];omega) ?_ ?_
    · intro i H' R hi s kk;have hi':i<d.th.length:=by simpa using hi
      rw [Aq hi];walk_at "w";refine ⟨_,_,_,rfl,⟨_, .int _⟩,?_⟩;have:=ok.hs _ (Au (y:=0) hi');rw [am (by omega) (by omega)];exact kk H' (Same.refl _)
    intro H1 s1 hl1;walk_at "w";refine Jg (SqL.of hl1) ?_;rw [show ((List.range (d.th.map nV).length).map λ _=>true).all id=true by simp];walk_at "w";refine ⟨_,rfl,?_⟩;walk_at "w";refine ⟨a2,_,_,_,rfl,s1 _ _ ha2,by have:=ok.il;omega,by have:=ok.il;omega,?_⟩;walk_at "w";refine ⟨_,rfl,?_⟩;walk_at "w";refine ⟨_,d.ti,d.sh,rfl,h2.same s1,ok.ir,λ H2 s2=> ?_⟩;walk_at "w";refine ⟨_,rfl,?_⟩;walk_at "w";have s12:=s1.trans s2;refine ⟨a3,_,_,_,rfl,s12 _ _ ha3,by have:=ok.p1;omega,by have:=ok.p2;omega,?_⟩;walk_at "w";refine ⟨_,rfl,?_⟩;walk_at "w";refine ⟨_,d.td,d.tr,rfl,h3.same s12,ok.pr,λ H3 s3=> ?_⟩;have s13:=s12.trans s3;walk_at "w";refine ⟨_,rfl,?_⟩;walk_at "w";refine AC (SqL.of (s13 _ _ h1)) ?_;walk_at "w";refine ⟨a4,d.wa,by rw [List.length_map,ok.wl],s13 _ _ h4,by have:=ok.wl;have:=ok.h2;omega,ok.wc,λ H4 s4=> ?_⟩;have s14:=s13.trans s4;walk_at "w";refine ⟨_,rfl,?_⟩;walk_at "w";refine AC (SqL.of (s14 _ _ ha3)) ?_;walk_at "w";refine ⟨a5,d.we,by rw [hl3,ok.fl],s14 _ _ h5,by have:=ok.fl;have:=ok.p2;omega,ok.fc,λ H5 s5=> ?_⟩;walk_at "w";refine ⟨_,rfl,?_⟩;walk_at "w";exact k _ (s14.trans s5)
def DrAt (C:Addr) (H:Hp) (x:Addr) (d:Dr):Prop:=∃ dx v1 v2 v3 v4 v5,H x=some (.ins C dx [("shafts",nV d.sh),("treadles",nV d.tr),("threading",v1),("ties",v2),("treading",v3),("warp",v4),("weft",v5)])/\
  Rp H FT 1 v1 (dT d.th)/\Rp H FT 2 v2 (dTT d.ti)/\Rp H FT 2 v3 (dTT d.td)/\Rp H FT 1 v4 (dST d.wa)/\Rp H FT 1 v5 (dST d.we)
theorem DrAt.same {C:Addr} {H H':Hp} {x:Addr} {d:Dr} (h:DrAt C H x d) (s:Same H H'):DrAt C H' x d:=by
  obtain ⟨dx,v1,v2,v3,v4,v5,h0,h1,h2,h3,h4,h5⟩:=h;exact ⟨dx,v1,v2,v3,v4,v5,s _ _ h0,h1.same s,h2.same s,h3.same s,h4.same s,h5.same s⟩
def Bs (c:Cs):Sp:=λ vs H Q _=>∃ (x dx:Addr) (ws:List V) (d:Dr),vs= .ref x::ws/\H x=some (.ins c.Draft dx [])/\Parts H d ws/\DrOk d/\∀ H',But x H H'->DrAt c.Draft H' x d->Q .non H'
abbrev BA:Stmt:=AA (top 34) 0
theorem Fi:FnScope ["self","shafts","treadles","threading","ties","treading","warp","weft"] ["self","shafts","treadles","threading","ties","treading","warp","weft"] (Ah BA):=⟨rfl,rfl,rfl,by decide +kernel,rfl,by decide +kernel,by decide +kernel⟩
theorem Fp {f:Addr} {fd:FuncData} (F:Fun K "__init__" "Draft.__init__" BA f fd) (T:Txt K mg c) (c_need_draft:CallF P w K mg base "need_draft" 5 ["shafts","treadles","threading","ties","treading","warp","weft"] Er):FnOk P w K mg base CX0 6 f fd ["self","shafts","treadles","threading","ties","treading","warp","weft"] (Bs c):=by
  refine F.ok Fi (λ vs H Q E h=> ?_) (λ cdv A outer s H vs Q E hr h=> ?_)
  · obtain ⟨x,dx,ws,d,rfl,_,⟨a1,v2,v3,a4,a5,rfl,_⟩,_⟩:=h;rfl
  · obtain ⟨x,dx,ws,d,rfl,hx,ps,ok,k⟩:=h;have ps0:=ps;obtain ⟨a1,v2,v3,a4,a5,rfl,h1,h2,h3,h4,h5⟩:=ps;refine ⟨_,(Ac (AL (Ae c_need_draft hr (Aa (pv 1) (Aa (pv 2) (Aa (pv 3) (Aa (pv 4) (Aa (pv 5) (Aa (pv 6) (Aa (pv 7) Ab)))))))))
      (Ac (C6 (pv 0) (pv 1) rfl)
      (Ac (C6 (pv 0) (pv 2) rfl)
      (Ac (C6 (pv 0) (Ap (Cf (K:=K)) rfl (T.own _ (by decide)) AY (Aa (pv 3) Ab)) rfl)
      (Ac (C6 (pv 0) (Ap (Cf (K:=K)) rfl (T.own _ (by decide)) AY (Aa (Av (A5 (K:=K) (pv 4)) (λ _ _ _ _=>Ax) (λ _ _ _ _=>(Ap (Cf (K:=K)) rfl (T.own _ (by decide)) AY (Aa (pv 0) Ab)))) Ab)) rfl)
      (Ac (C6 (pv 0) (Ap (Cf (K:=K)) rfl (T.own _ (by decide)) AY (Aa (Av (A5 (K:=K) (pv 5)) (λ _ _ _ _=>Ax) (λ _ _ _ _=>(Ap (Cf (K:=K)) rfl (T.own _ (by decide)) AY (Aa (pv 0) Ab)))) Ab)) rfl)
      (Ac (C6 (pv 0) (Ap (Cf (K:=K)) rfl (T.own _ (by decide)) AY (Aa (pv 6) Ab)) rfl)
      (Af (C6 (pv 0) (Ap (Cf (K:=K)) rfl (T.own _ (by decide)) AY (Aa (pv 7) Ab)) rfl))))))))),?_⟩
    walk_at "w";refine ⟨d,ps0,ok,λ H1 s1=> ?_⟩;walk_at "w";have B:But x H H1:=But.of s1;have hx1:=s1 _ _ hx;refine CY hx1 T.kd_Draft.cl T.na_Draft_shafts (by decide) ?_;replace B:=B.put (o:=HO.ins c.Draft dx (AO "shafts" (nV d.sh) []));have hx2:upd H1 x (HO.ins c.Draft dx (AO "shafts" (nV d.sh) [])) x=_:=Ad;generalize upd H1 x (HO.ins c.Draft dx (AO "shafts" (nV d.sh) []))=H2 at B hx2 ⊢;walk_at "w";refine CY hx2 T.kd_Draft.cl T.na_Draft_treadles (by show 1<1000;decide) ?_;replace B:=B.put (o:=HO.ins c.Draft dx (AO "treadles" (nV d.tr) (AO "shafts" (nV d.sh) [])));have hx3:upd H2 x (HO.ins c.Draft dx (AO "treadles" (nV d.tr) (AO "shafts" (nV d.sh) []))) x=_:=Ad;generalize upd H2 x (HO.ins c.Draft dx (AO "treadles" (nV d.tr) (AO "shafts" (nV d.sh) [])))=H3 at B hx3 ⊢;walk_at "w";refine BH (SqL.of (B _ _ h1 (Fv h1 hx (by intro z;cases z)))) λ t1 ht1=> ?_;walk_at "w";have hx3':=Ak (o:=HO.tup (d.th.map nV)) ht1 _ _ hx3;have r1:Rp (upd H3 t1 (HO.tup (d.th.map nV))) FT 1 (.ref t1) (dT d.th):=TR Ad (by have:=ok.h2;omega);replace B:=B.same (Ak (o:=HO.tup (d.th.map nV)) ht1);generalize upd H3 t1 (HO.tup (d.th.map nV))=H4 at B hx3' r1 ⊢;refine CY hx3' T.kd_Draft.cl T.na_Draft_threading (by show 2<1000;decide) ?_;replace r1:=r1.ins (o:=HO.ins c.Draft dx (AO "threading" (.ref t1) (AO "treadles" (nV d.tr) (AO "shafts" (nV d.sh) [])))) hx3';replace B:=B.put (o:=HO.ins c.Draft dx (AO "threading" (.ref t1) (AO "treadles" (nV d.tr) (AO "shafts" (nV d.sh) []))));have hx5:upd H4 x (HO.ins c.Draft dx (AO "threading" (.ref t1) (AO "treadles" (nV d.tr) (AO "shafts" (nV d.sh) [])))) x=_:=Ad;generalize upd H4 x (HO.ins c.Draft dx (AO "threading" (.ref t1) (AO "treadles" (nV d.tr) (AO "shafts" (nV d.sh) []))))=H5 at B hx5 r1 ⊢;walk_at "w";obtain ⟨m2,a2,vs2,em2,rfl,ha2,_,hl2,hb2,el2⟩:=FA (B.rp hx h2);cases em2;rw [List.length_map] at hl2;refine ⟨a2,rfl,⟨_,SqL.of ha2⟩,λ D hD=> ?_⟩;refine A7 (m:=1) (G:=λ i=>dT (d.ti.getD i [])) (AB (SqL.of ha2) rfl) hD hb2 ?_ ?_
    · intro i H' R hi s kk;have hi':i<d.ti.length:=by omega
      have r:=el2 i (by simpa using hi');rw [AQ dL d.ti i .non [] hi'] at r;obtain ⟨b,eb,hb3,_,hb4⟩:=K0 r;rw [eb];walk_at "w";exact BH (SqL.of (s _ _ hb3)) λ q hq=>kk _ _ (Ak hq) (TR Ad hb4)
    intro H6 ys s6 hl6 r2;rw [hl2,Sy] at r2;walk_at "w";refine BH (SqL.of hl6) λ t2 ht2=> ?_;walk_at "w";replace r2:Rp (upd H6 t2 (HO.tup ys)) FT 2 (.ref t2) (dTT d.ti):=(r2.tupd hl6 ht2).any;have s62:=s6.trans (Ak (o:=HO.tup ys) ht2);replace B:=B.same s62;replace r1:=r1.same s62;have hx6:=s62 _ _ hx5;generalize upd H6 t2 (HO.tup ys)=H7 at B hx6 r1 r2 ⊢;refine CY hx6 T.kd_Draft.cl T.na_Draft_ties (by show 3<1000;decide) ?_;generalize ef:AO "ties" (V.ref t2) _=f7;replace r1:=r1.ins (o:=HO.ins c.Draft dx f7) hx6;replace r2:=r2.ins (o:=HO.ins c.Draft dx f7) hx6;replace B:=B.put (o:=HO.ins c.Draft dx f7);have hx8:upd H7 x (HO.ins c.Draft dx f7) x=_:=Ad;generalize upd H7 x (HO.ins c.Draft dx f7)=H8 at B hx8 r1 r2 ⊢;subst ef;walk_at "w";obtain ⟨m3,a3,vs3,em3,rfl,ha3,_,hl3,hb3,el3⟩:=FA (B.rp hx h3);cases em3;rw [List.length_map] at hl3;refine ⟨a3,rfl,⟨_,SqL.of ha3⟩,λ D hD=> ?_⟩;refine A7 (m:=1) (G:=λ i=>dT (d.td.getD i [])) (AB (SqL.of ha3) rfl) hD hb3 ?_ ?_
    · intro i H' R hi s kk;have hi':i<d.td.length:=by omega
      have r:=el3 i (by simpa using hi');rw [AQ dL d.td i .non [] hi'] at r;obtain ⟨b,eb,hb3,_,hb4⟩:=K0 r;rw [eb];walk_at "w";exact BH (SqL.of (s _ _ hb3)) λ q hq=>kk _ _ (Ak hq) (TR Ad hb4)
    intro H9 ys9 s9 hl9 r3;rw [hl3,Sy] at r3;walk_at "w";refine BH (SqL.of hl9) λ t3 ht3=> ?_;walk_at "w";replace r3:Rp (upd H9 t3 (HO.tup ys9)) FT 2 (.ref t3) (dTT d.td):=(r3.tupd hl9 ht3).any;have s93:=s9.trans (Ak (o:=HO.tup ys9) ht3);replace B:=B.same s93;replace r1:=r1.same s93;replace r2:=r2.same s93;have hx9:=s93 _ _ hx8;generalize upd H9 t3 (HO.tup ys9)=HA at B hx9 r1 r2 r3 ⊢;refine CY hx9 T.kd_Draft.cl T.na_Draft_treading (by show 4<1000;decide) ?_;generalize ef:AO "treading" (V.ref t3) _=f9;replace r1:=r1.ins (o:=HO.ins c.Draft dx f9) hx9;replace r2:=r2.ins (o:=HO.ins c.Draft dx f9) hx9;replace r3:=r3.ins (o:=HO.ins c.Draft dx f9) hx9;replace B:=B.put (o:=HO.ins c.Draft dx f9);have hxB:upd HA x (HO.ins c.Draft dx f9) x=_:=Ad;generalize upd HA x (HO.ins c.Draft dx f9)=HB at B hxB r1 r2 r3 ⊢;subst ef;walk_at "w";refine BH (SqL.of (B _ _ h4 (Fv h4 hx (by intro z;cases z)))) λ t4 ht4=> ?_;walk_at "w";have r4:Rp (upd HB t4 (HO.tup (d.wa.map V.str))) FT 1 (.ref t4) (dST d.wa):=Sg Ad (by have:=ok.h2;have:=ok.wl;omega);have sB:=Ak (o:=HO.tup (d.wa.map V.str)) ht4;replace B:=B.same sB;replace r1:=r1.same sB;replace r2:=r2.same sB;replace r3:=r3.same sB;replace hxB:=sB _ _ hxB;generalize upd HB t4 (HO.tup (d.wa.map V.str))=HC at B hxB r1 r2 r3 r4 ⊢;refine CY hxB T.kd_Draft.cl T.na_Draft_warp (by show 5<1000;decide) ?_;generalize ef:AO "warp" (V.ref t4) _=fC;replace r1:=r1.ins (o:=HO.ins c.Draft dx fC) hxB;replace r2:=r2.ins (o:=HO.ins c.Draft dx fC) hxB;replace r3:=r3.ins (o:=HO.ins c.Draft dx fC) hxB;replace r4:=r4.ins (o:=HO.ins c.Draft dx fC) hxB;replace B:=B.put (o:=HO.ins c.Draft dx fC);have hxD:upd HC x (HO.ins c.Draft dx fC) x=_:=Ad;generalize upd HC x (HO.ins c.Draft dx fC)=HD at B hxD r1 r2 r3 r4 ⊢;subst ef;walk_at "w";refine BH (SqL.of (B _ _ h5 (Fv h5 hx (by intro z;cases z)))) λ t5 ht5=> ?_;walk_at "w";have r5:Rp (upd HD t5 (HO.tup (d.we.map V.str))) FT 1 (.ref t5) (dST d.we):=Sg Ad (by have:=ok.p2;have:=ok.fl;omega);have sD:=Ak (o:=HO.tup (d.we.map V.str)) ht5;replace B:=B.same sD;replace r1:=r1.same sD;replace r2:=r2.same sD;replace r3:=r3.same sD;replace r4:=r4.same sD;replace hxD:=sD _ _ hxD;generalize upd HD t5 (HO.tup (d.we.map V.str))=HE at B hxD r1 r2 r3 r4 r5 ⊢;refine CY hxD T.kd_Draft.cl T.na_Draft_weft (by show 6<1000;decide) ?_;generalize ef:AO "weft" (V.ref t5) _=fE;replace r1:=r1.ins (o:=HO.ins c.Draft dx fE) hxD;replace r2:=r2.ins (o:=HO.ins c.Draft dx fE) hxD;replace r3:=r3.ins (o:=HO.ins c.Draft dx fE) hxD;replace r4:=r4.ins (o:=HO.ins c.Draft dx fE) hxD;replace r5:=r5.ins (o:=HO.ins c.Draft dx fE) hxD;replace B:=B.put (o:=HO.ins c.Draft dx fE);have hxF:upd HD x (HO.ins c.Draft dx fE) x=_:=Ad;walk_at "w";subst ef;exact k _ B ⟨dx,_,_,_,_,_,Ad,r1,r2,r3,r4,r5⟩
theorem QK {c:Cs} {H:Hp} {Q:VK} {d:Dr} {ws:List V} (ps:Parts H d ws) (ok:DrOk d) (h:∀ H' x,Same H H'->H x=none->DrAt c.Draft H' x d->Q (.ref x) H'):
    ∀ x dx,H x=none->H dx=none->dx≠x->Bs c (.ref x::ws) (upd (upd H dx (.own x)) x (.ins c.Draft dx [])) (λ v H2=>v= .non/\Q (.ref x) H2) E0:=by
  intro x dx hx hdx ne;have s0:=Hy (o:=HO.ins c.Draft dx []) (u:= .own x) hx hdx;exact ⟨x,dx,ws,d,rfl,Ad,ps.same s0,ok,λ H' B at'=>⟨rfl,h H' x (λ b o e=>B b o (s0 b o e) (AF e hx)) hx at'⟩⟩
def dDr (d:Dr):Dt:= .tup [dN d.sh,dN d.tr,dL d.th,dLL d.ti,dLL d.td,dS d.wa,dS d.we]
def Cm (c:Cs):Sp:=λ vs H Q _=>∃ x d,vs=[.ref x]/\DrAt c.Draft H x d/\∀ H' p,Same H H'->H p=none->Rp H' (FN H) 3 (.ref p) (dDr d)->Q (.ref p) H'
abbrev CT:Stmt:=AA (top 34) 1
theorem Ic:FnScope ["self"] ["self"] (Ah CT):=⟨rfl,rfl,rfl,by decide +kernel,rfl,by decide +kernel,by decide +kernel⟩
theorem HW {f:Addr} {fd:FuncData} (F:Fun K "told" "Draft.told" CT f fd) (T:Txt K mg c):FnOk P w K mg base CX0 1 f fd ["self"] (Cm c):=by
  refine F.ok Ic (λ vs H Q E h=> ?_) (λ cdv A outer s H vs Q E hr h=> ?_)
  · obtain ⟨x,d,rfl,_⟩:=h;rfl
  · obtain ⟨x,d,rfl,⟨dx,v1,v2,v3,v4,v5,h0,h1,h2,h3,h4,h5⟩,k⟩:=h;obtain ⟨a1,rfl,e1,b1⟩:=Hu h1;obtain ⟨m2,a2,vs2,em2,rfl,e2,l2,b2,el2⟩:=JH h2;cases em2;obtain ⟨m3,a3,vs3,em3,rfl,e3,l3,b3,el3⟩:=JH h3;cases em3;obtain ⟨a4,rfl,e4,b4⟩:=OB h4;obtain ⟨a5,rfl,e5,b5⟩:=OB h5;rw [List.length_map] at l2 l3;refine ⟨_,(Af (Al (AX (Aa (Bl (K:=K) (pv 0) rfl) (Aa (Bl (K:=K) (pv 0) rfl) (Aa (Ap (Ck (K:=K)) rfl (T.own _ (by decide)) AD (Aa (Bl (K:=K) (pv 0) rfl) Ab)) (Aa (Av (Ma (K:=K) (Bl (K:=K) (pv 0) rfl)) (λ _ _ _ _=>Ax) (λ _ _ _ _=>(Ap (Ck (K:=K)) rfl (T.own _ (by decide)) AD (Aa (pv 0) Ab)))) (Aa (Av (Ma (K:=K) (Bl (K:=K) (pv 0) rfl)) (λ _ _ _ _=>Ax) (λ _ _ _ _=>(Ap (Ck (K:=K)) rfl (T.own _ (by decide)) AD (Aa (pv 0) Ab)))) (Aa (Ap (Ck (K:=K)) rfl (T.own _ (by decide)) AD (Aa (Bl (K:=K) (pv 0) rfl) Ab)) (Aa (Ap (Ck (K:=K)) rfl (T.own _ (by decide)) AD (Aa (Bl (K:=K) (pv 0) rfl) Ab)) Ab)))))))))),?_⟩;walk_at "w";refine ⟨_,_,_,_,_,rfl,h0,T.kd_Draft.cl,T.na_Draft_shafts,rfl,?_⟩;walk_at "w";refine ⟨_,_,_,_,_,rfl,h0,T.kd_Draft.cl,T.na_Draft_treadles,rfl,?_⟩;walk_at "w";refine ⟨_,_,_,_,_,rfl,h0,T.kd_Draft.cl,T.na_Draft_threading,rfl,?_⟩;walk_at "w";refine Be (SqT.of e1) λ p1 hp1=> ?_;walk_at "w";have s1:=Ak (o:=HO.lst (d.th.map nV)) hp1;have r1:Rp (upd H p1 (HO.lst (d.th.map nV))) (FN H) 2 (.ref p1) (dL d.th):=Dm Ad hp1 b1;generalize upd H p1 (HO.lst (d.th.map nV))=H1 at s1 r1 ⊢;refine ⟨_,_,_,_,_,rfl,s1 _ _ h0,T.kd_Draft.cl,T.na_Draft_ties,rfl,?_⟩;walk_at "w";refine ⟨a2,rfl,⟨_,SqT.of (s1 _ _ e2)⟩,λ D2 hD2=> ?_⟩;refine A7 (m:=1) (G:=λ i=>dL (d.ti.getD i [])) (GH (SqT.of (s1 _ _ e2)) rfl) hD2 b2 ?_ ?_
    · intro i H' R hi s kk;have hi':i<d.ti.length:=by omega
      have r:=el2 i (by simpa using hi');rw [AQ dT d.ti i .non [] hi'] at r;obtain ⟨b,eb,hb3,hb4⟩:=Hu r;rw [eb];walk_at "w";exact Be (SqT.of (s _ _ (s1 _ _ hb3))) λ q hq=>kk _ _ (Ak hq) (Dm Ad hq hb4)
    intro H2 ys2 s2 hl2 r2;rw [l2,Sa] at r2;replace r2:Rp H2 (FN H) 2 (.ref D2) (dLL d.ti):=r2.imp λ a ha=>s1.free ha;have s02:=s1.trans s2;walk_at "w";refine ⟨_,_,_,_,_,rfl,s02 _ _ h0,T.kd_Draft.cl,T.na_Draft_treading,rfl,?_⟩;walk_at "w";refine ⟨a3,rfl,⟨_,SqT.of (s02 _ _ e3)⟩,λ D3 hD3=> ?_⟩;refine A7 (m:=1) (G:=λ i=>dL (d.td.getD i [])) (GH (SqT.of (s02 _ _ e3)) rfl) hD3 b3 ?_ ?_
    · intro i H' R hi s kk;have hi':i<d.td.length:=by omega
      have r:=el3 i (by simpa using hi');rw [AQ dT d.td i .non [] hi'] at r;obtain ⟨b,eb,hb3,hb4⟩:=Hu r;rw [eb];walk_at "w";exact Be (SqT.of (s _ _ (s02 _ _ hb3))) λ q hq=>kk _ _ (Ak hq) (Dm Ad hq hb4)
    intro H3 ys3 s3 hl3 r3;rw [l3,Sa] at r3;replace r3:Rp H3 (FN H) 2 (.ref D3) (dLL d.td):=r3.imp λ a ha=>s02.free ha;have s03:=s02.trans s3;walk_at "w";refine ⟨_,_,_,_,_,rfl,s03 _ _ h0,T.kd_Draft.cl,T.na_Draft_warp,rfl,?_⟩;walk_at "w";refine Be (SqT.of (s03 _ _ e4)) λ p4 hp4=> ?_;walk_at "w";have s4:=Ak (o:=HO.lst (d.wa.map V.str)) hp4;have r4:Rp (upd H3 p4 (HO.lst (d.wa.map V.str))) (FN H) 2 (.ref p4) (dS d.wa):=Nr Ad (s03.free hp4) b4;generalize upd H3 p4 (HO.lst (d.wa.map V.str))=H4 at s4 r4 ⊢;have s04:=s03.trans s4;refine ⟨_,_,_,_,_,rfl,s04 _ _ h0,T.kd_Draft.cl,T.na_Draft_weft,rfl,?_⟩;walk_at "w";refine Be (SqT.of (s04 _ _ e5)) λ p5 hp5=> ?_;walk_at "w";have s5:=Ak (o:=HO.lst (d.we.map V.str)) hp5;have r5:Rp (upd H4 p5 (HO.lst (d.we.map V.str))) (FN H) 2 (.ref p5) (dS d.we):=Nr Ad (s04.free hp5) b5;generalize upd H4 p5 (HO.lst (d.we.map V.str))=H5 at s5 r5 ⊢;have s05:=s04.trans s5;intro p hp;have s6:=Ak (o:=HO.tup [nV d.sh,nV d.tr, .ref p1, .ref D2, .ref D3, .ref p4, .ref p5]) hp;refine k _ p (s05.trans s6) (s05.free hp) (RB Ad (.int _) (.int _) ?_ ?_ ?_ ?_ ?_)
    · exact (r1.same (s2.trans (s3.trans (s4.trans s5)))).same s6
    · exact (r2.same (s3.trans (s4.trans s5))).same s6
    · exact (r3.same (s4.trans s5)).same s6
    · exact (r4.same s5).same s6
    · exact r5.same s6
def Eo (c:Cs):Sp:=λ vs H Q _=>∃ x d,vs=[.ref x]/\DrAt c.Draft H x d/\Q (nV d.th.length) H
abbrev De:Stmt:=AA (top 34) 2
theorem HL:FnScope ["self"] ["self"] (Ah De):=⟨rfl,rfl,rfl,by decide +kernel,rfl,by decide +kernel,by decide +kernel⟩
theorem HI {f:Addr} {fd:FuncData} (F:Fun K "ends" "Draft.ends" De f fd) (T:Txt K mg c):FnOk P w K mg base CX0 1 f fd ["self"] (Eo c):=by
  refine F.ok HL (λ vs H Q E h=> ?_) (λ cdv A outer s H vs Q E hr h=> ?_)
  · obtain ⟨x,d,rfl,_⟩:=h;rfl
  · obtain ⟨x,d,rfl,⟨dx,v1,v2,v3,v4,v5,h0,h1,h2,h3,h4,h5⟩,k⟩:=h;obtain ⟨a1,rfl,e1,b1⟩:=Hu h1;refine ⟨_,(Af (Al (Aj (AZ (K:=K)) rfl (T.own _ (by decide)) boot_len (Aa (Bl (K:=K) (pv 0) rfl) Ab)))),?_⟩;walk_at "w";refine ⟨_,_,_,_,_,rfl,h0,T.kd_Draft.cl,T.na_Draft_threading,rfl,?_⟩;walk_at "w";refine Mo (SqT.of e1) ?_;rw [List.length_map];exact k
def GO (K:PySem.W.Frag):Sp:=λ vs H Q _=>∃ (a b:Addr) (tp:Bool) (ts ks:List Nat),vs=[.ref a, .ref b]/\SqL K H a (ts.map nV)/\SqS tp K H b (ks.map nV)/\ks.length<=1000/\(∀ k∈ks,1<=k/\k<=ts.length)/\∀ H',Same H H'->Q (nV (MM.uOf (ks.map λ k=>ts.getD (k - 1) 0))) H'
theorem F2 {n:Nat} (G:Nat->Nat):((List.range n).map λ i=>((G i:Nat):Int)).map V.int=((List.range n).map G).map nV:=by rw [List.map_map,List.map_map];rfl
abbrev FD:Stmt:=top 60
theorem Lk:FnScope ["ties","treadles"] ["ties","treadles"] (Ah FD):=⟨rfl,rfl,rfl,by decide +kernel,rfl,by decide +kernel,by decide +kernel⟩
theorem Lh {f:Addr} {fd:FuncData} (F:Fun K "lift_by" "lift_by" FD f fd) (T:Txt K mg c) (c_union_of:CallF P w K mg base "union_of" 1 ["masks"] (Cd K)):FnOk P w K mg base CX0 2 f fd ["ties","treadles"] (GO K):=by
  refine F.ok Lk (λ vs H Q E h=> ?_) (λ cdv A outer s H vs Q E hr h=> ?_)
  · obtain ⟨a,b,tp,ts,ks,rfl,_⟩:=h;rfl
  · obtain ⟨a,b,tp,ts,ks,rfl,sa,sb,hl,hk,k⟩:=h;refine ⟨_,(Af (Al (Ae c_union_of hr (Aa (Av (KN (K:=K) (pv 1)) (λ _ _ _ _=>Ax) (λ _ _ _ _=>(Bi (KI (K:=K)) (pv 1) (Ao FO (pv 0) Ag) (λ _ _=>rfl)))) Ab)))),?_⟩;walk_at "w";refine ⟨tp,b,rfl,⟨_,sb⟩,λ D hD=> ?_⟩;refine AN (G:=λ i=>((ts.getD (ks.getD i 0 - 1) 0:Nat):Int)) (PL sb rfl) hD (by rw [List.length_map];omega) ?_ ?_
    · intro i H' R hi s kk;have hi':i<ks.length:=by simpa using hi
      have hm:=hk _ (Au (y:=0) hi');rw [Aq hi];walk_at "w";refine G6 (SqS.same (tp:=false) sa s) (G8 (by omega) (by omega)) ?_;rw [show (((ks.getD i 0:Nat):Int) - 1).toNat=ks.getD i 0 - 1 by omega];exact kk H' (Same.refl _)
    · intro H' s hl2;rw [F2,List.length_map] at hl2;walk_at "w";refine ⟨false,D,_,rfl,SqL.of hl2,λ H2 s2=> ?_⟩;rw [CF (λ k=>ts.getD (k - 1) 0) ks 0];exact k H2 (s.trans s2)
def BF (ti:List (List Nat)) (ks:List Nat):Nat:=MM.uOf (ks.map λ k=>(ti.map MM.mOf).getD (k - 1) 0)
theorem Rise.le {m:Nat} {ns:List Nat} (h:Rise m ns):∀ n∈ns,1<=n/\n<=m:=λ n hn=>by
  obtain ⟨i,hi,rfl⟩:=List.getElem_of_mem hn;have:=h i hi;rw [show ns.getD i 0=ns[i] by simp [List.getD_eq_getElem?_getD,hi]] at this;omega
theorem Rise.len {m:Nat}:∀ {ns:List Nat},Rise m ns->ns.length<=m:=by
  intro ns h;have:∀ i,i<ns.length->i+1<=ns.getD i 0:=by
    intro i
    induction i with
    | zero=>intro hi;have:=h 0 hi;omega
    | succ i ih=>
      intro hi;have h1:=ih (by omega);have h2:=h (i+1) hi;have e:(0::ns).getD (i+1) 0=ns.getD i 0:=rfl;omega
  rcases Nat.eq_zero_or_pos ns.length with z | z
  · omega
  · have h1:=this (ns.length - 1) (by omega);have h2:=h (ns.length - 1) (by omega);omega
def DL (c:Cs):Sp:=λ vs H Q _=>∃ x d,vs=[.ref x]/\DrAt c.Draft H x d/\DrOk d/\∀ H' p,Same H H'->H p=none->H' p=some (.lst ((d.td.map (BF d.ti)).map nV))->Q (.ref p) H'
abbrev EK:Stmt:=top 61
theorem sc_lifts_of:FnScope ["draft","ties"] ["draft"] (Ah EK):=⟨rfl,rfl,rfl,by decide +kernel,rfl,by decide +kernel,by decide +kernel⟩
theorem JZ {f:Addr} {fd:FuncData} (F:Fun K "lifts_of" "lifts_of" EK f fd) (T:Txt K mg c) (c_mask_of:CallF P w K mg base "mask_of" 2 ["numbers"] (BY K)) (c_lift_by:CallF P w K mg base "lift_by" 2 ["ties","treadles"] (GO K)):FnOk P w K mg base CX0 3 f fd ["draft"] (DL c):=by
  refine F.ok sc_lifts_of (λ vs H Q E h=> ?_) (λ cdv A outer s H vs Q E hr h=> ?_)
  · obtain ⟨x,d,rfl,_⟩:=h;rfl
  · obtain ⟨x,d,rfl,⟨dx,v1,v2,v3,v4,v5,h0,h1,h2,h3,h4,h5⟩,ok,k⟩:=h;obtain ⟨m2,a2,vs2,em2,rfl,e2,l2,b2,el2⟩:=JH h2;cases em2;obtain ⟨m3,a3,vs3,em3,rfl,e3,l3,b3,el3⟩:=JH h3;cases em3;rw [List.length_map] at l2 l3;refine ⟨_,(Ac (An (i:=1) sc_lifts_of.nd rfl (Or.inr rfl) (Av (Ma (K:=K) (Bl (K:=K) (pv 0) rfl)) (λ _ _ _ _=>Ax) (λ _ _ _ _=>(Ae c_mask_of hr (Aa (pv 0) Ab)))))
      (Af (Al (Av (Ma (K:=K) (Bl (K:=K) (pv 0) rfl)) (λ _ _ _ _=>Ax) (λ _ _ _ _=>(Ae c_lift_by hr (Aa (pv 1) (Aa (pv 0) Ab)))))))),?_⟩
    walk_at "w";refine ⟨_,_,_,_,_,rfl,h0,T.kd_Draft.cl,T.na_Draft_ties,rfl,?_⟩;walk_at "w";refine ⟨a2,rfl,⟨_,SqT.of e2⟩,λ D2 hD2=> ?_⟩;refine AN (G:=λ i=>((MM.mOf (d.ti.getD i []):Nat):Int)) (GH (SqT.of e2) rfl) hD2 b2 ?_ ?_
    · intro i H' R hi s kk;have hi':i<d.ti.length:=by omega
      have r:=el2 i (by simpa using hi');rw [AQ dT d.ti i .non [] hi'] at r;obtain ⟨b,eb,hb3,hb4⟩:=Hu r;rw [eb];walk_at "w";have hm:=(ok.ir _ (Au (y:=[]) hi')).le;exact ⟨true,b,_,rfl,SqT.of (s _ _ hb3),λ n hn=>⟨(hm n hn).1,by have:=hm n hn;have:=ok.s2;omega⟩,λ H3 s3=>kk H3 s3⟩
    intro H1 s1 hl1;rw [F2,l2,CF MM.mOf d.ti []] at hl1;walk_at "w";refine ⟨_,_,_,_,_,rfl,s1 _ _ h0,T.kd_Draft.cl,T.na_Draft_treading,rfl,?_⟩;walk_at "w";refine ⟨a3,rfl,⟨_,SqT.of (s1 _ _ e3)⟩,λ D3 hD3=> ?_⟩;refine AN (G:=λ i=>((BF d.ti (d.td.getD i []):Nat):Int)) (GH (SqT.of (s1 _ _ e3)) rfl) hD3 b3 ?_ ?_
    · intro i H' R hi s kk;have hi':i<d.td.length:=by omega
      have r:=el3 i (by simpa using hi');rw [AQ dT d.td i .non [] hi'] at r;obtain ⟨b,eb,hb3,hb4⟩:=Hu r;rw [eb];walk_at "w";have hR:=ok.pr _ (Au (y:=[]) hi');have hm:=hR.le;have hln:=hR.len;exact ⟨D2,b,true,_,_,rfl,SqL.of (s _ _ hl1),SqT.of (s _ _ (s1 _ _ hb3)),by have:=ok.t2;omega,λ n hn=>⟨(hm n hn).1,by have:=hm n hn;have:=ok.il;rw [List.length_map];omega⟩,λ H3 s3=>kk H3 s3⟩
    intro H2 s2 hl2;rw [F2,l3,CF (BF d.ti) d.td []] at hl2;walk_at "w";exact k H2 D3 (s1.trans s2) (s1.free hD3) hl2
def Ef (th:List Nat) (s:Nat):Nat:=MM.ofB (λ e=>decide (th.getD e 0=s)) th.length
theorem T9 (f:Nat->Bool) (w:Nat):MM.mOf (((List.range w).filter f).map (· + 1))=MM.ofB f w:=by
  refine Nat.eq_of_testBit_eq λ i=> ?_;rw [MM.mOf_bit,MM.ofB_bit,Bool.eq_iff_iff,List.any_eq_true];constructor
  · rintro ⟨n,hn,e⟩;obtain ⟨k,hk,rfl⟩:=List.mem_map.mp hn;obtain ⟨h1,h2⟩:=List.mem_filter.mp hk;have e:k+1 - 1=i:=of_decide_eq_true e;have e:k=i:=by omega
    subst e;simp [List.mem_range.mp h1,h2]
  · intro h;simp only [Bool.and_eq_true,decide_eq_true_eq] at h;exact ⟨i+1,List.mem_map.mpr ⟨i,List.mem_filter.mpr ⟨List.mem_range.mpr h.1,h.2⟩,rfl⟩,by simp⟩
def Di (K:PySem.W.Frag):Sp:=λ vs H Q _=>∃ (a:Addr) (tp:Bool) (th:List Nat) (s:Nat),vs=[.ref a,nV s]/\SqS tp K H a (th.map nV)/\th.length<=900/\∀ H',Same H H'->Q (nV (Ef th s)) H'
abbrev B8:Stmt:=top 62
theorem Gd:FnScope ["threading","shaft"] ["threading","shaft"] (Ah B8):=⟨rfl,rfl,rfl,by decide +kernel,rfl,by decide +kernel,by decide +kernel⟩
theorem Ge {f:Addr} {fd:FuncData} (F:Fun K "ends_through" "ends_through" B8 f fd) (T:Txt K mg c) (c_mask_of:CallF P w K mg base "mask_of" 2 ["numbers"] (BY K)):FnOk P w K mg base CX0 3 f fd ["threading","shaft"] (Di K):=by
  refine F.ok Gd (λ vs H Q E h=> ?_) (λ cdv A outer s H vs Q E hr h=> ?_)
  · obtain ⟨a,tp,th,s,rfl,_⟩:=h;rfl
  · obtain ⟨a,tp,th,s,rfl,sa,hl,k⟩:=h;refine ⟨_,(Af (Al (Ae c_mask_of hr (Aa (CJ (K:=K) (Fk (K:=K) rfl (T.own _ (by decide)) (Aa (pv 0) Ab)) (λ _ _ _ _=>(BC (As E7 (pv 1) (pv 2) (Aw _)))) (λ _ _ _ _=>(pv 0))) Ab)))),?_⟩;walk_at "w";refine ⟨tp,a,rfl,⟨_,sa⟩,λ D hD=> ?_⟩;refine A1 (p:=λ i=>decide (th.getD i 0=s)) (G:=λ i=>((i+1:Nat):Int)) (Eb sa rfl rfl) hD (by rw [List.length_map];omega) ?_ ?_ ?_
    · intro i H' R hi s2 kk;rw [Aq hi];walk_at "w";rw [show decide (((th.getD i 0:Nat):Int)=(s:Nat))=decide (th.getD i 0=s) by rw [Bool.eq_iff_iff];simp only [decide_eq_true_eq];omega];exact kk H' (Same.refl _)
    · intro i H' R hi hp s2 kk;walk_at "w";exact kk H' (Same.refl _)
    · intro H' s2 hl2;walk_at "w";have e:(((List.range (th.map nV).length).filter λ i=>decide (th.getD i 0=s)).map λ i=>((i+1:Nat):Int)).map V.int=(((List.range th.length).filter λ i=>decide (th.getD i 0=s)).map (· + 1)).map nV:=by
        rw [List.length_map,List.map_map,List.map_map];rfl
      rw [e] at hl2;refine ⟨false,D,_,rfl,SqL.of hl2,λ n hn=> ?_,λ H3 s3=> ?_⟩
      · obtain ⟨j,hj,rfl⟩:=List.mem_map.mp hn;have:=List.mem_range.mp (List.mem_filter.mp hj).1;omega
      · rw [T9];exact k H3 (s2.trans s3)
def Eg (K:PySem.W.Frag):Sp:=λ vs H Q _=>∃ (a:Addr) (tp:Bool) (th:List Nat) (s:Nat),vs=[.ref a,nV s]/\SqS tp K H a (th.map nV)/\th.length<=900/\s<=900/\∀ H' p,Same H H'->H p=none->H' p=some (.lst (((List.range s).map λ i=>Ef th (i+1)).map nV))->Q (.ref p) H'
abbrev C9:Stmt:=top 63
theorem HH:FnScope ["threading","shafts"] ["threading","shafts"] (Ah C9):=⟨rfl,rfl,rfl,by decide +kernel,rfl,by decide +kernel,by decide +kernel⟩
theorem HV {f:Addr} {fd:FuncData} (F:Fun K "shaft_ends" "shaft_ends" C9 f fd) (T:Txt K mg c) (c_ends_through:CallF P w K mg base "ends_through" 3 ["threading","shaft"] (Di K)):FnOk P w K mg base CX0 4 f fd ["threading","shafts"] (Eg K):=by
  refine F.ok HH (λ vs H Q E h=> ?_) (λ cdv A outer s H vs Q E hr h=> ?_)
  · obtain ⟨a,tp,th,s,rfl,_⟩:=h;rfl
  · obtain ⟨a,tp,th,s,rfl,sa,hl,hs,k⟩:=h;refine ⟨_,(Af (Al (Av (CK rfl (T.own _ (by decide)) (Aa Ag (Aa (Ao Ba (pv 1) Ag) Ab))) (λ _ _ _ _=>Ax) (λ _ _ _ _=>(Ae c_ends_through hr (Aa (pv 1) (Aa (pv 0) Ab))))))),?_⟩;walk_at "w";refine ⟨_,_,rfl,⟨by decide,by decide,by omega,by omega⟩,λ D hD=> ?_⟩;rw [show ((s:Int)+1 - 1).toNat=s by omega];refine AN (G:=λ i=>((Ef th (i+1):Nat):Int)) (Ec rfl) hD (by omega) ?_ ?_
    · intro i H' R hi s2 kk;walk_at "w";refine ⟨a,tp,th,i+1,by rw [show (1:Int)+(i:Nat)=((i+1:Nat):Int) by omega],sa.same s2,hl,kk⟩
    · intro H' s2 hl2;rw [F2] at hl2;exact k H' D s2 hD hl2
def JA (cs:List Nat) (l:Nat):Nat:=MM.uOf ((MM.nOf l).map λ s=>cs.getD (s - 1) 0)
def IM (K:PySem.W.Frag):Sp:=λ vs H Q _=>∃ (a:Addr) (cs:List Nat) (l:Nat),vs=[.ref a,nV l]/\SqL K H a (cs.map nV)/\l<2 ^ cs.length/\cs.length<=900/\∀ H',Same H H'->Q (nV (JA cs l)) H'
abbrev GW:Stmt:=top 64
theorem ND:FnScope ["carried","lift"] ["carried","lift"] (Ah GW):=⟨rfl,rfl,rfl,by decide +kernel,rfl,by decide +kernel,by decide +kernel⟩
theorem Nu {f:Addr} {fd:FuncData} (F:Fun K "row_by" "row_by" GW f fd) (T:Txt K mg c) (c_numbers_of:CallF P w K mg base "numbers_of" 3 ["mask"] CB) (c_union_of:CallF P w K mg base "union_of" 1 ["masks"] (Cd K)):FnOk P w K mg base CX0 4 f fd ["carried","lift"] (IM K):=by
  refine F.ok ND (λ vs H Q E h=> ?_) (λ cdv A outer s H vs Q E hr h=> ?_)
  · obtain ⟨a,cs,l,rfl,_⟩:=h;rfl
  · obtain ⟨a,cs,l,rfl,sa,hl,hc,k⟩:=h;refine ⟨_,(Af (Al (Ae c_union_of (hr.mono (by decide)) (Aa (Av (A5 (K:=K) (Ae c_numbers_of hr (Aa (pv 1) Ab))) (λ _ _ _ _=>Ax) (λ _ _ _ _=>(Bi (KI (K:=K)) (pv 1) (Ao FO (pv 0) Ag) (λ _ _=>rfl)))) Ab)))),?_⟩;walk_at "w";refine ⟨l,rfl,Nat.lt_of_lt_of_le hl (Nat.pow_le_pow_right (Nat.zero_lt_two) hc),λ H1 p s1 hp h1=> ?_⟩;walk_at "w";refine ⟨p,rfl,⟨_,SqL.of h1⟩,λ D hD=> ?_⟩;have hn:=MM.nOf_len hl;refine AN (G:=λ i=>((cs.getD ((MM.nOf l).getD i 0 - 1) 0:Nat):Int)) (AB (SqL.of h1) rfl) hD (by rw [List.length_map];omega) ?_ ?_
    · intro i H' R hi s kk;have hi':i<(MM.nOf l).length:=by simpa using hi
      obtain ⟨m1,m2⟩:=(MM.nOf_mem l _).mp (Au (y:=0) hi');have m3:(MM.nOf l).getD i 0 - 1<cs.length:=by
        rcases Nat.lt_or_ge ((MM.nOf l).getD i 0 - 1) cs.length with z | z
        · exact z
        · rw [Nat.testBit_lt_two_pow (Nat.lt_of_lt_of_le hl (Nat.pow_le_pow_right (by decide) z))] at m2;cases m2
      rw [Aq hi];walk_at "w";refine G6 (SqS.same (tp:=false) (SqS.same (tp:=false) sa s1) s) (G8 (by omega) (by omega)) ?_;rw [show ((((MM.nOf l).getD i 0:Nat):Int) - 1).toNat=(MM.nOf l).getD i 0 - 1 by omega];exact kk H' (Same.refl _)
    · intro H' s hl2;rw [F2,List.length_map] at hl2;walk_at "w";refine ⟨false,D,_,rfl,SqL.of hl2,λ H2 s2=> ?_⟩;rw [CF (λ s=>cs.getD (s - 1) 0) (MM.nOf l) 0];exact k H2 (s1.trans (s.trans s2))
def Gp (d:Dr):List Nat:=d.td.map λ ks=>JA ((List.range d.sh).map λ i=>Ef d.th (i+1)) (BF d.ti ks)
theorem Iz (ti:List (List Nat)) (ks:List Nat) (i:Nat):(BF ti ks).testBit i=ks.any λ k=>((ti.map MM.mOf).getD (k - 1) 0).testBit i:=by
  unfold BF;rw [MM.uOf_bit,List.any_map];rfl
theorem Hd {d:Dr} (ok:DrOk d) (ks:List Nat):BF d.ti ks<2 ^ d.sh:=by
  refine Nat.lt_pow_two_of_testBit _ λ i hi=> ?_;rw [Iz,List.any_eq_false];intro k _;by_cases h:k - 1<d.ti.length
  · rw [AQ MM.mOf d.ti (k - 1) 0 [] h];have hr:=(ok.ir _ (Au (y:=[]) h)).le;rw [Nat.testBit_lt_two_pow (Nat.lt_of_lt_of_le (MM.mOf_lt (w:=d.sh) λ n hn=>by have:=hr n hn;omega) (Nat.pow_le_pow_right (by decide) hi))];simp
  · rw [List.getD_eq_getElem?_getD,List.getElem?_eq_none (by simp;omega)];simp
theorem Ri {th:List Nat} {s l:Nat} (hl:l<2 ^ s):JA ((List.range s).map λ i=>Ef th (i+1)) l<2 ^ th.length:=by
  refine Nat.lt_pow_two_of_testBit _ λ i hi=> ?_;unfold JA;rw [MM.uOf_bit,List.any_eq_false];intro n hn;obtain ⟨k,hk,rfl⟩:=List.mem_map.mp hn;by_cases h:k - 1<s
  · rw [AQ (λ i=>Ef th (i+1)) (List.range s) (k - 1) 0 0 (by simpa using h)];unfold Ef;rw [Nat.testBit_lt_two_pow (Nat.lt_of_lt_of_le (MM.ofB_lt _ _) (Nat.pow_le_pow_right (by decide) hi))];simp
  · rw [List.getD_eq_getElem?_getD,List.getElem?_eq_none (by simp;omega)];simp
theorem Qc {d:Dr} (ok:DrOk d):ClOk d.th.length (Gp d) where
  n1:=ok.h1
  n2:=ok.h2
  p1:=by unfold Gp;rw [List.length_map];exact ok.p1
  p2:=by unfold Gp;rw [List.length_map];exact ok.p2
  lt:=λ r hr=>by
    unfold Gp at hr;obtain ⟨ks,hk,rfl⟩:=List.mem_map.mp hr;exact Ri (Hd ok ks)
def Ki (c:Cs):Sp:=λ vs H Q _=>∃ x d,vs=[.ref x]/\DrAt c.Draft H x d/\DrOk d/\∀ H' y,Same H H'->H y=none->ClAt c.Cloth H' y d.th.length (Gp d)->Q (.ref y) H'
abbrev JS:Stmt:=top 65
theorem sc_woven:FnScope ["draft","carried"] ["draft"] (Ah JS):=⟨rfl,rfl,rfl,by decide +kernel,rfl,by decide +kernel,by decide +kernel⟩
theorem Od {f:Addr} {fd:FuncData} (F:Fun K "woven" "woven" JS f fd) (T:Txt K mg c) (c_shaft_ends:CallF P w K mg base "shaft_ends" 4 ["threading","shafts"] (Eg K)) (d_Draft_ends:Bk P w K mg base c.Draft "ends" 1 ["self"] (Eo c)) (c_row_by:CallF P w K mg base "row_by" 4 ["carried","lift"] (IM K)) (c_lifts_of:CallF P w K mg base "lifts_of" 3 ["draft"] (DL c)) (m_Cloth:JV P w K mg base "Cloth" c.Cloth 4 ["self","ends","rows"] (AH K c)):FnOk P w K mg base CX0 6 f fd ["draft"] (Ki c):=by
  refine F.ok sc_woven (λ vs H Q E h=> ?_) (λ cdv A outer s H vs Q E hr h=> ?_)
  · obtain ⟨x,d,rfl,_⟩:=h;rfl
  · obtain ⟨x,d,rfl,D0,ok,k⟩:=h;have D1:=D0;obtain ⟨dx,v1,v2,v3,v4,v5,h0,h1,h2,h3,h4,h5⟩:=D0;obtain ⟨a1,rfl,e1,b1⟩:=Hu h1;refine ⟨_,(Ac (An (i:=1) sc_woven.nd rfl (Or.inr rfl) (Ae c_shaft_ends (hr.mono (by decide)) (Aa (Bl (K:=K) (pv 0) rfl) (Aa (Bl (K:=K) (pv 0) rfl) Ab))))
      (Af (Al (Hn m_Cloth hr Md (Aa (A3 (pv 0) d_Draft_ends (hr.mono (by decide))) (Aa (Av (A5 (K:=K) (Ae c_lifts_of (hr.mono (by decide)) (Aa (pv 0) Ab))) (λ _ _ _ _=>Ax) (λ _ _ _ _=>(Ae c_row_by (hr.mono (by decide)) (Aa (pv 1) (Aa (pv 0) Ab))))) Ab)))))),?_⟩
    walk_at "w";refine ⟨_,_,_,_,_,rfl,h0,T.kd_Draft.cl,T.na_Draft_threading,rfl,?_⟩;walk_at "w";refine ⟨_,_,_,_,_,rfl,h0,T.kd_Draft.cl,T.na_Draft_shafts,rfl,?_⟩;walk_at "w";refine ⟨a1,true,d.th,d.sh,rfl,SqT.of e1,by have:=ok.h2;omega,by have:=ok.s2;omega,λ H1 p1 s1 hp1 q1=> ?_⟩;walk_at "w";refine ⟨_,_,_,rfl,s1 _ _ h0,rfl,?_⟩;walk_at "w";refine ⟨x,d,rfl,D1.same s1,?_⟩;walk_at "w";refine ⟨x,d,rfl,D1.same s1,ok,λ H2 p2 s2 hp2 q2=> ?_⟩;walk_at "w";refine ⟨p2,rfl,⟨_,SqL.of q2⟩,λ D hD=> ?_⟩;have hp2l:d.td.length<=60:=ok.p2;refine AN (G:=λ i=>((JA ((List.range d.sh).map λ i=>Ef d.th (i+1)) (BF d.ti (d.td.getD i [])):Nat):Int)) (AB (SqL.of q2) rfl) hD (by simp;omega) ?_ ?_
    · intro i H' R hi s kk;have hi':i<d.td.length:=by simpa using hi
      rw [Aq hi,AQ (BF d.ti) d.td i 0 [] hi'];walk_at "w";exact ⟨p1,_,_,rfl,SqL.of (s _ _ (s2 _ _ q1)),by rw [List.length_map,List.length_range];exact Hd ok _,by rw [List.length_map,List.length_range];have:=ok.s2;omega,kk⟩
    · intro H3 s3 hl3;rw [F2,List.length_map,List.length_map,CF (λ ks=>JA ((List.range d.sh).map λ i=>Ef d.th (i+1)) (BF d.ti ks)) d.td []] at hl3;walk_at "w";refine RG hl3 (Qc ok) λ H4 y s4 hy c4=> ?_;exact k H4 y (s1.trans (s2.trans (s3.trans s4))) (s1.free (s2.free (s3.free hy))) c4
def Bp (K:PySem.W.Frag):Sp:=λ vs H Q _=>∃ (tp:Bool) (a:Addr) (ms:List Int),vs=[.ref a]/\SqS tp K H a (ms.map V.int)/\ms.length<=10000/\∀ H' p,Same H H'->H p=none->H' p=some (.dK (kD (kOf ms)))->Q (.ref p) H'
abbrev By:Stmt:=top 38
theorem sc_numbered_kinds:FnScope ["masks","numbers","mask"] ["masks"] (Ah By):=⟨rfl,rfl,rfl,by decide +kernel,rfl,by decide +kernel,by decide +kernel⟩
theorem Fu {f:Addr} {fd:FuncData} (F:Fun K "numbered_kinds" "numbered_kinds" By f fd) (T:Txt K mg c):FnOk P w K mg base CX0 1 f fd ["masks"] (Bp K):=by
  refine F.ok sc_numbered_kinds (λ vs H Q E h=> ?_) (λ cdv A outer s H vs Q E hr h=> ?_)
  · obtain ⟨tp,a,ms,rfl,_⟩:=h;rfl
  · obtain ⟨tp,a,ms,rfl,sa,hn,k⟩:=h;have hu1:=hr.units1;refine ⟨_,(Ac (An (i:=1) sc_numbered_kinds.nd rfl (Or.inl rfl) (Rj (OE Ag Ag QD) rfl rfl (by simp) (by decide)))
      (Ac (Cp PassesOwn.never rfl (KN (K:=K) (pv 0)) (Bd (i:=2) sc_numbered_kinds.nd rfl (Or.inl rfl)) (Af (Bc (TY (NP hu1 (pv 2) (pv 1))) (Af (QW hu1 (pv 1) (pv 2) (Aj NJ rfl (T.own _ (by decide)) boot_len (Aa (pv 1) Ab)) rfl)) AK)))
      (Af (Al (pv 1))))),?_⟩
    walk_at "w";intro p hp;walk_at "w";refine ⟨Ad,[(.inl 0, .int 0)],rfl,by decide,?_⟩;rw [RK];have e0:EC [] [((.inl 0:Key),V.int 0)]=kD (kOf (ms.take 0)):=rfl;rw [e0];walk_at "w";have s0:=Ak (o:=HO.dK (kD (kOf (ms.take 0)))) hp;refine ⟨tp,a,rfl,⟨_,sa.same s0⟩,Fm (H0:=H) (KY sa) (λ i σ H3=>∃ x,σ=[some (.ref a),some (.ref p),x]/\Same H H3/\H3 p=some (.dK (kD (kOf (ms.take i))))) ⟨_,rfl,s0,Ad⟩ (λ i σ H3 ⟨_,_,s3,_⟩=>s3) ?_ ?_⟩
    · rintro i σ H' H3 hi0 ⟨y,rfl,s',h'⟩ s4;have s3:=s'.trans s4;have h3:=s4 _ _ h';have hi:i<ms.length:=by simpa using hi0
      have ex:(ms.map V.int).getD i .non= .int ms[i]:=by simp [List.getD_eq_getElem?_getD,hi]
      rw [ex];walk_at "w";refine ⟨p,_,rfl,DGet.k (k:= .inl ms[i]) h3,?_⟩;walk_at "w";rw [LH];by_cases q:ms[i]∈(0::kOf (ms.take i))
      · rw [if_pos q];refine HZ ?_;walk_at "w";refine ⟨_,rfl,s3,?_⟩;rw [GJ ms i hi];unfold BV;rw [if_pos q];exact h3
      · rw [if_neg q];refine Lu ?_;walk_at "w";refine ⟨p,_,rfl,h3,?_⟩;walk_at "w";have hl:=JT (ms.take i);rw [List.length_take] at hl;refine ⟨p,_,rfl,DPut.k (k:= .inl ms[i]) h3 (by rw [Ox];exact Nat.lt_of_le_of_lt (by omega:_<=20000) (by decide)),?_⟩;walk_at "w";refine ⟨_,rfl,DU s3 hp,?_⟩;rw [Ad,Ox,TC _ _ q,GJ ms i hi];unfold BV;rw [if_neg q]
    · rintro σ H3 ⟨y,rfl,s3,h3⟩;rw [List.length_map,List.take_length] at h3;walk_at "w";exact k H3 p s3 hp h3
def DJ (K:PySem.W.Frag):Sp:=λ vs H Q _=>∃ (tp:Bool) (a:Addr) (ms:List Int),vs=[.ref a]/\SqS tp K H a (ms.map V.int)/\ms.length<=10000/\∀ H' p,Same H H'->H p=none->H' p=some (.lst ((kOf ms).map V.int))->Q (.ref p) H'
abbrev ES:Stmt:=top 40
theorem Kj:FnScope ["masks"] ["masks"] (Ah ES):=⟨rfl,rfl,rfl,by decide +kernel,rfl,by decide +kernel,by decide +kernel⟩
theorem JW {f:Addr} {fd:FuncData} (F:Fun K "kinds_of" "kinds_of" ES f fd) (T:Txt K mg c) (c_numbered_kinds:CallF P w K mg base "numbered_kinds" 1 ["masks"] (Bp K)):FnOk P w K mg base CX0 2 f fd ["masks"] (DJ K):=by
  refine F.ok Kj (λ vs H Q E h=> ?_) (λ cdv A outer s H vs Q E hr h=> ?_)
  · obtain ⟨tp,a,ms,rfl,_⟩:=h;rfl
  · obtain ⟨tp,a,ms,rfl,sa,hn,k⟩:=h;refine ⟨_,(Af (Al (Hj (Oo (K:=K)) (Ap (LE rfl) rfl (T.own _ (by decide)) AD (Aa (Ae c_numbered_kinds hr (Aa (pv 0) Ab)) Ab)) (Jy Ag) Jl))),?_⟩;walk_at "w";refine ⟨tp,a,ms,rfl,sa,hn,λ H1 p s1 hp h1=> ?_⟩;walk_at "w";refine PB h1 λ l hl=> ?_;walk_at "w";rw [Qv];refine LT (SqL.of Ad) λ q hq=> ?_;have s2:Same H1 (upd H1 l (HO.lst ((0::kOf ms).map V.int))):=Ak hl;have hq':H1 q=none:=s2.free hq;refine k _ _ (s1.trans (s2.trans (Ak hq))) (s1.free hq') ?_;rw [Ad,OP (by decide)];rfl
def BJ (K:PySem.W.Frag):Sp:=λ vs H Q _=>∃ (tp:Bool) (a:Addr) (ms:List Int),vs=[.ref a]/\SqS tp K H a (ms.map V.int)/\ms.length<=10000/\∀ H' p,Same H H'->H p=none->H' p=some (.lst ((ms.map λ m=>(((0::kOf ms).idxOf m:Nat):Int)).map V.int))->Q (.ref p) H'
abbrev B7:Stmt:=top 39
theorem sc_kind_numbers:FnScope ["masks","numbers"] ["masks"] (Ah B7):=⟨rfl,rfl,rfl,by decide +kernel,rfl,by decide +kernel,by decide +kernel⟩
theorem Gn {f:Addr} {fd:FuncData} (F:Fun K "kind_numbers" "kind_numbers" B7 f fd) (T:Txt K mg c) (c_numbered_kinds:CallF P w K mg base "numbered_kinds" 1 ["masks"] (Bp K)):FnOk P w K mg base CX0 2 f fd ["masks"] (BJ K):=by
  refine F.ok sc_kind_numbers (λ vs H Q E h=> ?_) (λ cdv A outer s H vs Q E hr h=> ?_)
  · obtain ⟨tp,a,ms,rfl,_⟩:=h;rfl
  · obtain ⟨tp,a,ms,rfl,sa,hn,k⟩:=h;have hu1:=hr.units1;refine ⟨_,(Ac (An (i:=1) sc_kind_numbers.nd rfl (Or.inr rfl) (Ae c_numbered_kinds hr (Aa (pv 0) Ab)))
      (Af (Al (Av (KN (K:=K) (pv 0)) (λ _ _ _ _=>Ax) (λ _ _ _ _=>(Qn hu1 (pv 1) (pv 0) (λ _ _=>rfl))))))),?_⟩
    walk_at "w";refine ⟨tp,a,ms,rfl,sa,hn,λ H1 p s1 hp h1=> ?_⟩;walk_at "w";refine ⟨tp,a,rfl,⟨_,sa.same s1⟩,λ D hD=> ?_⟩;refine A7 (m:=0) (G:=λ i=> .int (((0::kOf ms).idxOf (ms.getD i 0):Nat):Int)) (PL (sa.same s1) rfl) hD (by rw [List.length_map];omega) ?_ ?_
    · intro i H' R hi s2 kk;have hi':i<ms.length:=by simpa using hi
      have e:(ms.map V.int).getD i .non= .int ms[i]:=by simp [List.getD_eq_getElem?_getD,hi']
      have e2:ms.getD i 0=ms[i]:=by simp [List.getD_eq_getElem?_getD,hi']
      rw [e];walk_at "w";have eg:Dz (kD (kOf ms)) (.inl ms[i])=some (.int (((0::kOf ms).idxOf ms[i]:Nat):Int)):=by rw [LH,if_pos (JK ms _ (List.getElem_mem hi'))]
      refine ⟨p,_,rfl,eg▸DGet.k (k:= .inl ms[i]) (s2 _ _ h1),?_⟩;rw [e2] at kk;exact kk H' _ (Same.refl _) (.int _)
    · intro H' ys s2 hl r;have e:(List.range (ms.map V.int).length).map (λ i=>Dt.int (((0::kOf ms).idxOf (ms.getD i 0):Nat):Int))=(ms.map λ m=>(((0::kOf ms).idxOf m:Nat):Int)).map Dt.int:=by
        rw [List.length_map,List.map_map];exact Ar (λ m=>Dt.int (((0::kOf ms).idxOf m:Nat):Int)) ms 0
      rw [e] at r;obtain ⟨b,eb,hb,fb⟩:=JQ r;cases eb;walk_at "w";exact k H' D (s1.trans s2) (s1.free fb) hb
def Dk (x k:Int):Int:=(x%1000000007+7919*k+13)*(x%1000000007+7919*k+13)%1000000007*48271%2147483647
def Cv:Sp:=λ vs H Q _=>∃ x k:Int,vs=[.int x, .int k]/\(0<=k/\k<=1000)/\Q (.int (Dk x k)) H
abbrev CO:Stmt:=top 67
theorem sc__law_mixed:FnScope ["_law_cell","_law_k"] ["_law_cell","_law_k"] (Ah CO):=⟨rfl,rfl,rfl,by decide +kernel,rfl,by decide +kernel,by decide +kernel⟩
theorem HN {f:Addr} {fd:FuncData} (F:Fun K "_law_mixed" "_law_mixed" CO f fd) (T:Txt K mg c):FnOk P w K mg base CX0 1 f fd ["_law_cell","_law_k"] Cv:=by
  refine F.ok sc__law_mixed (λ vs H Q E h=> ?_) (λ cdv A outer s H vs Q E hr h=> ?_)
  · obtain ⟨x,k,rfl,_⟩:=h;rfl
  · obtain ⟨x,k,rfl,hk,q⟩:=h;refine ⟨_,(Ac (An (i:=0) sc__law_mixed.nd rfl (Or.inl rfl) (Ao Ba (Ao Ba (Ao B1 (pv 0) Ag) (Ao Lj Ag (pv 1))) Ag))
      (Af (Al (Ao B1 (Ao Lj (Ao B1 (Ao Lj (pv 0) (pv 0)) Ag) Ag) Ag)))),?_⟩
    have b1:=Int.emod_nonneg x (show (1000000007:Int)≠0 by decide);have b2:=Int.emod_lt_of_pos x (show (0:Int)<1000000007 by decide);walk_at "w";refine A9 (by decide) ?_;walk_at "w";refine A9 (.inl ⟨by decide,by decide⟩) ?_;walk_at "w";refine A9 (.inl ⟨?_,?_⟩) ?_
    · show -(2 ^ 64)<x%1000000007+7919*k+13;omega
    · show x%1000000007+7919*k+13<2 ^ 64;omega
    walk_at "w";refine A9 (by decide) ?_;walk_at "w";refine A9 (.inr ⟨by decide,by decide⟩) ?_;walk_at "w";refine A9 (by decide) ?_;exact q
def isL (d:Dr) (p s:Nat):Bool:=(d.td.getD p []).any λ k=>decide (s∈d.ti.getD (k - 1) [])
theorem P7 {H:Hp} {F:Addr->Prop} {n:Nat} {v:V} {d:Dr} (r:Rp H F n v (dDr d)):∃ m a a2 v3 v4 a5 a6,n=m+1/\v= .ref a/\H a=some (.tup [nV d.sh,nV d.tr, .ref a2,v3,v4, .ref a5, .ref a6])/\H a2=some (.lst (d.th.map nV))/\Rp H F m v3 (dLL d.ti)/\Rp H F m v4 (dLL d.td)/\H a5=some (.lst (d.wa.map V.str))/\H a6=some (.lst (d.we.map V.str)):=by
  obtain ⟨m,a,v0,v1,v2,v3,v4,v5,v6,em,rfl,ha,q0,q1,q2,q3,q4,q5,q6⟩:=Q7 r;cases q0;cases q1;obtain ⟨b2,rfl,e2,_,_⟩:=K0 q2;obtain ⟨b5,rfl,e5,_,_⟩:=Os q5;obtain ⟨b6,rfl,e6,_,_⟩:=Os q6;exact ⟨m,a,b2,v3,v4,b5,b6,em,rfl,ha,e2,q3,q4,e5,e6⟩
theorem Mb {H:Hp} {F:Addr->Prop} {n:Nat} {v:V} {ls:List (List Nat)} (r:Rp H F n v (dLL ls)):∃ a vs,v= .ref a/\H a=some (.lst vs)/\vs.length=ls.length/\vs.length<=100000/\∀ i,i<ls.length->∃ b,vs.getD i .non= .ref b/\H b=some (.lst ((ls.getD i []).map nV)):=by
  obtain ⟨m,a,vs,_,rfl,h,_,l,b,el⟩:=FA r;rw [List.length_map] at l;refine ⟨a,vs,rfl,h,l,b,λ i hi=> ?_⟩;have r:=el i (by simpa using hi);rw [AQ dL ls i .non [] hi] at r;obtain ⟨b,eb,hb,_,_⟩:=K0 r;exact ⟨b,eb,hb⟩
theorem MG {ns:List Nat} (h:∀ n∈ns,1<=n) (i:Nat):(MM.mOf ns).testBit i=decide (i+1∈ns):=by
  rw [MM.mOf_bit,Bool.eq_iff_iff,List.any_eq_true,decide_eq_true_eq];constructor
  · rintro ⟨n,hn,e⟩;have e:=of_decide_eq_true e;have:=h n hn;rw [show i+1=n by omega];exact hn
  · intro q;exact ⟨i+1,q,by simp⟩
theorem LQ {α:Type} {l:List α} {f g:α->Bool} (h:∀ a∈l,f a=g a):l.any f=l.any g:=by
  induction l with
  | nil=>rfl
  | cons a l ih=>rw [List.any_cons,List.any_cons,h a (List.mem_cons_self ..),ih λ b hb=>h b (List.mem_cons_of_mem _ hb)]
theorem KZ {d:Dr} (ok:DrOk d) {p:Nat} (hp:p<d.td.length) (i:Nat):(BF d.ti (d.td.getD p [])).testBit i=isL d p (i+1):=by
  rw [Iz];unfold isL;refine LQ λ k hk=> ?_;have hm:=(ok.pr _ (Au (y:=[]) hp)).le k hk;have hk':k - 1<d.ti.length:=by have:=ok.il;omega
  rw [AQ MM.mOf d.ti (k - 1) 0 [] hk'];exact MG (λ n hn=>((ok.ir _ (Au (y:=[]) hk')).le n hn).1) i
theorem J1 {d:Dr} (ok:DrOk d) {p:Nat} (hp:p<d.td.length):isL d p 0=false:=by
  unfold isL;rw [List.any_eq_false];intro k hk;have hm:=(ok.pr _ (Au (y:=[]) hp)).le k hk;have hk':k - 1<d.ti.length:=by have:=ok.il;omega
  simp only [decide_eq_true_eq];intro q;have:=((ok.ir _ (Au (y:=[]) hk')).le 0 q).1;omega
theorem Pe {th:List Nat} {s l e:Nat} (hl:l<2 ^ s) (he:e<th.length):(JA ((List.range s).map λ i=>Ef th (i+1)) l).testBit e=(decide (0<th.getD e 0)&&l.testBit (th.getD e 0 - 1)):=by
  unfold JA;rw [MM.uOf_bit,List.any_map,Bool.eq_iff_iff,List.any_eq_true];have hb:∀ k∈MM.nOf l,1<=k/\k - 1<s:=λ k hk=>by
    obtain ⟨m1,m2⟩:=(MM.nOf_mem l k).mp hk;refine ⟨m1,?_⟩;rcases Nat.lt_or_ge (k - 1) s with z | z
    · exact z
    · rw [Nat.testBit_lt_two_pow (Nat.lt_of_lt_of_le hl (Nat.pow_le_pow_right (by decide) z))] at m2;cases m2
  have hv:∀ k∈MM.nOf l,(((List.range s).map λ i=>Ef th (i+1)).getD (k - 1) 0).testBit e=decide (th.getD e 0=k):=λ k hk=>by
    have h:=hb k hk;rw [NR (λ i=>Ef th (i+1)) h.2];unfold Ef;rw [MM.ofB_bit,show k - 1+1=k by omega];simp [he]
  constructor
  · rintro ⟨k,hk,q⟩;have q:(((List.range s).map λ i=>Ef th (i+1)).getD (k - 1) 0).testBit e=true:=q;rw [hv k hk] at q;have q:=of_decide_eq_true q;obtain ⟨m1,m2⟩:=(MM.nOf_mem l k).mp hk;rw [q,decide_eq_true (by omega),m2];rfl
  · intro q;simp only [Bool.and_eq_true,decide_eq_true_eq] at q;have hk:th.getD e 0∈MM.nOf l:=(MM.nOf_mem l _).mpr ⟨q.1,q.2⟩;refine ⟨_,hk,?_⟩;show (((List.range s).map λ i=>Ef th (i+1)).getD (th.getD e 0 - 1) 0).testBit e=true;rw [hv _ hk];simp
theorem RL {d:Dr} (ok:DrOk d) {p e:Nat} (hp:p<d.td.length) (he:e<d.th.length):((Gp d).getD p 0).testBit e=isL d p (d.th.getD e 0):=by
  unfold Gp;rw [AQ (λ ks=>JA ((List.range d.sh).map λ i=>Ef d.th (i+1)) (BF d.ti ks)) d.td p 0 [] hp,Pe (Hd ok _) he];by_cases h:0<d.th.getD e 0
  · rw [KZ ok hp,show d.th.getD e 0 - 1+1=d.th.getD e 0 by omega,decide_eq_true h];rfl
  · rw [decide_eq_false h,show d.th.getD e 0=0 by omega,J1 ok hp];rfl
def Dv (c:Cs):Sp:=λ vs H Q _=>∃ x n rs,∃ e p:Nat,vs=[.ref x,nV e,nV p]/\ClAt c.Cloth H x n rs/\1<=e/\e<=100/\1<=p/\p<=rs.length/\Q (.bl ((rs.getD (p - 1) 0).testBit (e - 1))) H
abbrev CA:Stmt:=AA (top 58) 6
theorem GM:FnScope ["self","end","pick"] ["self","end","pick"] (Ah CA):=⟨rfl,rfl,rfl,by decide +kernel,rfl,by decide +kernel,by decide +kernel⟩
theorem GZ {f:Addr} {fd:FuncData} (F:Fun K "is_up" "Cloth.is_up" CA f fd) (T:Txt K mg c) (c_has_number:CallF P w K mg base "has_number" 2 ["mask","number"] BE):FnOk P w K mg base CX0 3 f fd ["self","end","pick"] (Dv c):=by
  refine F.ok GM (λ vs H Q E h=> ?_) (λ cdv A outer s H vs Q E hr h=> ?_)
  · obtain ⟨x,n,rs,e,p,rfl,_⟩:=h;rfl
  · obtain ⟨x,n,rs,e,p,rfl,⟨dx,t,h1,h2⟩,e1,e2,p1,p2,k⟩:=h;refine ⟨_,(Af (Al (Ae c_has_number hr (Aa (Bi (Ca (K:=K)) (Bl (K:=K) (pv 0) rfl) (Ao FO (pv 2) Ag) (λ _ _=>rfl)) (Aa (pv 1) Ab))))),?_⟩;walk_at "w";refine ⟨_,_,_,_,_,rfl,h1,T.kd_Cloth.cl,T.na_Cloth_rows,rfl,?_⟩;walk_at "w";rw [show ((p:Nat):Int) - 1=((p - 1:Nat):Int) by omega];refine Bh (SqT.of h2) (G8 (by omega) (by omega)) ?_;rw [Int.toNat_natCast];walk_at "w";exact ⟨_,e,rfl,e1,by omega,k⟩
def Ai (n:Nat) (rs:List Nat):List Nat:=(List.range n).map λ e=>IT rs (e+1)
theorem IY (n:Nat) (G:Nat->Nat):((List.range n).map λ i=>((G i:Nat):Int)).map V.int=((List.range n).map G).map nV:=by
  rw [List.map_map,List.map_map];rfl
theorem Dg (l:List Nat):l.map nV=(l.map λ n=>((n:Nat):Int)).map V.int:=by
  rw [List.map_map];rfl
def Ct (c:Cs):Sp:=λ vs H Q _=>∃ x n rs,vs=[.ref x]/\ClAt c.Cloth H x n rs/\ClOk n rs/\∀ H' p,Same H H'->H p=none->H' p=some (.lst ((Ai n rs).map nV))->Q (.ref p) H'
abbrev CP:Stmt:=top 41
theorem HS:FnScope ["cloth"] ["cloth"] (Ah CP):=⟨rfl,rfl,rfl,by decide +kernel,rfl,by decide +kernel,by decide +kernel⟩
theorem HR {f:Addr} {fd:FuncData} (F:Fun K "columns_of" "columns_of" CP f fd) (T:Txt K mg c) (d_Cloth_column_at:Bk P w K mg base c.Cloth "column_at" 3 ["self","end"] (BW c)) (d_Cloth_ends:Bk P w K mg base c.Cloth "ends" 1 ["self"] (Cz c)):FnOk P w K mg base CX0 4 f fd ["cloth"] (Ct c):=by
  refine F.ok HS (λ vs H Q E h=> ?_) (λ cdv A outer s H vs Q E hr h=> ?_)
  · obtain ⟨x,n,rs,rfl,_⟩:=h;rfl
  · obtain ⟨x,n,rs,rfl,cx,ok,k⟩:=h;obtain ⟨dx,t,gx,_⟩:=id cx;have n2:=ok.n2;have p2:=ok.p2;refine ⟨_,(Af (Al (Av (CK rfl (T.own _ (by decide)) (Aa Ag (Aa (Ao Ba (A3 (pv 0) d_Cloth_ends (hr.mono (by decide))) Ag) Ab))) (λ _ _ _ _=>Ax) (λ _ _ _ _=>(J8 (pv 1) d_Cloth_column_at hr (Aa (pv 0) Ab)))))),?_⟩;walk_at "w";refine ⟨_,_,_,rfl,gx,rfl,?_⟩;walk_at "w";refine ⟨x,n,rs,rfl,cx,?_⟩;walk_at "w";refine ⟨_,_,rfl,⟨by decide,by decide,by omega,by omega⟩,λ D hD=> ?_⟩;rw [show (((n:Nat):Int)+1 - 1).toNat=n by omega];refine AN (G:=λ j=>((IT rs (j+1):Nat):Int)) (Ec rfl) hD (by omega) ?_ ?_
    · intro i H' R hi s kk;rw [show (1:Int)+((i:Nat):Int)=((i+1:Nat):Int) by omega];walk_at "w";refine ⟨_,_,_,rfl,s _ _ gx,rfl,?_⟩;walk_at "w";exact ⟨x,n,rs,i+1,rfl,cx.same s,p2,by omega,by omega,λ H3 s3=>kk H3 s3⟩
    · intro H' s hl;rw [IY] at hl;exact k H' D s hD hl
def kN (ms:List Nat):List Nat:=(kOf (ms.map λ n=>((n:Nat):Int))).map Int.toNat
theorem GG (ms:List Int):∀ k∈kOf ms,k∈ms/\k≠0:=by
  have key:∀ (l:List Int) (acc:List Int),(∀ k∈acc,k∈ms/\k≠0)->(∀ k∈l,k∈ms)->∀ k∈l.foldl BV acc,k∈ms/\k≠0:=λ l=>by
    induction l with
    | nil=>intro acc h _ k hk;exact h k hk
    | cons m l ih=>
      intro acc h hl k hk;refine ih (BV acc m) (λ j hj=> ?_) (λ j hj=>hl j (List.mem_cons_of_mem _ hj)) k hk;unfold BV at hj;split at hj
      · exact h j hj
      · rename_i hn
        rcases List.mem_append.mp hj with z | z
        · exact h j z
        · rw [List.mem_singleton.mp z];exact ⟨hl m List.mem_cons_self,λ q=>hn (by rw [q];exact List.mem_cons_self)⟩
  exact key ms [] (λ k hk=>by cases hk) (λ k hk=>hk)
theorem FR (ms:List Nat):(kN ms).map (λ n=>((n:Nat):Int))=kOf (ms.map λ n=>((n:Nat):Int)):=by
  unfold kN;rw [List.map_map]
  conv=>rhs;rw [<-List.map_id (kOf _)]
  refine List.map_congr_left λ k hk=> ?_;obtain ⟨n,_,rfl⟩:=List.mem_map.mp (GG _ k hk).1;show (((n:Int).toNat:Nat):Int)=_;rw [Int.toNat_natCast];rfl
theorem Cq {ms:List Nat} {k:Nat} (h:k∈kN ms):k∈ms/\k≠0:=by
  have h2:((k:Nat):Int)∈(kN ms).map (λ n=>((n:Nat):Int)):=List.mem_map.mpr ⟨k,h,rfl⟩;rw [FR] at h2;obtain ⟨h3,h4⟩:=GG _ _ h2;obtain ⟨n,hn,e⟩:=List.mem_map.mp h3;have:n=k:=by omega
  subst this;exact ⟨hn,λ q=>h4 (by rw [q];rfl)⟩
theorem G0 (ms:List Nat):(kN ms).length<=ms.length:=by
  unfold kN;rw [List.length_map];have:=JT (ms.map λ n=>((n:Nat):Int));rw [List.length_map] at this;exact this
def AJ (ms:List Nat):List Nat:=(kN ms).map λ k=>ms.idxOf k+1
def Df (K:PySem.W.Frag):Sp:=λ vs H Q _=>∃ (a:Addr) (ms:List Nat),vs=[.ref a]/\H a=some (.lst (ms.map nV))/\ms.length<=1000/\∀ H' p,Same H H'->H p=none->H' p=some (.lst ((AJ ms).map nV))->Q (.ref p) H'
theorem SC {ms:List Nat} {k j:Nat} (h:j<ms.length):((ms.map nV).map λ y=>eqV y (nV k))[j]?=some (decide (ms[j]=k)):=by
  rw [List.map_map,List.getElem?_map,List.getElem?_eq_getElem h];show some (decide ((ms[j]:Int)=(k:Int)))=_;exact congrArg some (decide_eq_decide.mpr Int.ofNat_inj)
abbrev BU:Stmt:=top 42
theorem Gj:FnScope ["masks"] ["masks"] (Ah BU):=⟨rfl,rfl,rfl,by decide +kernel,rfl,by decide +kernel,by decide +kernel⟩
theorem Gf {f:Addr} {fd:FuncData} (F:Fun K "first_places" "first_places" BU f fd) (T:Txt K mg c) (c_kinds_of:CallF P w K mg base "kinds_of" 2 ["masks"] (DJ K)):FnOk P w K mg base CX0 3 f fd ["masks"] (Df K):=by
  refine F.ok Gj (λ vs H Q E h=> ?_) (λ cdv A outer s H vs Q E hr h=> ?_)
  · obtain ⟨a,ms,rfl,_⟩:=h;rfl
  · obtain ⟨a,ms,rfl,ha,hl,k⟩:=h;refine ⟨_,(Af (Al (Av (A5 (K:=K) (Ae c_kinds_of hr (Aa (pv 0) Ab))) (λ _ _ _ _=>Ax) (λ _ _ _ _=>(Ao Ba (Mj (K:=K) PySem.F.plainAttrs_list PySem.F.slot_list_index PySem.F.type_list_index Pl (pv 1) (Aa (pv 0) Ab)) Ag))))),?_⟩;walk_at "w";refine ⟨false,a,ms.map λ n=>((n:Nat):Int),rfl,by rw [<-Dg];exact SqL.of ha,by rw [List.length_map];omega,λ H1 p s1 hp h1=> ?_⟩;rw [<-FR, <-Dg] at h1;walk_at "w";refine ⟨p,rfl,⟨_,SqL.of h1⟩,λ D hD=> ?_⟩;have kl:=G0 ms;refine AN (G:=λ i=>((ms.idxOf ((kN ms).getD i 0)+1:Nat):Int)) (AB (SqL.of h1) rfl) hD (by rw [List.length_map];omega) ?_ ?_
    · intro i H' R hi s kk;have hi':i<(kN ms).length:=by simpa using hi
      have hm0:(kN ms).getD i 0∈kN ms:=Au hi';have hm:=(Cq hm0).1;rw [Aq hi];generalize (kN ms).getD i 0=z at hm kk ⊢;have ga:=s _ _ (s1 _ _ ha);have hx:=List.idxOf_lt_length_of_mem hm;walk_at "w";refine tyL (SqL.of ga) ?_;walk_at "w";refine Nd (ms.idxOf z) ga rfl (by simp [A0]) ?_ ?_ ?_
      · rw [SC hx];simp
      · intro m hm2;have hm3:m<ms.length:=by omega
        rw [SC hm3];have h9:ms[m]≠z:=by
          have:=List.not_of_lt_findIdx (p:=(· == z)) (xs:=ms) (i:=m) hm2;simpa using this
        rw [decide_eq_false h9]
      · walk_at "w";rw [show ((ms.idxOf z:Nat):Int)+1=((ms.idxOf z+1:Nat):Int) by omega];exact kk H' (Same.refl _)
    · intro H' s hl2;rw [IY,List.length_map,Ar (λ k=>ms.idxOf k+1) (kN ms) 0] at hl2;exact k H' D (s1.trans s) (s1.free hD) hl2
def BK (c:Cs):Sp:=λ vs H Q _=>∃ x n rs,vs=[.ref x]/\ClAt c.Cloth H x n rs/\ClOk n rs/\∀ H' p a b,Same H H'->H p=none->H a=none->H b=none->a≠b->H' p=some (.tup [.ref a, .ref b])->H' a=some (.lst ((AJ (Ai n rs)).map nV))->H' b=some (.lst ((AJ rs).map nV))->Q (.ref p) H'
abbrev BS:Stmt:=top 43
theorem Gi:FnScope ["cloth"] ["cloth"] (Ah BS):=⟨rfl,rfl,rfl,by decide +kernel,rfl,by decide +kernel,by decide +kernel⟩
theorem Gr {f:Addr} {fd:FuncData} (F:Fun K "fewest_shown" "fewest_shown" BS f fd) (T:Txt K mg c) (c_columns_of:CallF P w K mg base "columns_of" 4 ["cloth"] (Ct c)) (c_first_places:CallF P w K mg base "first_places" 3 ["masks"] (Df K)):FnOk P w K mg base CX0 5 f fd ["cloth"] (BK c):=by
  refine F.ok Gi (λ vs H Q E h=> ?_) (λ cdv A outer s H vs Q E hr h=> ?_)
  · obtain ⟨x,n,rs,rfl,_⟩:=h;rfl
  · obtain ⟨x,n,rs,rfl,cx,ok,k⟩:=h;have n2:=ok.n2;have p2:=ok.p2;refine ⟨_,(Af (Al (AX (Aa (Ae c_first_places (hr.mono (by decide)) (Aa (Ae c_columns_of hr (Aa (pv 0) Ab)) Ab)) (Aa (Ae c_first_places (hr.mono (by decide)) (Aa (Ap (Ck (K:=K)) rfl (T.own _ (by decide)) AD (Aa (Bl (K:=K) (pv 0) rfl) Ab)) Ab)) Ab))))),?_⟩;walk_at "w";refine ⟨x,n,rs,rfl,cx,ok,λ H1 p s1 hp h1=> ?_⟩;walk_at "w";refine ⟨p,_,rfl,h1,by unfold Ai;simp;omega,λ H2 a s2 ha h2=> ?_⟩;have s12:=s1.trans s2;obtain ⟨dx,t,gx,gt⟩:=cx.same s12;walk_at "w";refine ⟨_,_,_,_,_,rfl,gx,T.kd_Cloth.cl,T.na_Cloth_rows,rfl,?_⟩;walk_at "w";refine Be (SqT.of gt) λ l hl=> ?_;have s3:=Ak (o:=HO.lst (rs.map nV)) hl;have gl:upd H2 l (HO.lst (rs.map nV)) l=_:=Ad;generalize upd H2 l (HO.lst (rs.map nV))=H3 at s3 gl ⊢;walk_at "w";refine ⟨l,rs,rfl,gl,by omega,λ H4 b s4 hb h4=> ?_⟩;have s14:=s12.trans (s3.trans s4);have ga:=s4 _ _ (s3 _ _ h2);have hb2:=s3.free hb;have nab:a≠b:=λ z=>by rw [z,hb2] at h2;cases h2
    walk_at "w";intro q hq;have s5:=Ak (o:=HO.tup [.ref a, .ref b]) hq;exact k _ q a b (s14.trans s5) (s14.free hq) (s1.free ha) (s12.free hb2) nab Ad (s5 _ _ ga) (s5 _ _ h4)
def Ey (c:Cs):Sp:=λ vs H Q _=>∃ (a:Addr) (z:Str) (m:Nat),vs=[.ref a, .str z,nV m]/\H a=some (xnO a c.TooMany none)/\z.length<1000/\m<1000/\
  ∀ dx H',H dx=none->(∀ b o,H b=some o->b≠a->H' b=some o)->H' a=some (xnO a c.TooMany (some dx))->H' dx=some (xdO dx [("what", .str z),("many",nV m)])->Q .non H'
theorem NH {n:Nat} (h:n<1000):((n:Nat):Int).natAbs.log2<1920:=by
  have:Nat.log2 n<=n:=Nat.log2_le_self n;show Nat.log2 n<1920;omega
abbrev Bf:Stmt:=AA (top 16) 0
theorem Ed:FnScope ["self","what","many"] ["self","what","many"] (Ah Bf):=⟨rfl,rfl,rfl,by decide +kernel,rfl,by decide +kernel,by decide +kernel⟩
theorem Ee {f:Addr} {fd:FuncData} (F:Fun K "__init__" "TooMany.__init__" Bf f fd) (T:Txt K mg c):FnOk P w K mg base CX0 1 f fd ["self","what","many"] (Ey c):=by
  refine F.ok Ed (λ vs H Q E h=> ?_) (λ cdv A outer s H vs Q E hr h=> ?_)
  · obtain ⟨a,r,m,rfl,_⟩:=h;rfl
  · obtain ⟨a,z,m,rfl,ha,hr1,hm1,k⟩:=h;refine ⟨_,(Ac (AL (OG (K:=K) T.g_LoomError T.xb_LoomError (Aa (pv 0) (Aa (Nq (Fj (N8 (pv 2)) (Fj AE (Fj (N8 (pv 1)) (Fj AE Q0))))) Ab))))
      (Ac (MK (K:=K) (pv 0) (pv 1) rfl)
      (Af (MK (K:=K) (pv 0) (pv 2) rfl)))),?_⟩
    walk_at "w";refine OZ ?_;walk_at "w";refine GF ?_;refine Py ?_;walk_at "w";have hl2:=MN.num_len (i:=((m:Nat):Int)) (by omega) (by omega);have h0:(Str.empty).length=0:=by decide +kernel
    have h2:(Str.ofString " ").length=1:=by decide +kernel
    have h3:(Str.ofString " are too many").length=13:=by decide +kernel
    refine .inl ⟨_,rfl,NH hm1,_,rfl,?_,?_⟩
    · rw [strLen_append];omega
    refine GF ?_;walk_at "w";refine ⟨_,rfl,?_,?_⟩
    · rw [strLen_append,strLen_append];omega
    refine GF ?_;refine Py ?_;walk_at "w";refine .inr ⟨_,rfl,by omega,_,rfl,?_,?_⟩
    · rw [strLen_append,strLen_append,strLen_append];omega
    refine GF ?_;walk_at "w";refine ⟨_,rfl,?_,?_⟩
    · rw [strLen_append,strLen_append,strLen_append,strLen_append];omega
    refine Ng ?_;walk_at "w";obtain ⟨fi,hfi⟩:=T.xj_TooMany;refine ⟨a,_,_,fi,_,rfl,ha,hfi,?_⟩;dsimp only;refine Pt ?_;refine Mx ?_;walk_at "w";refine ⟨a,_,_,rfl,ha,T.xs_TooMany,GT T.xf_TooMany_what, .inl ⟨rfl,λ dx hdx=> ?_⟩⟩;dsimp only;refine Mx ?_;walk_at "w";have nd:dx≠a:=λ z=>by rw [z,ha] at hdx;cases hdx
    refine ⟨a,_,_,rfl,Ad,T.xs_TooMany,GT T.xf_TooMany_many, .inr ⟨dx,_,rfl,by rw [Am nd,Ad],by show 1<1000;decide,?_⟩⟩;refine k dx _ hdx (λ b o e nb=> ?_) ?_ Ad
    · have n2:b≠dx:=λ z=>by rw [z,hdx] at e;cases e
      rw [Am n2,Am nb,Am n2];exact e
    · rw [Am (Ne.symm nd),Ad]
theorem Om {a b:Addr} {H:Hp} (h:b≠a):bar a H b=H b:=if_neg h
theorem KC {c:Cs} {H:Hp} {E:XK} {z:Str} {m:Nat} (hr:z.length<1000) (hm:m<1000) (h:∀ H' dx,Same H H'->H' dx=some (xdO dx [("what", .str z),("many",nV m)])->E (.ref c.TooMany) (some dx) H'):
    ([.str z,nV m]:List V).length<=900/\∀ a,H a=none->Ey c (.ref a::[.str z,nV m]) (upd H a (xnO a c.TooMany none)) (λ v H2=>v= .non/\∃ od,H2 a=some (xnO a c.TooMany od)/\E (.ref c.TooMany) od (bar a H2)) E0:=by
  refine ⟨by simp,λ a ha=>⟨a,z,m,rfl,Ad,hr,hm,λ dx H' hdx kp ea ed=>⟨rfl,some dx,ea,?_⟩⟩⟩;have nd:dx≠a:=λ z=>by rw [z,Ad] at hdx;cases hdx
  refine h _ dx (λ b o e=> ?_) ?_
  · have nb:b≠a:=λ z=>by rw [z,ha] at e;cases e
    rw [Om nb];exact kp b o (by rw [Am nb];exact e) nb
  · rw [Om nd];exact ed
def BM (c:Cs):Sp:=λ vs H Q E=>∃ (mo m:Nat) (z:Str),vs=[nV mo, .str z,nV m]/\z.length<1000/\m<1000/\(m<=mo->Q .non H)/\(mo<m->∀ H' dx,Same H H'->H' dx=some (xdO dx [("what", .str z),("many",nV m)])->E (.ref c.TooMany) (some dx) H')
abbrev BX:Stmt:=top 45
theorem Gs:FnScope ["most","what","many"] ["most","what","many"] (Ah BX):=⟨rfl,rfl,rfl,by decide +kernel,rfl,by decide +kernel,by decide +kernel⟩
theorem Gm {f:Addr} {fd:FuncData} (F:Fun K "need_at_most" "need_at_most" BX f fd) (T:Txt K mg c) (m_TooMany:LI P w K mg base "TooMany" c.TooMany 1 ["self","what","many"] (Ey c)):FnOk P w K mg base (CXE P w) 3 f fd ["most","what","many"] (BM c):=by
  refine Fun.okE F Gs (λ vs H Q E h=> ?_) (λ cdv A outer s H vs Q E hr h=> ?_)
  · obtain ⟨mo,m,z,rfl,_⟩:=h;rfl
  · obtain ⟨mo,m,z,rfl,hz,hm,k1,k2⟩:=h;refine ⟨_,(Af (Bc (As Hi (pv 2) (pv 0) (Aw _)) (Af (NW m_TooMany hr (Aa (pv 1) (Aa (pv 2) Ab)))) AK)),?_⟩;walk_at "w";refine Gg (λ h1=> ?_) (λ h1=> ?_)
    · refine Na ?_;walk_at "w";exact KC hz hm λ H' dx s g=>k2 (by omega) H' dx s g
    · walk_at "w";exact k1 (by omega)
def E6 (es:List Nat) (r:Nat):List Nat:=((List.range es.length).filter λ i=>r.testBit (es.getD i 0 - 1)).map (· + 1)
def Fy (c:Cs):Sp:=λ vs H Q _=>∃ x n rs,∃ (a:Addr) (es:List Nat) (p:Nat),vs=[.ref x, .ref a,nV p]/\ClAt c.Cloth H x n rs/\H a=some (.lst (es.map nV))/\es.length<=1000/\(∀ e∈es,1<=e/\e<=60)/\1<=p/\p<=rs.length/\∀ H' l,Same H H'->H l=none->H' l=some (.lst ((E6 es (rs.getD (p - 1) 0)).map nV))->Q (.ref l) H'
abbrev GQ:Stmt:=top 44
theorem NF:FnScope ["cloth","shown_ends","pick"] ["cloth","shown_ends","pick"] (Ah GQ):=⟨rfl,rfl,rfl,by decide +kernel,rfl,by decide +kernel,by decide +kernel⟩
theorem NG {f:Addr} {fd:FuncData} (F:Fun K "tie_at" "tie_at" GQ f fd) (T:Txt K mg c) (d_Cloth_is_up:Bk P w K mg base c.Cloth "is_up" 3 ["self","end","pick"] (Dv c)):FnOk P w K mg base CX0 4 f fd ["cloth","shown_ends","pick"] (Fy c):=by
  refine F.ok NF (λ vs H Q E h=> ?_) (λ cdv A outer s H vs Q E hr h=> ?_)
  · obtain ⟨x,n,rs,a,es,p,rfl,_⟩:=h;rfl
  · obtain ⟨x,n,rs,a,es,p,rfl,cx,ha,le,he,p1,p2,k⟩:=h;obtain ⟨dx,t,gx,_⟩:=id cx;refine ⟨_,(Af (Al (CJ (K:=K) (Fk (K:=K) rfl (T.own _ (by decide)) (Aa (pv 1) Ab)) (λ _ _ _ _=>(BC (Bb (J8 (pv 2) d_Cloth_is_up hr (Aa (pv 1) (Aa (pv 3) Ab)))))) (λ _ _ _ _=>(pv 0))))),?_⟩;walk_at "w";refine ⟨false,a,rfl,⟨_,SqL.of ha⟩,λ D hD=> ?_⟩;refine A1 (p:=λ i=>(rs.getD (p - 1) 0).testBit (es.getD i 0 - 1)) (G:=λ i=>((i+1:Nat):Int)) (Eb (tp:=false) (SqL.of ha) rfl rfl) hD (by rw [List.length_map];omega) ?_ ?_ ?_
    · intro i H' R hi s kk;have hi':i<es.length:=by simpa using hi
      have hm:es.getD i 0∈es:=Au hi';obtain ⟨e1,e2⟩:=he _ hm;rw [Aq hi];walk_at "w";refine ⟨_,_,_,rfl,s _ _ gx,rfl,?_⟩;walk_at "w";exact ⟨x,n,rs,es.getD i 0,p,rfl,cx.same s,e1,by omega,p1,p2,⟨_,rfl,kk H' (Same.refl _)⟩⟩
    · intro i H' R hi hp s kk;walk_at "w";exact kk H' (Same.refl _)
    · intro H' s hl2;have e:((((List.range (es.map nV).length).filter λ i=>(rs.getD (p - 1) 0).testBit (es.getD i 0 - 1)).map λ i=>((i+1:Nat):Int)).map V.int)=(E6 es (rs.getD (p - 1) 0)).map nV:=by
        unfold E6;rw [List.length_map,List.map_map,List.map_map];rfl
      rw [e] at hl2;exact k H' D s hD hl2
theorem NL (ms:List Int):(0::kOf ms).Nodup:=by
  have key:∀ (l acc:List Int),(0::acc).Nodup->(0::l.foldl BV acc).Nodup:=λ l=>by
    induction l with
    | nil=>intro acc h;exact h
    | cons m l ih=>
      intro acc h;refine ih _ ?_;unfold BV;split
      · exact h
      · rename_i hn
        have e:(0::(acc++[m]))=(0::acc)++[m]:=rfl;rw [e,List.nodup_append];refine ⟨h,by simp,λ a ha b hb q=>hn ?_⟩;rw [List.mem_singleton] at hb;rw [<-hb, <-q];exact ha
  exact key ms [] (by simp)
theorem He (ms:List Nat):(0::kN ms).Nodup:=by
  have h:=NL (ms.map λ n=>((n:Nat):Int));rw [<-FR] at h;have e:(0:Int)::(kN ms).map (λ n=>((n:Nat):Int))=(0::kN ms).map λ n=>((n:Nat):Int):=rfl;rw [e] at h;unfold List.Nodup at h ⊢;rw [List.pairwise_map] at h;exact h.imp λ q z=>q (by rw [z])
theorem OX {ms:List Nat} {m:Nat} (h:m∈ms):m∈(0::kN ms):=by
  have h2:=JK (ms.map λ n=>((n:Nat):Int)) ((m:Nat):Int) (List.mem_map.mpr ⟨m,h,rfl⟩);rw [<-FR] at h2;rcases List.mem_cons.mp h2 with z | z
  · rw [show m=0 by omega];exact List.mem_cons_self
  · obtain ⟨k,hk,e⟩:=List.mem_map.mp z;rw [show m=k by omega];exact List.mem_cons_of_mem _ hk
def AG (ms:List Nat):List Nat:=ms.map λ m=>(0::kN ms).idxOf m
theorem QN (l:List Nat) (m:Nat):(l.map λ n=>((n:Nat):Int)).idxOf ((m:Nat):Int)=l.idxOf m:=by
  induction l with
  | nil=>rfl
  | cons a l ih=>
    rw [List.map_cons,List.idxOf_cons,List.idxOf_cons,ih];have e:((((a:Nat):Int)) == ((m:Nat):Int))=(a == m):=by
      rw [Bool.eq_iff_iff,beq_iff_eq,beq_iff_eq];exact Int.ofNat_inj
    rw [e]
theorem Kg (ms:List Nat):((ms.map λ n=>((n:Nat):Int)).map λ m=>(((0::kOf (ms.map λ n=>((n:Nat):Int))).idxOf m:Nat):Int)).map V.int=(AG ms).map nV:=by
  unfold AG;rw [List.map_map,List.map_map,List.map_map];refine List.map_congr_left λ m _=> ?_;show V.int (((0::kOf (ms.map λ n=>((n:Nat):Int))).idxOf ((m:Nat):Int):Nat):Int)=V.int (((0::kN ms).idxOf m:Nat):Int);rw [<-FR];have e:(0:Int)::(kN ms).map (λ n=>((n:Nat):Int))=(0::kN ms).map λ n=>((n:Nat):Int):=rfl;rw [e,QN]
theorem GA {ms:List Nat}:∀ t∈AG ms,t<=(kN ms).length:=λ t ht=>by
  obtain ⟨m,hm,rfl⟩:=List.mem_map.mp ht;have:=List.idxOf_lt_length_of_mem (OX hm);rw [List.length_cons] at this;omega
theorem Tl {ms:List Nat} {j:Nat} (h:j<(kN ms).length):(0::kN ms).idxOf (kN ms)[j]=j+1:=by
  have:=List.Nodup.idxOf_getElem (He ms) (j+1) (by rw [List.length_cons];omega);simpa using this
theorem O2 {ms:List Nat} (h:0<(kN ms).length):(kN ms).length∈AG ms:=by
  have hm:(kN ms)[(kN ms).length - 1]'(by omega)∈kN ms:=List.getElem_mem _;refine List.mem_map.mpr ⟨_,(Cq hm).1,?_⟩;rw [Tl (by omega)];omega
theorem RI {ms:List Nat} {M:Int} (h1:M∈(AG ms).map (λ n=>((n:Nat):Int))) (h2:∀ a∈(AG ms).map (λ n=>((n:Nat):Int)),a<=M):M=((kN ms).length:Nat):=by
  obtain ⟨t,ht,rfl⟩:=List.mem_map.mp h1;have l1:=GA t ht;rcases Nat.eq_zero_or_pos (kN ms).length with z | z
  · omega
  · have:=h2 _ (List.mem_map.mpr ⟨_,O2 z,rfl⟩);omega
def up1 (n:Nat):Nat:=if n=0 then 1 else n
def Dj (n:Nat) (rs:List Nat):List (List Nat):=(AJ rs).map λ p=>E6 (AJ (Ai n rs)) (rs.getD (p - 1) 0)
def tiF (ti:List (List Nat)):List (List Nat):=if ti=[] then [[]] else ti
def DP (t:Nat):List Nat:=if 0<t then [t] else []
def drF (n:Nat) (rs:List Nat) (ti td:List (List Nat)):Dr:=⟨up1 (kN (Ai n rs)).length,(tiF ti).length,AG (Ai n rs),tiF ti,td,List.replicate n "a",List.replicate rs.length "b"⟩
def rdD (n:Nat) (rs:List Nat):Dr:=drF n rs (Dj n rs) ((AG rs).map DP)
theorem CW (p:Nat->Bool):∀ w,Rise w (((List.range w).filter p).map (· + 1)):=by
  intro w;have key:∀ w,(∀ n∈((List.range w).filter p).map (· + 1),1<=n/\n<=w)/\(((List.range w).filter p).map (· + 1)).Pairwise (· < ·):=by
    intro w;refine ⟨λ n hn=> ?_,?_⟩
    · obtain ⟨k,hk,rfl⟩:=List.mem_map.mp hn;have:=List.mem_range.mp (List.mem_filter.mp hk).1;omega
    · rw [List.pairwise_map];exact ((List.pairwise_lt_range).filter p).imp (λ h=>Nat.succ_lt_succ h)
  obtain ⟨k1,k2⟩:=key w;generalize ((List.range w).filter p).map (· + 1)=ns at k1 k2;intro i hi;have e:ns.getD i 0=ns[i]:=by simp [List.getD_eq_getElem?_getD,hi]
  have m1:=k1 _ (List.getElem_mem hi);rw [e];refine ⟨?_,m1.2⟩;cases i with
  | zero=>simpa using m1.1
  | succ i=>
    have e2:(0::ns).getD (i+1) 0=ns[i]:=by
      show ns.getD i 0=ns[i];simp [List.getD_eq_getElem?_getD,(show i<ns.length by omega)]
    rw [e2];exact (List.pairwise_iff_getElem.mp k2) i (i+1) (by omega) hi (by omega)
theorem Rise.mono {m m':Nat} {ns:List Nat} (h:Rise m ns) (l:m<=m'):Rise m' ns:=λ i hi=>⟨(h i hi).1,Nat.le_trans (h i hi).2 l⟩
theorem Bg (ms:List Nat):(AJ ms).length=(kN ms).length:=by unfold AJ;rw [List.length_map]
theorem FP {ms:List Nat} {p:Nat} (h:p∈AJ ms):1<=p/\p<=ms.length:=by
  obtain ⟨k,hk,rfl⟩:=List.mem_map.mp h;have:=List.idxOf_lt_length_of_mem (Cq hk).1;omega
theorem CD (n:Nat):n<=up1 n/\1<=up1 n:=by unfold up1;split <;> omega
theorem EJ {n m:Nat} (h:n<=m) (h1:1<=m):up1 n<=m:=by unfold up1;split <;> omega
theorem Ji (n:Nat) (rs:List Nat):(tiF (Dj n rs)).length=up1 (kN rs).length:=by
  unfold tiF up1;have e:(Dj n rs).length=(kN rs).length:=by unfold Dj;rw [List.length_map,Bg]
  by_cases z:Dj n rs=[]
  · rw [if_pos z,if_pos (by rw [<-e,z];rfl)];rfl
  · rw [if_neg z,if_neg (λ q=>z (List.length_eq_zero_iff.mp (by omega))),e]
theorem Uv:F6 "a":=by unfold F6;decide +kernel
theorem V0:F6 "b":=by unfold F6;decide +kernel
theorem Wb {n:Nat} {rs:List Nat} (ok:ClOk n rs) (h1:(kN (Ai n rs)).length<=16) (h2:(kN rs).length<=16):DrOk (rdD n rs) where
  s1:=(CD _).2
  s2:=EJ h1 (by decide)
  t1:=by show 1<=(tiF (Dj n rs)).length;rw [Ji];exact (CD _).2
  t2:=by show (tiF (Dj n rs)).length<=16;rw [Ji];exact EJ h2 (by decide)
  h1:=by show 1<=(AG (Ai n rs)).length;unfold AG Ai;simpa using ok.n1
  h2:=by show (AG (Ai n rs)).length<=60;unfold AG Ai;simpa using ok.n2
  hs:=λ t ht=>Nat.le_trans (GA t ht) (CD _).1
  il:=rfl
  ir:=λ l hl=>by
    have hl:l∈tiF (Dj n rs):=hl;unfold tiF at hl;split at hl
    · rw [List.mem_singleton.mp hl];intro i hi;cases hi
    · obtain ⟨p,_,rfl⟩:=List.mem_map.mp hl;unfold E6;exact (CW _ _).mono (by rw [Bg];exact (CD _).1)
  p1:=by show 1<=((AG rs).map DP).length;unfold AG;simpa using ok.p1
  p2:=by show ((AG rs).map DP).length<=60;unfold AG;simpa using ok.p2
  pr:=λ l hl=>by
    obtain ⟨t,ht,rfl⟩:=List.mem_map.mp hl;have t1:=GA t ht;unfold DP;show Rise (tiF (Dj n rs)).length _;rw [Ji];split
    · intro i hi;have:i=0:=by simpa using hi
      subst this;refine ⟨?_,Nat.le_trans t1 (CD _).1⟩;show 0+1<=t;omega
    · intro i hi;cases hi
  wl:=by show (List.replicate n _).length=(AG (Ai n rs)).length;unfold AG Ai;simp
  wc:=λ z hz=>by rw [List.eq_of_mem_replicate hz];exact Uv
  fl:=by show (List.replicate rs.length _).length=((AG rs).map DP).length;unfold AG;simp
  fc:=λ z hz=>by rw [List.eq_of_mem_replicate hz];exact V0
def C4 (c:Cs):Sp:=λ vs H Q _=>∃ x n rs,∃ (u v:V) (ti td:List (List Nat)),vs=[.ref x,u,v]/\ClAt c.Cloth H x n rs/\ClOk n rs/\Rp H FT 2 u (dLL ti)/\Rp H FT 2 v (dLL td)/\DrOk (drF n rs ti td)/\∀ H' y,Same H H'->H y=none->DrAt c.Draft H' y (drF n rs ti td)->Q (.ref y) H'
abbrev DC:Stmt:=top 46
theorem sc_draft_for:FnScope ["cloth","ties","treading","threading","told","warp","weft"] ["cloth","ties","treading"] (Ah DC):=⟨rfl,rfl,rfl,by decide +kernel,rfl,by decide +kernel,by decide +kernel⟩
theorem JC {f:Addr} {fd:FuncData} (F:Fun K "draft_for" "draft_for" DC f fd) (T:Txt K mg c) (c_kind_numbers:CallF P w K mg base "kind_numbers" 2 ["masks"] (BJ K)) (c_columns_of:CallF P w K mg base "columns_of" 4 ["cloth"] (Ct c)) (d_Cloth_ends:Bk P w K mg base c.Cloth "ends" 1 ["self"] (Cz c)) (d_Cloth_picks:Bk P w K mg base c.Cloth "picks" 1 ["self"] (B4 c)) (m_Draft:Pw P w K mg base "Draft" c.Draft 6 ["self","shafts","treadles","threading","ties","treading","warp","weft"] (Bs c)):FnOk P w K mg base CX0 8 f fd ["cloth","ties","treading"] (C4 c):=by
  refine F.ok sc_draft_for (λ vs H Q E h=> ?_) (λ cdv A outer s H vs Q E hr h=> ?_)
  · obtain ⟨x,n,rs,u,v,ti,td,rfl,_⟩:=h;rfl
  · obtain ⟨x,n,rs,u,v,ti,td,rfl,cx,ok,r1,r2,okd,k⟩:=h;have n2:=ok.n2;have n1:=ok.n1;have p2:=ok.p2;refine ⟨_,(Ac (An (i:=3) sc_draft_for.nd rfl (Or.inl rfl) (Ae c_kind_numbers (hr.mono (by decide)) (Aa (Ae c_columns_of (hr.mono (by decide)) (Aa (pv 0) Ab)) Ab)))
      (Ac (An (i:=4) sc_draft_for.nd rfl (Or.inl rfl) (Fb (As Hi (Aj (AZ (K:=K)) rfl (T.own _ (by decide)) boot_len (Aa (pv 1) Ab)) Ag (Aw _)) (pv 1) (AI (Aa (AI Ab) Ab))))
      (Ac (An (i:=5) sc_draft_for.nd rfl (Or.inl rfl) (Ao EO (AI (Aa (Pg T.k_WARP_COLOUR) Ab)) (A3 (pv 0) d_Cloth_ends (hr.mono (by decide)))))
      (Ac (An (i:=6) sc_draft_for.nd rfl (Or.inl rfl) (Ao EO (AI (Aa (Pg T.k_WEFT_COLOUR) Ab)) (A3 (pv 0) d_Cloth_picks (hr.mono (by decide)))))
      (Af (Al (Ql m_Draft hr (Aa (Aj JM rfl (T.own _ (by decide)) CI (Aa Ag (Aa (Aj (SX (K:=K)) rfl (T.own _ (by decide)) CI (Aa (pv 3) Ab)) Ab))) (Aa (Aj (AZ (K:=K)) rfl (T.own _ (by decide)) boot_len (Aa (pv 4) Ab)) (Aa (pv 3) (Aa (pv 4) (Aa (pv 2) (Aa (pv 5) (Aa (pv 6) Ab)))))))))))))),?_⟩
    walk_at "w";refine ⟨x,n,rs,rfl,cx,ok,λ H1 p s1 hp h1=> ?_⟩;walk_at "w";refine ⟨false,p,(Ai n rs).map λ n=>((n:Nat):Int),rfl,by rw [<-Dg];exact SqL.of h1,by unfold Ai;simp;omega,λ H2 q s2 hq h2=> ?_⟩;rw [Kg] at h2;have s12:=s1.trans s2;obtain ⟨au,us,rfl,gu,lu,_,_⟩:=Mb r1;have gu2:=s12 _ _ gu;walk_at "w";refine AC (SqL.of gu2) ?_;walk_at "w";refine ifE (λ v H'=>Same H2 H'/\Rp H' FT 2 v (dLL (tiF ti))) ?_ (λ R' key=> ?_);rotate_left
    · refine Gg (λ h0=> ?_) (λ h0=> ?_)
      · walk_at "w";refine key _ _ ⟨Same.refl _,?_⟩;have e:tiF ti=ti:=if_neg (λ z=>by rw [z] at lu;rw [lu] at h0;exact absurd h0 (by decide));rw [e];exact r1.same s12
      · have e:ti=[]:=List.length_eq_zero_iff.mp (by omega);walk_at "w";intro l hl;have z1:=Ak (o:=HO.lst []) hl;have gl:upd H2 l (HO.lst []) l=some (.lst (([]:List Nat).map nV)):=Ad;generalize upd H2 l (HO.lst [])=H3 at z1 gl ⊢;walk_at "w";intro l2 hl2;have z2:=Ak (o:=HO.lst [.ref l]) hl2;refine key _ _ ⟨z1.trans z2,?_⟩;rw [e];refine .lst Ad trivial (by show 1<=100000;decide) rfl λ i y d hy hd=> ?_
        match i,hy,hd with
        | 0,hy,hd=>cases hy;cases hd;exact Dm (z2 _ _ gl) trivial (by decide)
        | i+1,hy,_=>cases hy
    rintro v4 H3 ⟨s3,r3⟩;obtain ⟨a4,us4,rfl,g4,l4,_,_⟩:=Mb r3;have s13:=s12.trans s3;have cx3:=cx.same s13;obtain ⟨dx,t,gx,_⟩:=id cx3;walk_at "w";intro l1 hl1;have z1:=Ak (o:=HO.lst [V.str "a"]) hl1;have gl1:upd H3 l1 (HO.lst [V.str "a"]) l1=_:=Ad;generalize upd H3 l1 (HO.lst [V.str "a"])=H4 at z1 gl1 ⊢;walk_at "w";refine ⟨_,_,_,rfl,z1 _ _ gx,rfl,?_⟩;walk_at "w";refine ⟨x,n,rs,rfl,cx3.same z1,?_⟩;walk_at "w";refine EV gl1 (by omega) (by omega) (by simp) λ l2 hl2=> ?_;rw [show (List.replicate ((n:Nat):Int).toNat [V.str "a"]).flatten=(List.replicate n (Str.ofString "a")).map V.str by
      rw [Int.toNat_natCast,List.map_replicate];simp]
    have z2:=Ak (o:=HO.lst ((List.replicate n (Str.ofString "a")).map V.str)) hl2;have gl2:upd H4 l2 (HO.lst ((List.replicate n (Str.ofString "a")).map V.str)) l2=_:=Ad;generalize upd H4 l2 (HO.lst ((List.replicate n (Str.ofString "a")).map V.str))=H5 at z2 gl2 ⊢;have z12:=z1.trans z2;walk_at "w";intro l3 hl3;have z3:=Ak (o:=HO.lst [V.str "b"]) hl3;have gl3:upd H5 l3 (HO.lst [V.str "b"]) l3=_:=Ad;generalize upd H5 l3 (HO.lst [V.str "b"])=H6 at z3 gl3 ⊢;have z13:=z12.trans z3;walk_at "w";refine ⟨_,_,_,rfl,z13 _ _ gx,rfl,?_⟩;walk_at "w";refine ⟨x,n,rs,rfl,cx3.same z13,?_⟩;walk_at "w";refine EV gl3 (by omega) (by omega) (by simp) λ l5 hl5=> ?_;rw [show (List.replicate ((rs.length:Nat):Int).toNat [V.str "b"]).flatten=(List.replicate rs.length (Str.ofString "b")).map V.str by
      rw [Int.toNat_natCast,List.map_replicate];simp]
    have z4:=Ak (o:=HO.lst ((List.replicate rs.length (Str.ofString "b")).map V.str)) hl5;have gl5:upd H6 l5 (HO.lst ((List.replicate rs.length (Str.ofString "b")).map V.str)) l5=_:=Ad;generalize upd H6 l5 (HO.lst ((List.replicate rs.length (Str.ofString "b")).map V.str))=H7 at z4 gl5 ⊢;have z14:=z13.trans z4;have g2:=z14 _ _ (s3 _ _ h2);walk_at "w";refine Q4 (ns:=(AG (Ai n rs)).map λ n=>((n:Nat):Int)) (by rw [<-Dg];exact SqL.of g2) ?_ λ M m1 m2=> ?_
    · unfold AG Ai;intro z;have:=congrArg List.length z;simp at this;omega
    rw [RI m1 m2];walk_at "w";have eM:(if (((kN (Ai n rs)).length:Nat):Int)>1 then (((kN (Ai n rs)).length:Nat):Int) else 1)=((up1 (kN (Ai n rs)).length:Nat):Int):=by
      unfold up1;split <;> split <;> omega
    rw [eM];refine AC (SqL.of (z14 _ _ g4)) ?_;walk_at "w";rw [l4];refine QK (d:=drF n rs ti td) ⟨_,_,_,_,_,rfl,g2,r3.same z14,r2.same (s13.trans z14),(z3.trans z4) _ _ gl2,gl5⟩ okd λ H8 y s8 hy D=>k H8 y (s13.trans (z14.trans s8)) ((s13.trans z14).free hy) D
def Gc (c:Cs):Sp:=λ vs H Q E=>∃ x n rs,vs=[.ref x]/\ClAt c.Cloth H x n rs/\ClOk n rs/\
  ((kN (Ai n rs)).length<=16->(kN rs).length<=16->∀ H' y,Same H H'->H y=none->DrAt c.Draft H' y (rdD n rs)->Q (.ref y) H')/\
  (16<(kN (Ai n rs)).length->∀ H' dx,Same H H'->H' dx=some (xdO dx [("what", .str "shafts"),("many",nV (kN (Ai n rs)).length)])->E (.ref c.TooMany) (some dx) H')/\
  ((kN (Ai n rs)).length<=16->16<(kN rs).length->∀ H' dx,Same H H'->H' dx=some (xdO dx [("what", .str "treadles"),("many",nV (kN rs).length)])->E (.ref c.TooMany) (some dx) H')
abbrev ED:Stmt:=top 47
theorem sc_read_off:FnScope ["cloth","shown","ties","treading"] ["cloth"] (Ah ED):=⟨rfl,rfl,rfl,by decide +kernel,rfl,by decide +kernel,by decide +kernel⟩
theorem Kd {f:Addr} {fd:FuncData} (F:Fun K "read_off" "read_off" ED f fd) (T:Txt K mg c) (c_fewest_shown:CallF P w K mg base "fewest_shown" 5 ["cloth"] (BK c)) (c_need_at_most:CallE P w K mg base "need_at_most" 3 ["most","what","many"] (BM c)) (c_tie_at:CallF P w K mg base "tie_at" 4 ["cloth","shown_ends","pick"] (Fy c)) (c_kind_numbers:CallF P w K mg base "kind_numbers" 2 ["masks"] (BJ K)) (c_draft_for:CallF P w K mg base "draft_for" 8 ["cloth","ties","treading"] (C4 c)):FnOk P w K mg base (CXE P w) 9 f fd ["cloth"] (Gc c):=by
  refine Fun.okE F sc_read_off (λ vs H Q E h=> ?_) (λ cdv A outer s H vs Q E hr h=> ?_)
  · obtain ⟨x,n,rs,rfl,_⟩:=h;rfl
  · obtain ⟨x,n,rs,rfl,cx,ok,kq,ke1,ke2⟩:=h;have n2:=ok.n2;have p2:=ok.p2;have lc:(Ai n rs).length=n:=by unfold Ai;simp
    have l1:=G0 (Ai n rs);have l2:=G0 rs;have f1:=Bg (Ai n rs);have f2:=Bg rs;refine ⟨_,(Ac (An (i:=1) sc_read_off.nd rfl (Or.inr rfl) (Ae c_fewest_shown (hr.mono (by decide)) (Aa (pv 0) Ab)))
      (Ac (AL (Dp c_need_at_most (hr.mono (by decide)) My (Aa (Fw T.k_MOST_SHAFTS) (Aa AE (Aa (Aj (AZ (K:=K)) rfl (T.own _ (by decide)) boot_len (Aa (Bi (Ca (K:=K)) (pv 1) Ag (λ _ _=>rfl)) Ab)) Ab)))))
      (Ac (AL (Dp c_need_at_most (hr.mono (by decide)) My (Aa (Fw T.k_MOST_TREADLES) (Aa AE (Aa (Aj (AZ (K:=K)) rfl (T.own _ (by decide)) boot_len (Aa (Bi (Ca (K:=K)) (pv 1) Ag (λ _ _=>rfl)) Ab)) Ab)))))
      (Ac (B5 (i:=2) sc_read_off.nd rfl (Or.inl rfl) (A5 (K:=K) (Bi (Ca (K:=K)) (pv 1) Ag (λ _ _=>rfl))) (λ _ _ _ _=>Ax) (λ _ _ _ _=>(Ae c_tie_at (hr.mono (by decide)) (Aa (pv 1) (Aa (Bi (Ca (K:=K)) (pv 2) Ag (λ _ _=>rfl)) (Aa (pv 0) Ab))))))
      (Ac (B5 (i:=3) sc_read_off.nd rfl (Or.inl rfl) (A5 (K:=K) (Ae c_kind_numbers (hr.mono (by decide)) (Aa (Bl (K:=K) (pv 0) rfl) Ab))) (λ _ _ _ _=>Ax) (λ _ _ _ _=>(Fb (As Hi (pv 0) Ag (Aw _)) (AI (Aa (pv 0) Ab)) (AI Ab))))
      (Af (Al (Ae c_draft_for hr (Aa (pv 0) (Aa (pv 2) (Aa (pv 3) Ab))))))))))),?_⟩
    walk_at "w";refine ⟨x,n,rs,rfl,cx,ok,λ H1 p a b s1 hp ha hb nab gp ga gb=> ?_⟩;walk_at "w";refine Bh (SqT.of gp) rfl ?_;walk_at "w";refine AC (SqL.of ga) ?_;walk_at "w";rw [List.length_map,f1];refine ⟨16,_,"shafts",rfl,by decide +kernel,by omega,λ hs=> ?_,λ hs H' dx s g=>ke1 hs H' dx (s1.trans s) g⟩;walk_at "w";refine Bh (SqT.of gp) rfl ?_;walk_at "w";refine AC (SqL.of gb) ?_;walk_at "w";rw [List.length_map,f2];refine ⟨16,_,"treadles",rfl,by decide +kernel,by omega,λ ht=> ?_,λ ht H' dx s g=>ke2 hs ht H' dx (s1.trans s) g⟩;walk_at "w";refine Bh (SqT.of gp) rfl ?_;walk_at "w";refine ⟨b,rfl,⟨_,SqL.of gb⟩,λ D hD=> ?_⟩;refine A7 (m:=1) (G:=λ i=>dL (E6 (AJ (Ai n rs)) (rs.getD ((AJ rs).getD i 0 - 1) 0))) (AB (SqL.of gb) rfl) hD (by rw [List.length_map];omega) ?_ ?_
    · intro i H' R hi s kk;have hi':i<(AJ rs).length:=by simpa using hi
      have hm:(AJ rs).getD i 0∈AJ rs:=Au hi';obtain ⟨q1,q2⟩:=FP hm;rw [Aq hi];walk_at "w";refine Bh (SqT.of (s _ _ gp)) rfl ?_;walk_at "w";refine ⟨x,n,rs,a,AJ (Ai n rs),_,rfl,cx.same (s1.trans s),s _ _ ga,by omega,λ e he=> ?_,q1,q2,λ H3 l s3 hl gl=> ?_⟩
      · obtain ⟨e1,e2⟩:=FP he;omega
      · refine kk H3 _ s3 (Dm gl hl ?_);unfold E6;rw [List.length_map];exact Nat.le_trans (List.length_filter_le _ _) (by rw [List.length_range];omega)
    intro H2 ys s2 gD rD;have e1:(List.range ((AJ rs).map nV).length).map (λ i=>dL (E6 (AJ (Ai n rs)) (rs.getD ((AJ rs).getD i 0 - 1) 0)))=(Dj n rs).map dL:=by
      unfold Dj;rw [List.length_map,List.map_map];exact Ar (λ p=>dL (E6 (AJ (Ai n rs)) (rs.getD (p - 1) 0))) (AJ rs) 0
    rw [e1] at rD;have s12:=s1.trans s2;obtain ⟨dx,t,gx,gt⟩:=cx.same s12;walk_at "w";refine ⟨_,_,_,_,_,rfl,gx,T.kd_Cloth.cl,T.na_Cloth_rows,rfl,?_⟩;walk_at "w";refine ⟨true,t,rs.map λ n=>((n:Nat):Int),rfl,by rw [<-Dg];exact SqT.of gt,by rw [List.length_map];omega,λ H3 q s3 hq gq=> ?_⟩;rw [Kg] at gq;have ln:(AG rs).length=rs.length:=by unfold AG;simp
    walk_at "w";refine ⟨q,rfl,⟨_,SqL.of gq⟩,λ D2 hD2=> ?_⟩;refine A7 (m:=1) (G:=λ i=>dL (DP ((AG rs).getD i 0))) (AB (SqL.of gq) rfl) hD2 (by rw [List.length_map];omega) ?_ ?_
    · intro i H' R hi s kk;rw [Aq hi];generalize (AG rs).getD i 0=z at kk ⊢;walk_at "w";unfold DP at kk;refine Gg (λ h0=> ?_) (λ h0=> ?_)
      · rw [if_pos (by omega)] at kk;walk_at "w";intro l hl;exact kk _ _ (Ak hl) (Dm (ns:=[z]) Ad hl (by show 1<=100000;decide))
      · rw [if_neg (by omega)] at kk;walk_at "w";intro l hl;exact kk _ _ (Ak hl) (Dm (ns:=[]) Ad hl (by decide))
    intro H4 ys4 s4 gD4 rD4;have e2:(List.range ((AG rs).map nV).length).map (λ i=>dL (DP ((AG rs).getD i 0)))=((AG rs).map DP).map dL:=by
      rw [List.length_map,List.map_map];exact Ar (λ t=>dL (DP t)) (AG rs) 0
    rw [e2] at rD4;walk_at "w";have s34:=s3.trans s4;refine ⟨x,n,rs,_,_,Dj n rs,(AG rs).map DP,rfl,cx.same (s12.trans s34),ok,(rD.any).same s34,rD4.any,Wb ok hs ht,λ H5 y s5 hy D5=> ?_⟩;exact kq hs ht H5 y (s12.trans (s34.trans s5)) ((s12.trans s34).free hy) D5
structure KindF (K:PySem.W.Frag) (c:Cs) (C:Addr) (j:Nat):Prop where
  lt:j<8
  xk:HT.ExcKind K C
  k0:PySem.W.kitOne K (.ref C) (.ref c.BadRow)=some (decide (j=0))
  k1:PySem.W.kitOne K (.ref C) (.ref c.BadWord)=some (decide (j=1))
  k2:PySem.W.kitOne K (.ref C) (.ref c.TooMany)=some (decide (j=2))
  k3:PySem.W.kitOne K (.ref C) (.ref c.NotPlain)=some (decide (j=3))
  k4:PySem.W.kitOne K (.ref C) (.ref c.NotGrown)=some (decide (j=4))
  k5:PySem.W.kitOne K (.ref C) (.ref c.BadDraft)=some (decide (j=5))
  k6:PySem.W.kitOne K (.ref C) (.ref c.BadCloth)=some (decide (j=6))
  k7:PySem.W.kitOne K (.ref C) (.ref c.OutOfPlace)=some (decide (j=7))
  kv:PySem.W.kitOne K (.ref C) (.type "ValueError")=some true
noncomputable def nmK (j:Nat):Str:=[("row":Str),("word":Str),("many":Str),("plain":Str),("grown":Str),("draft":Str),("cloth":Str),("place":Str),("other":Str)].getD j ""
def Ej (K:PySem.W.Frag) (c:Cs):Sp:=λ vs H Q _=>∃ a C od j,vs=[.ref a]/\H a=some (EB a C od)/\KindF K c C j/\∀ H' l,Same H H'->H l=none->H' l=some (.lst [.str (nmK j)])->Q (.ref l) H'
theorem SN (j:Nat) (h:j<8):((List.range 9).filter λ i=>decide (i=j)).map (λ i=>Dt.str (nmK i))=[nmK j].map Dt.str:=by
  match j,h with
  | 0,_=>rfl
  | 1,_=>rfl
  | 2,_=>rfl
  | 3,_=>rfl
  | 4,_=>rfl
  | 5,_=>rfl
  | 6,_=>rfl
  | 7,_=>rfl
abbrev CV:Stmt:=top 68
theorem sc__law_kinds:FnScope ["_law_error","_law_kinds_here"] ["_law_error"] (Ah CV):=⟨rfl,rfl,rfl,by decide +kernel,rfl,by decide +kernel,by decide +kernel⟩
theorem Ie {f:Addr} {fd:FuncData} (F:Fun K "_law_kinds" "_law_kinds" CV f fd) (T:Txt K mg c):FnOk P w K mg base CX0 1 f fd ["_law_error"] (Ej K c):=by
  refine F.ok sc__law_kinds (λ vs H Q E h=> ?_) (λ cdv A outer s H vs Q E hr h=> ?_)
  · obtain ⟨a,C,od,j,rfl,_⟩:=h;rfl
  · obtain ⟨a,C,od,j,rfl,ha,F1,k⟩:=h;refine ⟨_,(Ac (An (i:=1) sc__law_kinds.nd rfl (Or.inl rfl) (AI (Aa (AX (Aa AE (Aa (Aj (BP (K:=K)) rfl (T.own _ (by decide)) boot_isinstance (Aa (pv 0) (Aa (F3 T.g_BadRow) Ab))) Ab))) (Aa (AX (Aa AE (Aa (Aj (BP (K:=K)) rfl (T.own _ (by decide)) boot_isinstance (Aa (pv 0) (Aa (F3 T.g_BadWord) Ab))) Ab))) Ab))))
      (Ac (An (i:=1) sc__law_kinds.nd rfl (Or.inl rfl) (Ao (GX (K:=K)) (pv 1) (AI (Aa (AX (Aa AE (Aa (Aj (BP (K:=K)) rfl (T.own _ (by decide)) boot_isinstance (Aa (pv 0) (Aa (F3 T.g_TooMany) Ab))) Ab))) (Aa (AX (Aa AE (Aa (Aj (BP (K:=K)) rfl (T.own _ (by decide)) boot_isinstance (Aa (pv 0) (Aa (F3 T.g_NotPlain) Ab))) Ab))) Ab)))))
      (Ac (An (i:=1) sc__law_kinds.nd rfl (Or.inl rfl) (Ao (GX (K:=K)) (pv 1) (AI (Aa (AX (Aa AE (Aa (Aj (BP (K:=K)) rfl (T.own _ (by decide)) boot_isinstance (Aa (pv 0) (Aa (F3 T.g_NotGrown) Ab))) Ab))) (Aa (AX (Aa AE (Aa (Aj (BP (K:=K)) rfl (T.own _ (by decide)) boot_isinstance (Aa (pv 0) (Aa (F3 T.g_BadDraft) Ab))) Ab))) Ab)))))
      (Ac (An (i:=1) sc__law_kinds.nd rfl (Or.inl rfl) (Ao (GX (K:=K)) (pv 1) (AI (Aa (AX (Aa AE (Aa (Aj (BP (K:=K)) rfl (T.own _ (by decide)) boot_isinstance (Aa (pv 0) (Aa (F3 T.g_BadCloth) Ab))) Ab))) (Aa (AX (Aa AE (Aa (Aj (BP (K:=K)) rfl (T.own _ (by decide)) boot_isinstance (Aa (pv 0) (Aa (F3 T.g_OutOfPlace) Ab))) Ab))) Ab)))))
      (Ac (An (i:=1) sc__law_kinds.nd rfl (Or.inl rfl) (Ao (GX (K:=K)) (pv 1) (AI (Aa (AX (Aa AE (Aa (Oj (Aj (BP (K:=K)) rfl (T.own _ (by decide)) boot_isinstance (Aa (pv 0) (Aa (GS rfl (T.own _ (by decide)) Gv) Ab)))) Ab))) Ab))))
      (Af (Al (CJ (K:=K) (A5 (K:=K) (pv 1)) (λ _ _ _ _=>(BC (Bb (pv 1)))) (λ _ _ _ _=>(pv 0)))))))))),?_⟩
    walk_at "w";refine BI ((Same.refl H) _ _ ha) F1.xk F1.k0 ?_;walk_at "w";intro t_row ht_row;have z1:=Ak (o:=HO.tup [V.str "row",V.bl (decide (j=0))]) ht_row;have g_t_row:upd H t_row (HO.tup [V.str "row",V.bl (decide (j=0))]) t_row=_:=Ad;generalize upd H t_row (HO.tup [V.str "row",V.bl (decide (j=0))])=H1 at z1 g_t_row ⊢;have y1:Same H H1:=(Same.refl H).trans z1;walk_at "w";refine BI (y1 _ _ ha) F1.xk F1.k1 ?_;walk_at "w";intro t_word ht_word;have z2:=Ak (o:=HO.tup [V.str "word",V.bl (decide (j=1))]) ht_word;have g_t_word:upd H1 t_word (HO.tup [V.str "word",V.bl (decide (j=1))]) t_word=_:=Ad;generalize upd H1 t_word (HO.tup [V.str "word",V.bl (decide (j=1))])=H2 at z2 g_t_word ⊢;have y2:Same H H2:=y1.trans z2;walk_at "w";intro l0 hl0;have z3:=Ak (o:=HO.lst [V.ref t_row,V.ref t_word]) hl0;have g_l0:upd H2 l0 (HO.lst [V.ref t_row,V.ref t_word]) l0=_:=Ad;generalize upd H2 l0 (HO.lst [V.ref t_row,V.ref t_word])=H3 at z3 g_l0 ⊢;have y3:Same H H3:=y2.trans z3;walk_at "w";refine BI (y3 _ _ ha) F1.xk F1.k2 ?_;walk_at "w";intro t_many ht_many;have z4:=Ak (o:=HO.tup [V.str "many",V.bl (decide (j=2))]) ht_many;have g_t_many:upd H3 t_many (HO.tup [V.str "many",V.bl (decide (j=2))]) t_many=_:=Ad;generalize upd H3 t_many (HO.tup [V.str "many",V.bl (decide (j=2))])=H4 at z4 g_t_many ⊢;have y4:Same H H4:=y3.trans z4;walk_at "w";refine BI (y4 _ _ ha) F1.xk F1.k3 ?_;walk_at "w";intro t_plain ht_plain;have z5:=Ak (o:=HO.tup [V.str "plain",V.bl (decide (j=3))]) ht_plain;have g_t_plain:upd H4 t_plain (HO.tup [V.str "plain",V.bl (decide (j=3))]) t_plain=_:=Ad;generalize upd H4 t_plain (HO.tup [V.str "plain",V.bl (decide (j=3))])=H5 at z5 g_t_plain ⊢;have y5:Same H H5:=y4.trans z5;walk_at "w";intro l1 hl1;have z6:=Ak (o:=HO.lst [V.ref t_many,V.ref t_plain]) hl1;have g_l1:upd H5 l1 (HO.lst [V.ref t_many,V.ref t_plain]) l1=_:=Ad;generalize upd H5 l1 (HO.lst [V.ref t_many,V.ref t_plain])=H6 at z6 g_l1 ⊢;have y6:Same H H6:=y5.trans z6;walk_at "w";refine EL (SqL.of (z6 _ _ (z5 _ _ (z4 _ _ g_l0)))) (SqL.of g_l1) (by simp) λ m1 hm1=> ?_;have z7:=Ak (o:=HO.lst ([V.ref t_row,V.ref t_word]++[V.ref t_many,V.ref t_plain])) hm1;have g_m1:upd H6 m1 (HO.lst ([V.ref t_row,V.ref t_word]++[V.ref t_many,V.ref t_plain])) m1=some (.lst [V.ref t_row,V.ref t_word,V.ref t_many,V.ref t_plain]):=Ad;generalize upd H6 m1 (HO.lst ([V.ref t_row,V.ref t_word]++[V.ref t_many,V.ref t_plain]))=H7 at z7 g_m1 ⊢;have y7:Same H H7:=y6.trans z7;walk_at "w";refine BI (y7 _ _ ha) F1.xk F1.k4 ?_;walk_at "w";intro t_grown ht_grown;have z8:=Ak (o:=HO.tup [V.str "grown",V.bl (decide (j=4))]) ht_grown;have g_t_grown:upd H7 t_grown (HO.tup [V.str "grown",V.bl (decide (j=4))]) t_grown=_:=Ad;generalize upd H7 t_grown (HO.tup [V.str "grown",V.bl (decide (j=4))])=H8 at z8 g_t_grown ⊢;have y8:Same H H8:=y7.trans z8;walk_at "w";refine BI (y8 _ _ ha) F1.xk F1.k5 ?_;walk_at "w";intro t_draft ht_draft;have z9:=Ak (o:=HO.tup [V.str "draft",V.bl (decide (j=5))]) ht_draft;have g_t_draft:upd H8 t_draft (HO.tup [V.str "draft",V.bl (decide (j=5))]) t_draft=_:=Ad;generalize upd H8 t_draft (HO.tup [V.str "draft",V.bl (decide (j=5))])=H9 at z9 g_t_draft ⊢;have y9:Same H H9:=y8.trans z9;walk_at "w";intro l2 hl2;have z10:=Ak (o:=HO.lst [V.ref t_grown,V.ref t_draft]) hl2;have g_l2:upd H9 l2 (HO.lst [V.ref t_grown,V.ref t_draft]) l2=_:=Ad;generalize upd H9 l2 (HO.lst [V.ref t_grown,V.ref t_draft])=H10 at z10 g_l2 ⊢;have y10:Same H H10:=y9.trans z10;walk_at "w";refine EL (SqL.of (z10 _ _ (z9 _ _ (z8 _ _ g_m1)))) (SqL.of g_l2) (by simp) λ m2 hm2=> ?_;have z11:=Ak (o:=HO.lst ([V.ref t_row,V.ref t_word,V.ref t_many,V.ref t_plain]++[V.ref t_grown,V.ref t_draft])) hm2;have g_m2:upd H10 m2 (HO.lst ([V.ref t_row,V.ref t_word,V.ref t_many,V.ref t_plain]++[V.ref t_grown,V.ref t_draft])) m2=some (.lst [V.ref t_row,V.ref t_word,V.ref t_many,V.ref t_plain,V.ref t_grown,V.ref t_draft]):=Ad;generalize upd H10 m2 (HO.lst ([V.ref t_row,V.ref t_word,V.ref t_many,V.ref t_plain]++[V.ref t_grown,V.ref t_draft]))=H11 at z11 g_m2 ⊢;have y11:Same H H11:=y10.trans z11;walk_at "w";refine BI (y11 _ _ ha) F1.xk F1.k6 ?_;walk_at "w";intro t_cloth ht_cloth;have z12:=Ak (o:=HO.tup [V.str "cloth",V.bl (decide (j=6))]) ht_cloth;have g_t_cloth:upd H11 t_cloth (HO.tup [V.str "cloth",V.bl (decide (j=6))]) t_cloth=_:=Ad;generalize upd H11 t_cloth (HO.tup [V.str "cloth",V.bl (decide (j=6))])=H12 at z12 g_t_cloth ⊢;have y12:Same H H12:=y11.trans z12;walk_at "w";refine BI (y12 _ _ ha) F1.xk F1.k7 ?_;walk_at "w";intro t_place ht_place;have z13:=Ak (o:=HO.tup [V.str "place",V.bl (decide (j=7))]) ht_place;have g_t_place:upd H12 t_place (HO.tup [V.str "place",V.bl (decide (j=7))]) t_place=_:=Ad;generalize upd H12 t_place (HO.tup [V.str "place",V.bl (decide (j=7))])=H13 at z13 g_t_place ⊢;have y13:Same H H13:=y12.trans z13;walk_at "w";intro l3 hl3;have z14:=Ak (o:=HO.lst [V.ref t_cloth,V.ref t_place]) hl3;have g_l3:upd H13 l3 (HO.lst [V.ref t_cloth,V.ref t_place]) l3=_:=Ad;generalize upd H13 l3 (HO.lst [V.ref t_cloth,V.ref t_place])=H14 at z14 g_l3 ⊢;have y14:Same H H14:=y13.trans z14;walk_at "w";refine EL (SqL.of (z14 _ _ (z13 _ _ (z12 _ _ g_m2)))) (SqL.of g_l3) (by simp) λ m3 hm3=> ?_;have z15:=Ak (o:=HO.lst ([V.ref t_row,V.ref t_word,V.ref t_many,V.ref t_plain,V.ref t_grown,V.ref t_draft]++[V.ref t_cloth,V.ref t_place])) hm3;have g_m3:upd H14 m3 (HO.lst ([V.ref t_row,V.ref t_word,V.ref t_many,V.ref t_plain,V.ref t_grown,V.ref t_draft]++[V.ref t_cloth,V.ref t_place])) m3=some (.lst [V.ref t_row,V.ref t_word,V.ref t_many,V.ref t_plain,V.ref t_grown,V.ref t_draft,V.ref t_cloth,V.ref t_place]):=Ad;generalize upd H14 m3 (HO.lst ([V.ref t_row,V.ref t_word,V.ref t_many,V.ref t_plain,V.ref t_grown,V.ref t_draft]++[V.ref t_cloth,V.ref t_place]))=H15 at z15 g_m3 ⊢;have y15:Same H H15:=y14.trans z15;walk_at "w";refine NU (y15 _ _ ha) F1.xk F1.kv ?_;walk_at "w";intro t_other ht_other;have z16:=Ak (o:=HO.tup [V.str "other",V.bl (!true)]) ht_other;have g_t_other:upd H15 t_other (HO.tup [V.str "other",V.bl (!true)]) t_other=some (.tup [V.str "other",V.bl false]):=Ad;generalize upd H15 t_other (HO.tup [V.str "other",V.bl (!true)])=H16 at z16 g_t_other ⊢;have y16:Same H H16:=y15.trans z16;walk_at "w";intro l4 hl4;have z17:=Ak (o:=HO.lst [V.ref t_other]) hl4;have g_l4:upd H16 l4 (HO.lst [V.ref t_other]) l4=_:=Ad;generalize upd H16 l4 (HO.lst [V.ref t_other])=H17 at z17 g_l4 ⊢;have y17:Same H H17:=y16.trans z17;walk_at "w";refine EL (SqL.of (z17 _ _ (z16 _ _ g_m3))) (SqL.of g_l4) (by simp) λ m4 hm4=> ?_;have z18:=Ak (o:=HO.lst ([V.ref t_row,V.ref t_word,V.ref t_many,V.ref t_plain,V.ref t_grown,V.ref t_draft,V.ref t_cloth,V.ref t_place]++[V.ref t_other])) hm4;have g_m4:upd H17 m4 (HO.lst ([V.ref t_row,V.ref t_word,V.ref t_many,V.ref t_plain,V.ref t_grown,V.ref t_draft,V.ref t_cloth,V.ref t_place]++[V.ref t_other])) m4=some (.lst [V.ref t_row,V.ref t_word,V.ref t_many,V.ref t_plain,V.ref t_grown,V.ref t_draft,V.ref t_cloth,V.ref t_place,V.ref t_other]):=Ad;generalize upd H17 m4 (HO.lst ([V.ref t_row,V.ref t_word,V.ref t_many,V.ref t_plain,V.ref t_grown,V.ref t_draft,V.ref t_cloth,V.ref t_place]++[V.ref t_other]))=H18 at z18 g_m4 ⊢;have y18:Same H H18:=y17.trans z18;walk_at "w";refine ⟨m4,rfl,⟨_,SqL.of g_m4⟩,λ D hD=> ?_⟩;have pr:∀ i,i<9->∃ b,[V.ref t_row,V.ref t_word,V.ref t_many,V.ref t_plain,V.ref t_grown,V.ref t_draft,V.ref t_cloth,V.ref t_place,V.ref t_other].getD i V.non= .ref b/\H18 b=some (.tup [([(V.str "row",V.bl (decide (j=0))),(V.str "word",V.bl (decide (j=1))),(V.str "many",V.bl (decide (j=2))),(V.str "plain",V.bl (decide (j=3))),(V.str "grown",V.bl (decide (j=4))),(V.str "draft",V.bl (decide (j=5))),(V.str "cloth",V.bl (decide (j=6))),(V.str "place",V.bl (decide (j=7))),(V.str "other",V.bl false)].getD i (V.non,V.non)).1,([(V.str "row",V.bl (decide (j=0))),(V.str "word",V.bl (decide (j=1))),(V.str "many",V.bl (decide (j=2))),(V.str "plain",V.bl (decide (j=3))),(V.str "grown",V.bl (decide (j=4))),(V.str "draft",V.bl (decide (j=5))),(V.str "cloth",V.bl (decide (j=6))),(V.str "place",V.bl (decide (j=7))),(V.str "other",V.bl false)].getD i (V.non,V.non)).2]):=by
      intro i hi
      match i,hi with
      | 0,_=>exact ⟨t_row,rfl,(z18 _ _ (z17 _ _ (z16 _ _ (z15 _ _ (z14 _ _ (z13 _ _ (z12 _ _ (z11 _ _ (z10 _ _ (z9 _ _ (z8 _ _ (z7 _ _ (z6 _ _ (z5 _ _ (z4 _ _ (z3 _ _ (z2 _ _ g_t_row)))))))))))))))))⟩
      | 1,_=>exact ⟨t_word,rfl,(z18 _ _ (z17 _ _ (z16 _ _ (z15 _ _ (z14 _ _ (z13 _ _ (z12 _ _ (z11 _ _ (z10 _ _ (z9 _ _ (z8 _ _ (z7 _ _ (z6 _ _ (z5 _ _ (z4 _ _ (z3 _ _ g_t_word))))))))))))))))⟩
      | 2,_=>exact ⟨t_many,rfl,(z18 _ _ (z17 _ _ (z16 _ _ (z15 _ _ (z14 _ _ (z13 _ _ (z12 _ _ (z11 _ _ (z10 _ _ (z9 _ _ (z8 _ _ (z7 _ _ (z6 _ _ (z5 _ _ g_t_many))))))))))))))⟩
      | 3,_=>exact ⟨t_plain,rfl,(z18 _ _ (z17 _ _ (z16 _ _ (z15 _ _ (z14 _ _ (z13 _ _ (z12 _ _ (z11 _ _ (z10 _ _ (z9 _ _ (z8 _ _ (z7 _ _ (z6 _ _ g_t_plain)))))))))))))⟩
      | 4,_=>exact ⟨t_grown,rfl,(z18 _ _ (z17 _ _ (z16 _ _ (z15 _ _ (z14 _ _ (z13 _ _ (z12 _ _ (z11 _ _ (z10 _ _ (z9 _ _ g_t_grown))))))))))⟩
      | 5,_=>exact ⟨t_draft,rfl,(z18 _ _ (z17 _ _ (z16 _ _ (z15 _ _ (z14 _ _ (z13 _ _ (z12 _ _ (z11 _ _ (z10 _ _ g_t_draft)))))))))⟩
      | 6,_=>exact ⟨t_cloth,rfl,(z18 _ _ (z17 _ _ (z16 _ _ (z15 _ _ (z14 _ _ (z13 _ _ g_t_cloth))))))⟩
      | 7,_=>exact ⟨t_place,rfl,(z18 _ _ (z17 _ _ (z16 _ _ (z15 _ _ (z14 _ _ g_t_place)))))⟩
      | 8,_=>exact ⟨t_other,rfl,(z18 _ _ (z17 _ _ g_t_other))⟩
    have lt:=F1.lt;refine FW (m:=0) (p:=λ i=>decide (i=j)) (G:=λ i=> .str (nmK i)) (NT (ps:=[(V.str "row",V.bl (decide (j=0))),(V.str "word",V.bl (decide (j=1))),(V.str "many",V.bl (decide (j=2))),(V.str "plain",V.bl (decide (j=3))),(V.str "grown",V.bl (decide (j=4))),(V.str "draft",V.bl (decide (j=5))),(V.str "cloth",V.bl (decide (j=6))),(V.str "place",V.bl (decide (j=7))),(V.str "other",V.bl false)]) (SqL.of g_m4) pr rfl rfl) hD (by simp) ?_ ?_ ?_
    · intro i H' R hi s kk;have hi9:i<9:=hi
      match i,hi9 with
      | 0,_=>walk_at "w";exact ⟨_,rfl,by have e:decide (j=0)=decide (0=j):=decide_eq_decide.mpr eq_comm;rw [e];exact kk H' (Same.refl _)⟩
      | 1,_=>walk_at "w";exact ⟨_,rfl,by have e:decide (j=1)=decide (1=j):=decide_eq_decide.mpr eq_comm;rw [e];exact kk H' (Same.refl _)⟩
      | 2,_=>walk_at "w";exact ⟨_,rfl,by have e:decide (j=2)=decide (2=j):=decide_eq_decide.mpr eq_comm;rw [e];exact kk H' (Same.refl _)⟩
      | 3,_=>walk_at "w";exact ⟨_,rfl,by have e:decide (j=3)=decide (3=j):=decide_eq_decide.mpr eq_comm;rw [e];exact kk H' (Same.refl _)⟩
      | 4,_=>walk_at "w";exact ⟨_,rfl,by have e:decide (j=4)=decide (4=j):=decide_eq_decide.mpr eq_comm;rw [e];exact kk H' (Same.refl _)⟩
      | 5,_=>walk_at "w";exact ⟨_,rfl,by have e:decide (j=5)=decide (5=j):=decide_eq_decide.mpr eq_comm;rw [e];exact kk H' (Same.refl _)⟩
      | 6,_=>walk_at "w";exact ⟨_,rfl,by have e:decide (j=6)=decide (6=j):=decide_eq_decide.mpr eq_comm;rw [e];exact kk H' (Same.refl _)⟩
      | 7,_=>walk_at "w";exact ⟨_,rfl,by have e:decide (j=7)=decide (7=j):=decide_eq_decide.mpr eq_comm;rw [e];exact kk H' (Same.refl _)⟩
      | 8,_=>walk_at "w";exact ⟨_,rfl,by have e:false=decide (8=j):=(decide_eq_false (by omega)).symm;rw [e];exact kk H' (Same.refl _)⟩
    · intro i H' R hi hp s kk;have hi9:i<9:=hi
      match i,hi9 with
      | 0,_=>walk_at "w";exact kk H' _ (Same.refl _) (.str _)
      | 1,_=>walk_at "w";exact kk H' _ (Same.refl _) (.str _)
      | 2,_=>walk_at "w";exact kk H' _ (Same.refl _) (.str _)
      | 3,_=>walk_at "w";exact kk H' _ (Same.refl _) (.str _)
      | 4,_=>walk_at "w";exact kk H' _ (Same.refl _) (.str _)
      | 5,_=>walk_at "w";exact kk H' _ (Same.refl _) (.str _)
      | 6,_=>walk_at "w";exact kk H' _ (Same.refl _) (.str _)
      | 7,_=>walk_at "w";exact kk H' _ (Same.refl _) (.str _)
      | 8,_=>walk_at "w";exact kk H' _ (Same.refl _) (.str _)
    · intro H' ys s hl r;have e9:=SN j lt;have r:Rp _ _ _ _ (.lst (((List.range 9).filter λ i=>decide (i=j)).map (λ i=>Dt.str (nmK i)))):=r;rw [e9] at r;obtain ⟨b,eb,hb,_⟩:=Os (zs:=[nmK j]) r;cases eb;exact k H' D (y18.trans s) (y18.free hD) hb
theorem K8 {l:List Nat} {m:Nat} (h:m∈l):l.getD (l.idxOf m) 0=m:=by
  have hx:=List.idxOf_lt_length_of_mem h;rw [List.getD_eq_getElem?_getD,List.getElem?_eq_getElem hx];exact List.getElem_idxOf hx
theorem IE {l:List Nat} {f:Nat->Nat} {i:Nat} (h:i<l.length):(l.map f).getD i 0=f (l.getD i 0):=by
  rw [List.getD_eq_getElem?_getD,List.getElem?_map,List.getElem?_eq_getElem h,List.getD_eq_getElem?_getD,List.getElem?_eq_getElem h];rfl
theorem Ud {ms:List Nat} {p:Nat} (h:p<ms.length):(AG ms).getD p 0=(0::kN ms).idxOf (ms.getD p 0):=IE h
theorem RU {ms:List Nat} {m:Nat} (h:m∈ms):((0::kN ms).idxOf m=0->m=0)/\(0<(0::kN ms).idxOf m->(0::kN ms).idxOf m - 1<(kN ms).length/\(kN ms).getD ((0::kN ms).idxOf m - 1) 0=m):=by
  have hm:=OX h;have hx:=List.idxOf_lt_length_of_mem hm;have e:=K8 hm;generalize (0::kN ms).idxOf m=t at hx e;rw [List.length_cons] at hx;cases t with
  | zero=>exact ⟨λ _=>e.symm,λ q=>absurd q (by decide)⟩
  | succ t=>exact ⟨λ q=>by omega,λ _=>⟨by omega,e⟩⟩
theorem OW {ms:List Nat} {j:Nat} (h:j<(kN ms).length):(AJ ms).getD j 0=ms.idxOf ((kN ms).getD j 0)+1:=IE h
theorem tie_mem {es:List Nat} {r s:Nat}:s∈E6 es r↔1<=s/\s<=es.length/\r.testBit (es.getD (s - 1) 0 - 1)=true:=by
  unfold E6;rw [List.mem_map];constructor
  · rintro ⟨i,hi,rfl⟩;obtain ⟨h1,h2⟩:=List.mem_filter.mp hi;have:=List.mem_range.mp h1;exact ⟨by omega,by omega,h2⟩
  · rintro ⟨h1,h2,h3⟩;exact ⟨s - 1,List.mem_filter.mpr ⟨List.mem_range.mpr (by omega),h3⟩,by omega⟩
theorem T2 {n e:Nat} {rs:List Nat} (h:e<n):(Ai n rs).getD e 0=IT rs (e+1):=by
  unfold Ai;rw [List.getD_eq_getElem?_getD,List.getElem?_map,List.getElem?_range h];rfl
theorem JF {n e p:Nat} {rs:List Nat} (h:e<n) (hp:p<rs.length):((Ai n rs).getD e 0).testBit p=(rs.getD p 0).testBit e:=by
  rw [T2 h];unfold IT;rw [MM.ofB_bit,decide_eq_true hp,Bool.true_and,Nat.add_sub_cancel]
theorem DF (n:Nat) (rs:List Nat):(Ai n rs).length=n:=by unfold Ai;simp
theorem JL {n p e:Nat} {rs:List Nat} (hp:p<rs.length) (he:e<n):decide ((AG (Ai n rs)).getD e 0∈E6 (AJ (Ai n rs)) (rs.getD p 0))=(rs.getD p 0).testBit e:=by
  have le:e<(Ai n rs).length:=by rw [DF];exact he
  rw [Ud le, <-JF he hp];have hm:(Ai n rs).getD e 0∈Ai n rs:=Au le;obtain ⟨v1,v2⟩:=RU hm;rcases Nat.eq_zero_or_pos ((0::kN (Ai n rs)).idxOf ((Ai n rs).getD e 0)) with z | z
  · rw [v1 z];rw [show (0::kN (Ai n rs)).idxOf 0=0 by rw [List.idxOf_cons];rfl,Nat.zero_testBit];refine decide_eq_false λ q=> ?_;have:=(tie_mem.mp q).1;omega
  · obtain ⟨l1,l2⟩:=v2 z;generalize (0::kN (Ai n rs)).idxOf ((Ai n rs).getD e 0)=s at z l1 l2;have hk:(kN (Ai n rs)).getD (s - 1) 0∈Ai n rs:=by rw [l2];exact hm
    have hx:=List.idxOf_lt_length_of_mem hk;have ev:=K8 hk;have e1:=OW (ms:=Ai n rs) l1;rw [Bool.eq_iff_iff,decide_eq_true_eq,tie_mem,Bg,e1,Nat.add_sub_cancel];rw [l2] at hx ev ⊢;rw [DF] at hx;have eb:=JF (n:=n) (rs:=rs) hx hp;rw [ev] at eb;rw [<-eb];exact ⟨λ h=>h.2.2,λ h=>⟨by omega,by omega,h⟩⟩
def A6:Sp:=λ vs H Q _=>∃ m n:Nat,vs=[.int m, .int n]/\Q (.bl (MTies.wn m n)) H
abbrev Co:Stmt:=top 50
theorem G1:FnScope ["tie","lift"] ["tie","lift"] (Ah Co):=⟨rfl,rfl,rfl,by decide +kernel,rfl,by decide +kernel,by decide +kernel⟩
theorem Hc {f:Addr} {fd:FuncData} (F:Fun K "lies_within" "lies_within" Co f fd) (T:Txt K mg c):FnOk P w K mg base CX0 1 f fd ["tie","lift"] A6:=by
  refine F.ok G1 (λ vs H Q E h=> ?_) (λ cdv A outer s H vs Q E hr h=> ?_)
  · obtain ⟨m,n,rfl,_⟩:=h;rfl
  · obtain ⟨m,n,rfl,q⟩:=h;refine ⟨_,(Af (Al (BB E7 (Ao SA (pv 0) (pv 1)) (pv 1) (Aw _)))),?_⟩;walk_at "w";rw [bO];have e:decide (((m ||| n:Nat):Int)=(n:Int))=MTies.wn m n:=by
      unfold MTies.wn;exact decide_eq_decide.mpr (by omega)
    rw [e];exact q
def EI (K:PySem.W.Frag):Sp:=λ vs H Q _=>∃ (l:Nat) (a:Addr) (ts:List Nat),vs=[.int l, .ref a]/\SqL K H a (ts.map nV)/\ts.length<=10000/\∀ H',Same H H'->Q (.bl (MTies.toldB ts l)) H'
theorem GE (p:Nat->Bool) (ts:List Nat):((List.range ts.length).filter λ i=>p (ts.getD i 0)).map (λ i=>ts.getD i 0)=ts.filter p:=by
  have e:ts=(List.range ts.length).map λ i=>ts.getD i 0:=by
    apply List.ext_getElem
    · simp
    · intro i h1 h2;simp [List.getD_eq_getElem?_getD,h1]
  conv=>rhs;rw [e]
  rw [List.filter_map];rfl
abbrev FY:Stmt:=top 51
theorem LM:FnScope ["lift","ties"] ["lift","ties"] (Ah FY):=⟨rfl,rfl,rfl,by decide +kernel,rfl,by decide +kernel,by decide +kernel⟩
theorem LX {f:Addr} {fd:FuncData} (F:Fun K "is_told" "is_told" FY f fd) (T:Txt K mg c) (c_lies_within:CallF P w K mg base "lies_within" 1 ["tie","lift"] A6) (c_union_of:CallF P w K mg base "union_of" 1 ["masks"] (Cd K)):FnOk P w K mg base CX0 2 f fd ["lift","ties"] (EI K):=by
  refine F.ok LM (λ vs H Q E h=> ?_) (λ cdv A outer s H vs Q E hr h=> ?_)
  · obtain ⟨l,a,ts,rfl,_⟩:=h;rfl
  · obtain ⟨l,a,ts,rfl,sa,hl,q⟩:=h;refine ⟨_,(Af (Al (BB E7 (Ae c_union_of hr (Aa (Av (A5 (K:=K) (pv 1)) (λ _ _ _ _=>(BC (Bb (Ae c_lies_within hr (Aa (pv 0) (Aa (pv 1) Ab)))))) (λ _ _ _ _=>(pv 0))) Ab)) (pv 0) (Aw _)))),?_⟩;walk_at "w";refine ⟨a,rfl,⟨_,sa⟩,λ D hD=> ?_⟩;refine A1 (p:=λ i=>MTies.wn (ts.getD i 0) l) (G:=λ i=>((ts.getD i 0:Nat):Int)) (AB sa rfl) hD (by simpa using (by omega:ts.length<=100000)) ?_ ?_ ?_
    · intro i H' R hi s k;rw [Aq hi];walk_at "w";exact ⟨_,_,rfl,_,rfl,k H' (Same.refl _)⟩
    · intro i H' R hi hp s k;rw [Aq hi];walk_at "w";exact k H' (Same.refl _)
    · intro H' s hd;have eD:(((List.range (ts.map nV).length).filter λ i=>MTies.wn (ts.getD i 0) l).map λ i=>((ts.getD i 0:Nat):Int)).map V.int=(ts.filter (MTies.wn · l)).map nV:=by
        rw [List.length_map, <-GE (MTies.wn · l) ts,List.map_map,List.map_map];rfl
      rw [eD] at hd;walk_at "w";refine ⟨false,D,_,rfl,SqL.of hd,λ H2 s2=> ?_⟩;walk_at "w";have e:decide (((MM.uOf (ts.filter (MTies.wn · l)):Nat):Int)=(l:Int))=MTies.toldB ts l:=by
        unfold MTies.toldB;exact decide_eq_decide.mpr (by omega)
      rw [e];exact q H2 (s.trans s2)
def El (K:PySem.W.Frag):Sp:=λ vs H Q _=>∃ (l:Nat) (a:Addr) (ts:List Nat),vs=[.int l, .ref a]/\SqL K H a (ts.map nV)/\ts.length<=10000/\∀ H' p,Same H H'->H p=none->H' p=some (.lst ((((List.range ts.length).filter λ i=>MTies.wn (ts.getD i 0) l).map λ (i:Nat)=>((i:Int)+1)).map V.int))->Q (.ref p) H'
abbrev Dd:Stmt:=top 54
theorem Io:FnScope ["lift","ties"] ["lift","ties"] (Ah Dd):=⟨rfl,rfl,rfl,by decide +kernel,rfl,by decide +kernel,by decide +kernel⟩
theorem HK {f:Addr} {fd:FuncData} (F:Fun K "trodden_of" "trodden_of" Dd f fd) (T:Txt K mg c) (c_lies_within:CallF P w K mg base "lies_within" 1 ["tie","lift"] A6):FnOk P w K mg base CX0 2 f fd ["lift","ties"] (El K):=by
  refine F.ok Io (λ vs H Q E h=> ?_) (λ cdv A outer s H vs Q E hr h=> ?_)
  · obtain ⟨l,a,ts,rfl,_⟩:=h;rfl
  · obtain ⟨l,a,ts,rfl,sa,hl,q⟩:=h;refine ⟨_,(Af (Al (CJ (K:=K) (Fk (K:=K) rfl (T.own _ (by decide)) (Aa (pv 1) Ab)) (λ _ _ _ _=>(BC (Bb (Ae c_lies_within hr (Aa (pv 1) (Aa (pv 2) Ab)))))) (λ _ _ _ _=>(pv 0))))),?_⟩;walk_at "w";refine ⟨false,a,rfl,⟨_,sa⟩,λ D hD=> ?_⟩;refine A1 (p:=λ i=>MTies.wn (ts.getD i 0) l) (G:=λ (i:Nat)=>(i:Int)+1) (Eb sa rfl rfl) hD (by simpa using (by omega:ts.length<=100000)) ?_ ?_ ?_
    · intro i H' R hi s k;rw [Aq hi];walk_at "w";exact ⟨_,_,rfl,_,rfl,k H' (Same.refl _)⟩
    · intro i H' R hi hp s k;walk_at "w";exact k H' (Same.refl _)
    · intro H' s hd;rw [List.length_map] at hd;exact q H' D s hD hd
def Bu:Nat->Sp
  | 0=>λ _ _ _ _=>False
  | n+1=>λ vs H Q _=>∃ (a b:Addr) (ts L:List Nat) (q:Nat),q+1<=n/\vs=[.ref a, .ref b,nV (ts.length+q)]/\H a=some (.lst (ts.map nV))/\H b=some (.lst (L.map nV))/\ts.length+q<=20/\L.length<=10000/\(∀ l∈L,l<16)/\MTies.Rz 1 ts/\
    (∀ H',Same H H'->MTies.search q ts L=none->Q .non H')/\(∀ H' p R,Same H H'->MTies.search q ts L=some R->(p=a\/H p=none)->H' p=some (.lst (R.map nV))->Q (.ref p) H')
theorem JY {ts:List Nat} {x:Nat} (h:ts.getLast?=some x):atI (ts.map nV) (-1)=some (nV x):=by
  have hn:ts≠[]:=λ z=>by rw [z] at h;cases h
  have hl:0<ts.length:=List.length_pos_iff.mpr hn;unfold atI ixN;rw [List.length_map];simp only [show ¬ ((0:Int)<= -1) by decide,if_false];rw [if_pos (by omega)];simp only [Option.bind_some];rw [List.getElem?_map,show ((-1:Int)+(ts.length:Int)).toNat=ts.length - 1 by omega, <-List.getLast?_eq_getElem?,h];rfl
abbrev BD:Stmt:=top 52
theorem sc_ties_behind:FnScope ["ties","lifts","many","untold","first","tie","found"] ["ties","lifts","many"] (Ah BD):=⟨rfl,rfl,rfl,by decide +kernel,rfl,by decide +kernel,by decide +kernel⟩
theorem Gu {n:Nat} {f:Addr} {fd:FuncData} (F:Fun K "ties_behind" "ties_behind" BD f fd) (T:Txt K mg c) (c_is_told:CallF P w K mg base "is_told" 2 ["lift","ties"] (EI K)) (c_lies_within:CallF P w K mg base "lies_within" 1 ["tie","lift"] A6) (c_ties_behind:CallF P w K mg base "ties_behind" (n+1) ["ties","lifts","many"] (Bu n)):FnOk P w K mg base CX0 (n+2) f fd ["ties","lifts","many"] (Bu (n+1)):=by
  refine F.ok sc_ties_behind (λ vs H Q E h=> ?_) (λ cdv A outer s H vs Q E hr h=> ?_)
  · obtain ⟨a,b,ts,L,q,hq,rfl,_⟩:=h;rfl
  · obtain ⟨a,b,ts,L,q,hq,rfl,ha,hb,h20,hL,h16,hR,kN,kS⟩:=h;refine ⟨_,(Ac (B5 (i:=3) sc_ties_behind.nd rfl (Or.inl rfl) (A5 (K:=K) (pv 1)) (λ _ _ _ _=>(BC (Da (Bb (Ae c_is_told (hr.mono (by omega)) (Aa (pv 0) (Aa (pv 1) Ab))))))) (λ _ _ _ _=>(pv 0)))
      (Ac (Bc (As E7 (Aj (AZ (K:=K)) rfl (T.own _ (by decide)) boot_len (Aa (pv 3) Ab)) Ag (Aw _)) (Af (Al (pv 0))) AK)
      (Ac (Bc (As E7 (Aj (AZ (K:=K)) rfl (T.own _ (by decide)) boot_len (Aa (pv 0) Ab)) (pv 2) (Aw _)) (Af (Al DH)) AK)
      (Ac (An (i:=4) sc_ties_behind.nd rfl (Or.inl rfl) (Fb (As Hi (Aj (AZ (K:=K)) rfl (T.own _ (by decide)) boot_len (Aa (pv 0) Ab)) Ag (Aw _)) (Ao Ba (Bi (KI (K:=K)) (pv 0) (Vt SO Ag) (λ _ _=>rfl)) Ag) Ag))
      (Ac (Cp PassesOwn.never rfl (CK rfl (T.own _ (by decide)) (Aa (pv 4) (Aa (Ao Ba (Aj (SL (K:=K)) rfl (T.own _ (by decide)) IK (Aa (pv 3) Ab)) Ag) Ab))) (Bd (i:=5) sc_ties_behind.nd rfl (Or.inr rfl)) (Af (Bc (Bb (Aj (X7 (K:=K)) rfl (T.own _ (by decide)) NV (Aa (Av (A5 (K:=K) (pv 3)) (λ _ _ _ _=>Ax) (λ _ _ _ _=>(Ae c_lies_within (hr.mono (by omega)) (Aa (pv 1) (Aa (pv 0) Ab))))) Ab))) (Ac (An (i:=6) sc_ties_behind.nd rfl (Or.inl rfl) (Ae c_ties_behind hr (Aa (Ao (GX (K:=K)) (pv 0) (AI (Aa (pv 5) Ab))) (Aa (pv 3) (Aa (pv 2) Ab)))))
      (Af (Bc (As Ml (pv 6) DH (Aw _)) (Af (Al (pv 6))) AK))) AK)))
      (Af (Al DH))))))),?_⟩
    walk_at "w";refine ⟨b,rfl,⟨_,SqL.of hb⟩,λ D hD=> ?_⟩;refine A1 (p:=λ i=> !MTies.toldB ts (L.getD i 0)) (G:=λ i=>((L.getD i 0:Nat):Int)) (AB (SqL.of hb) rfl) hD (by simpa using (by omega:L.length<=100000)) ?_ ?_ ?_
    · intro i H' R hi s k;rw [Aq hi];walk_at "w";refine ⟨_,a,ts,rfl,SqL.of (s _ _ ha),by omega,λ H2 s2=> ?_⟩;walk_at "w";exact k H2 s2
    · intro i H' R hi hp s k;rw [Aq hi];walk_at "w";exact k H' (Same.refl _)
    · intro H1 s1 hd;have eD:(((List.range (L.map nV).length).filter λ i=> !MTies.toldB ts (L.getD i 0)).map λ i=>((L.getD i 0:Nat):Int)).map V.int=(L.filter λ l=> !MTies.toldB ts l).map nV:=by
        rw [List.length_map, <-GE (λ l=> !MTies.toldB ts l) L,List.map_map,List.map_map];rfl
      rw [eD] at hd;have hs:MTies.search q ts L=if (L.filter λ l=> !MTies.toldB ts l)=[] then some ts else match q with
          | 0=>none
          | m+1=>(List.range' (MTies.frst ts) (MTies.minL (L.filter λ l=> !MTies.toldB ts l)+1 - MTies.frst ts)).findSome? λ t=>if (L.filter λ l=> !MTies.toldB ts l).any (MTies.wn t ·)=true then MTies.search m (ts++[t]) (L.filter λ l=> !MTies.toldB ts l) else none:=by
        cases q <;> (conv=>lhs;unfold MTies.search)
      have hUl:(L.filter λ l=> !MTies.toldB ts l).length<=L.length:=List.length_filter_le ..;have hU16:∀ u∈(L.filter λ l=> !MTies.toldB ts l),u<16:=λ u hu=>h16 u (List.mem_filter.mp hu).1;rw [hs] at kN kS;clear hs eD;generalize (L.filter λ l=> !MTies.toldB ts l)=U at*;walk_at "w";refine AC (SqL.of hd) ?_;walk_at "w";rw [List.length_map];refine Gg (λ hz=> ?_) (λ hz=> ?_)
      · walk_at "w";have hz:U=[]:=List.length_eq_zero_iff.mp (by omega);exact kS H1 a ts s1 (if_pos hz) (.inl rfl) (s1 _ _ ha)
      have hne:U≠[]:=λ z=>hz (by rw [z];rfl);simp only [if_neg hne] at kN kS;walk_at "w";refine AC (SqL.of (s1 _ _ ha)) ?_;walk_at "w";rw [List.length_map];refine Gg (λ hz2=> ?_) (λ hz2=> ?_)
      · walk_at "w";have:q=0:=by omega
        subst this;exact kN H1 s1 rfl
      obtain ⟨m,rfl⟩:∃ m,q=m+1:=⟨q - 1,by omega⟩;simp only at kN kS;walk_at "w";refine AC (SqL.of (s1 _ _ ha)) ?_;walk_at "w";refine ifE (λ v H'=>v=nV (MTies.frst ts)/\H'=H1) ?_ (λ R key=> ?_);rotate_left
      · refine Gg (λ hp=> ?_) (λ hp=> ?_)
        · rw [List.length_map] at hp;obtain ⟨x,hx⟩:∃ x,ts.getLast?=some x:=by
            cases hg:ts.getLast? with
            | some x=>exact ⟨x,rfl⟩
            | none=>rw [List.getLast?_eq_none_iff.mp hg] at hp;simp at hp
          walk_at "w";refine G6 (SqL.of (s1 _ _ ha)) (JY hx) ?_;walk_at "w";refine key _ _ ⟨?_,rfl⟩;unfold MTies.frst;rw [hx];rfl
        · rw [List.length_map] at hp;have ht:ts=[]:=List.length_eq_zero_iff.mp (by omega);walk_at "w";exact key _ _ ⟨by rw [ht];rfl,rfl⟩
      rintro v H' ⟨rfl,rfl⟩;obtain ⟨f1,f2⟩:=MTies.frst_le hR;walk_at "w";refine Q5 (ns:=U.map λ (u:Nat)=>(u:Int)) (by rw [List.map_map];exact SqL.of hd) (by simpa using hne) λ M hM hle=> ?_;have eM:M=((MTies.minL U:Nat):Int):=by
        obtain ⟨u,hu,rfl⟩:=List.mem_map.mp hM;have g1:=MTies.minL_le hu;have g2:=hle _ (List.mem_map.mpr ⟨_,MTies.minL_mem hne,rfl⟩);omega
      subst eM;have m16:=hU16 _ (MTies.minL_mem hne);walk_at "w";refine ⟨_,_,rfl,⟨by omega,by omega,by omega,by omega⟩,DS (Kh (n:=(((MTies.minL U:Nat):Int)+1 - (MTies.frst ts:Nat)).toNat)) (λ i σ H3=>∃ x y,σ=[some (.ref a),some (.ref b),some (nV (ts.length+(m+1))),some (.ref D),some (nV (MTies.frst ts)),x,y]/\Same H' H3/\∀ j,j<i->(if (U.any λ x=>MTies.wn (MTies.frst ts+j) x)=true then MTies.search m (ts++[MTies.frst ts+j]) U else none)=none) ⟨_,_,rfl,Same.refl _,λ j hj=>absurd hj (Nat.not_lt_zero _)⟩ (λ i σ H3 ⟨_,_,_,s,_⟩=>s) ?_ ?_⟩
      · rintro i σ H2 H3 hi ⟨x,y,rfl,s2,old⟩ s3;have sC:=s1.trans (s2.trans s3);have hD3:H3 D=_:=s3 _ _ (s2 _ _ hd);have et:((MTies.frst ts:Nat):Int)+(i:Nat)=((MTies.frst ts+i:Nat):Int):=by omega
        rw [et];have ht16:MTies.frst ts+i<16:=by omega
        generalize htt:MTies.frst ts+i=t at*;walk_at "w";refine ⟨D,rfl,⟨_,SqL.of hD3⟩,λ D2 hD2=> ?_⟩;refine Ds (G:=λ i=>MTies.wn t (U.getD i 0)) (AB (SqL.of hD3) rfl) hD2 (by rw [List.length_map];omega) ?_ ?_
        · intro j H4 R hj s4 k;rw [Aq hj];walk_at "w";exact ⟨_,_,rfl,k H4 (Same.refl _)⟩
        · intro H4 s4 hd4;walk_at "w";refine Tf (SqL.of hd4) ?_;rw [List.length_map,MTies.any_at];walk_at "w";refine ZR (λ hy=> ?_) (λ hy=> ?_)
          · walk_at "w";intro l1 hl1;have s5:=Ak (o:=HO.lst [nV t]) hl1;have g1:upd H4 l1 (HO.lst [nV t]) l1=some (.lst ([t].map nV)):=Ad;have e1:HO.lst [V.int ((t:Nat):Int)]=HO.lst [nV t]:=rfl;rw [e1];generalize upd H4 l1 (HO.lst [nV t])=H5 at s5 g1 ⊢;walk_at "w";have s15:=sC.trans (s4.trans s5);refine EL (SqL.of (s15 _ _ ha)) (SqL.of g1) (by simp;omega) λ l2 hl2=> ?_;rw [<-List.map_append];have s6:=Ak (o:=HO.lst ((ts++[t]).map nV)) hl2;have g2:upd H5 l2 (HO.lst ((ts++[t]).map nV)) l2=_:=Ad;generalize upd H5 l2 (HO.lst ((ts++[t]).map nV))=H6 at s6 g2 ⊢;have s16:=s15.trans s6;walk_at "w";obtain ⟨n',rfl⟩:∃ n',n=n'+1:=⟨n - 1,by omega⟩;have hv:ts.length+(m+1)=(ts++[t]).length+m:=by rw [List.length_append,List.length_singleton];omega
            refine ⟨l2,D,ts++[t],U,m,by omega,by rw [hv],g2,s6 _ _ (s5 _ _ (s4 _ _ hD3)),by rw [<-hv];exact h20,by omega,hU16,MTies.rz_snoc.mpr ⟨hR,by omega,ht16⟩,λ H7 s7 hn=> ?_,λ H7 p R s7 hsome hp hpl=> ?_⟩
            · walk_at "w";refine ⟨rfl,_,rfl,UI (λ z=>absurd rfl z) λ _=> ?_⟩;walk_at "w";refine ⟨_,_,rfl,s2.trans (s3.trans (s4.trans (s5.trans (s6.trans s7)))),λ j hj=> ?_⟩;rcases Nat.lt_or_ge j i with z | z
              · exact old j z
              · rw [show MTies.frst ts+j=t by omega,if_pos hy];exact hn
            · walk_at "w";refine ⟨rfl,_,rfl,UI (λ _=> ?_) λ z=>by cases z⟩;walk_at "w";refine kS H7 p R (s16.trans s7) (MTies.find_first (i:=i) (by omega) old (by rw [htt,if_pos hy];exact hsome)) (.inr ?_) hpl;rcases hp with rfl | hp
              · exact s15.free hl2
              · exact s16.free hp
          · walk_at "w";refine ⟨_,_,rfl,s2.trans (s3.trans s4),λ j hj=> ?_⟩;rcases Nat.lt_or_ge j i with z | z
            · exact old j z
            · rw [show MTies.frst ts+j=t by omega,if_neg (by rw [hy];decide)]
      · rintro σ H3 ⟨x,y,rfl,s3,old⟩;walk_at "w";refine kN H3 (s1.trans s3) (MTies.findSome_none λ t ht=> ?_);have ht:=List.mem_range'_1.mp ht;have:=old (t - MTies.frst ts) (by omega);rw [show MTies.frst ts+(t - MTies.frst ts)=t by omega] at this;exact this
theorem DD {f:Addr} {fd:FuncData} (D:DefAt K mg "ties_behind" BD ["ties","lifts","many"] f fd) (T:Txt K mg c) (c_is_told:CallF P w K mg base "is_told" 2 ["lift","ties"] (EI K)) (c_lies_within:CallF P w K mg base "lies_within" 1 ["tie","lift"] A6):∀ n,FnOk P w K mg base CX0 (n+1) f fd ["ties","lifts","many"] (Bu n)
  | 0=>⟨λ _ _ _ _ h=>h.elim,λ _ _ _ _ _ _ _ _ _ _ _ _ _ h=>h.elim⟩
  | n+1=>Gu D.fn T c_is_told c_lies_within (D.call (DD D T c_is_told c_lies_within n))
def Jw (K:List Nat):Nat->Option (List Nat):=λ m=>(MTies.ext m []).find? (MTies.mk · K)
theorem Rw (ls:List Nat):(kOf (ls.map λ (l:Nat)=>(l:Int))).map V.int=(kN ls).map nV:=by
  unfold kN;rw [List.map_map];refine List.map_congr_left λ k hk=> ?_;obtain ⟨l,_,rfl⟩:=List.mem_map.mp (GG _ k hk).1;rfl
theorem Of (ls:List Nat) (k:Nat):k∈kN ls↔k∈ls/\k≠0:=by
  unfold kN;constructor
  · intro h;obtain ⟨i,hi,rfl⟩:=List.mem_map.mp h;obtain ⟨h1,h2⟩:=GG _ i hi;obtain ⟨l,hl,rfl⟩:=List.mem_map.mp h1;exact ⟨by simpa using hl,by intro z;apply h2;simpa using z⟩
  · rintro ⟨h1,h2⟩;refine List.mem_map.mpr ⟨(k:Int),?_,by simp⟩;rcases List.mem_cons.mp (JK _ (k:Int) (List.mem_map.mpr ⟨k,h1,rfl⟩)) with z | z
    · exact absurd (by omega) h2
    · exact z
def DE (K:PySem.W.Frag):Sp:=λ vs H Q _=>∃ (a:Addr) (ls:List Nat),vs=[.ref a]/\SqL K H a (ls.map nV)/\ls.length<=1000/\(∀ l∈ls,l<16)/\
  ∀ H' p m R,Same H H'->H p=none->(∀ j,j<m->Jw (kN ls) j=none)->Jw (kN ls) m=some R->H' p=some (.lst (R.map nV))->Q (.ref p) H'
abbrev Ex:Stmt:=top 53
theorem sc_few_ties:FnScope ["lifts","kinds","many","ties"] ["lifts"] (Ah Ex):=⟨rfl,rfl,rfl,by decide +kernel,rfl,by decide +kernel,by decide +kernel⟩
theorem KB {f:Addr} {fd:FuncData} (F:Fun K "few_ties" "few_ties" Ex f fd) (T:Txt K mg c) (c_kinds_of:CallF P w K mg base "kinds_of" 2 ["masks"] (DJ K)) (c_ties_behind:CallF P w K mg base "ties_behind" (8+1) ["ties","lifts","many"] (Bu 8)):FnOk P w K mg base CX0 10 f fd ["lifts"] (DE K):=by
  refine F.ok sc_few_ties (λ vs H Q E h=> ?_) (λ cdv A outer s H vs Q E hr h=> ?_)
  · obtain ⟨a,ls,rfl,_⟩:=h;rfl
  · obtain ⟨a,ls,rfl,sa,hl,h16,q⟩:=h;refine ⟨_,(Ac (An (i:=1) sc_few_ties.nd rfl (Or.inl rfl) (Ae c_kinds_of (hr.mono (by decide)) (Aa (pv 0) Ab)))
      (Ac (An (i:=2) sc_few_ties.nd rfl (Or.inl rfl) Ag)
      (Ac (An (i:=3) sc_few_ties.nd rfl (Or.inl rfl) DH)
      (Ac (OO PassesOwn.never (As O0 (pv 3) DH (Aw _)) (Ac (An (i:=3) sc_few_ties.nd rfl (Or.inl rfl) (Ae c_ties_behind hr (Aa (AI Ab) (Aa (pv 1) (Aa (pv 2) Ab)))))
      (Af (LD (i:=2) sc_few_ties.nd rfl (Or.inl rfl) Ag Q1))))
      (Af (Al (pv 3))))))),?_⟩
    walk_at "w";refine ⟨
      false,
      a,ls.map λ (l:Nat)=>(l:Int),rfl,by rw [List.map_map];exact sa,by rw [List.length_map];omega,λ H1 p s1 hp h1=> ?_⟩
    have kl:(kN ls).length<=ls.length:=by
      have:=JT (ls.map λ (l:Nat)=>(l:Int));rw [List.length_map] at this;unfold kN;rw [List.length_map];exact this
    rw [Rw] at h1;have k16:∀ k∈kN ls,k<16:=λ k hk=>h16 k ((Of ls k).mp hk).1;generalize kN ls=Kn at*;walk_at "w";refine ⟨λ r σ H3=>(∃ many:Nat,r=10 - many/\σ=[some (.ref a),some (.ref p),some (nV many),some .non]/\Same H1 H3/\∀ j,j<many->Jw Kn j=none)\/(r=0/\∃ (many:Nat) (p':Addr) (R:List Nat),σ=[some (.ref a),some (.ref p),some (nV (many+1)),some (.ref p')]/\Same H1 H3/\H1 p'=none/\(∀ j,j<many->Jw Kn j=none)/\Jw Kn many=some R/\H3 p'=some (.lst (R.map nV))),⟨10, .inl ⟨0,rfl,rfl,Same.refl _,λ j hj=>absurd hj (Nat.not_lt_zero _)⟩⟩,?_⟩;rintro r σ H3 (⟨many,rfl,rfl,s3,old⟩ | ⟨rfl,many,p',R,rfl,s3,hp',old,hf,hR⟩)
    · have m4:many<=4:=by
        rcases Nat.lt_or_ge 4 many with z | z
        · exact absurd (old 4 z) (MTies.few4 k16)
        · exact z
      walk_at "w";refine ⟨rfl,_,rfl,Gg (λ _=> ?_) λ z=>absurd rfl z⟩;refine ⟨λ σ H4=>(∃ many':Nat,many'=many+1/\σ=[some (.ref a),some (.ref p),some (nV many'),some .non]/\Same H1 H4/\∀ j,j<many'->Jw Kn j=none)\/(∃ (p':Addr) (R:List Nat),σ=[some (.ref a),some (.ref p),some (nV (many+1)),some (.ref p')]/\Same H1 H4/\H1 p'=none/\(∀ j,j<many->Jw Kn j=none)/\Jw Kn many=some R/\H4 p'=some (.lst (R.map nV))),?_,?_⟩
      · rintro σ' H' (⟨many',rfl,e1,e2,e3⟩ | ⟨p',R,e1,e2,e3,e4,e5,e6⟩)
        · exact ⟨_,by omega, .inl ⟨_,rfl,e1,e2,e3⟩⟩
        · exact ⟨0,by omega, .inr ⟨rfl,many,p',R,e1,e2,e3,e4,e5,e6⟩⟩
      walk_at "w";intro l0 hl0;have s4:=Ak (o:=HO.lst []) hl0;have g0:upd H3 l0 (HO.lst []) l0=some (.lst (([]:List Nat).map nV)):=Ad;generalize upd H3 l0 (HO.lst [])=H4 at s4 g0 ⊢;walk_at "w";have hse:MTies.search many [] Kn=Jw Kn many:=MTies.search0 k16 old;refine ⟨l0,p,[],Kn,many,(show many+1<=7 by omega),by simp,g0,s4 _ _ (s3 _ _ h1),by simp;omega,by omega,k16,trivial,λ H5 s5 hn=> ?_,λ H5 p' R s5 hs hp' hR=> ?_⟩
      · walk_at "w";refine JI rfl ?_;walk_at "w";refine .inl ⟨_,rfl,rfl,s3.trans (s4.trans s5),λ j hj=> ?_⟩;rcases Nat.lt_or_ge j many with z | z
        · exact old j z
        · rw [show j=many by omega, <-hse];exact hn
      · walk_at "w";refine JI rfl ?_;walk_at "w";refine .inr ⟨p',R,rfl,s3.trans (s4.trans s5),?_,old,by rw [<-hse];exact hs,hR⟩;rcases hp' with rfl | hp'
        · exact s3.free hl0
        · exact s3.free (s4.free hp')
    · walk_at "w";refine ⟨rfl,_,rfl,Gg (λ z=>by cases z) λ _=> ?_⟩;walk_at "w";exact q H3 p' many R (s1.trans s3) (s1.free hp') old hf hR
def lfN (n:Nat) (rs:List Nat) (r:Nat):Nat:=MM.mOf (E6 (AJ (Ai n rs)) r)
def lfs (n:Nat) (rs:List Nat):List Nat:=rs.map (lfN n rs)
def trN (R:List Nat) (l:Nat):List Nat:=((List.range R.length).filter λ i=>MTies.wn (R.getD i 0) l).map (· + 1)
def ftD (n:Nat) (rs R:List Nat):Dr:=drF n rs (R.map MM.nOf) ((lfs n rs).map (trN R))
theorem Gy (n:Nat) (rs:List Nat) (r i:Nat):(lfN n rs r).testBit i=decide (i+1∈E6 (AJ (Ai n rs)) r):=MG (λ k hk=>(tie_mem.mp hk).1) i
theorem Jx (n:Nat) (rs:List Nat) (r:Nat):lfN n rs r<2 ^ (kN (Ai n rs)).length:=MM.mOf_lt λ k hk=>by
  have h:=tie_mem.mp hk;have:=Bg (Ai n rs);omega
theorem Li {n:Nat} {rs:List Nat} (h:(kN (Ai n rs)).length<=4):∀ l∈lfs n rs,l<16:=λ l hl=>by
  obtain ⟨r,_,rfl⟩:=List.mem_map.mp hl;exact Nat.lt_of_lt_of_le (Jx n rs r) (Nat.pow_le_pow_right (by decide) h)
theorem Fz {n:Nat} {rs:List Nat} {m:Nat} {R:List Nat} (F:MTies.Few (kN (lfs n rs)) m R):∀ t∈R,1<=t/\t<2 ^ (kN (Ai n rs)).length:=λ t ht=>by
  refine ⟨(MTies.rz_ge F.rz.1 t ht).1,?_⟩;obtain ⟨l,hl,hw⟩:=F.used t ht;obtain ⟨hl,_⟩:=Cq hl;obtain ⟨r,_,rfl⟩:=List.mem_map.mp hl;exact Nat.lt_of_le_of_lt (MTies.wn_le hw) (Jx n rs r)
theorem N7 {n:Nat} {rs:List Nat} {m:Nat} {R:List Nat} (F:MTies.Few (kN (lfs n rs)) m R) {l:Nat} (hl:l∈lfs n rs):MM.uOf (R.filter (MTies.wn · l))=l:=by
  by_cases z:l=0
  · subst z;have e:R.filter (MTies.wn · 0)=[]:=List.filter_eq_nil_iff.mpr λ t ht q=>by
      have:=MTies.wn_le q;have:=(Fz F t ht).1;omega
    rw [e];rfl
  · exact F.told ((Of _ _).mpr ⟨hl,z⟩)
theorem Ha {n:Nat} {rs:List Nat} {m:Nat} {R:List Nat} (F:MTies.Few (kN (lfs n rs)) m R) (h:(kN (Ai n rs)).length<=4):R.length<=(kN (Ai n rs)).length:=by
  rw [F.rz.2];exact F.le_sh h λ l hl=>by
    obtain ⟨r,_,rfl⟩:=List.mem_map.mp (Cq hl).1;exact Jx n rs r
theorem EX (R:List Nat):(tiF (R.map MM.nOf)).length=up1 R.length:=by
  unfold tiF up1;cases R with
  | nil=>rfl
  | cons x R=>rw [if_neg (by simp),if_neg (by simp),List.length_map]
theorem Mc {n:Nat} {rs:List Nat} {m:Nat} {R:List Nat} (ok:ClOk n rs) (F:MTies.Few (kN (lfs n rs)) m R) (h:(kN (Ai n rs)).length<=4):DrOk (ftD n rs R) where
  s1:=(CD _).2
  s2:=EJ (by omega) (by decide)
  t1:=by show 1<=(tiF (R.map MM.nOf)).length;rw [EX];exact (CD _).2
  t2:=by show (tiF (R.map MM.nOf)).length<=16;rw [EX];have:=Ha F h;exact EJ (by omega) (by decide)
  h1:=by show 1<=(AG (Ai n rs)).length;unfold AG Ai;simpa using ok.n1
  h2:=by show (AG (Ai n rs)).length<=60;unfold AG Ai;simpa using ok.n2
  hs:=λ t ht=>Nat.le_trans (GA t ht) (CD _).1
  il:=rfl
  ir:=λ l hl=>by
    have hl:l∈tiF (R.map MM.nOf):=hl;unfold tiF at hl;split at hl
    · rw [List.mem_singleton.mp hl];intro i hi;cases hi
    · obtain ⟨t,ht,rfl⟩:=List.mem_map.mp hl;rw [MM.nOf_wide (Fz F t ht).2];exact (CW _ _).mono (CD _).1
  p1:=by show 1<=((lfs n rs).map (trN R)).length;unfold lfs;simpa using ok.p1
  p2:=by show ((lfs n rs).map (trN R)).length<=60;unfold lfs;simpa using ok.p2
  pr:=λ l hl=>by
    obtain ⟨t,ht,rfl⟩:=List.mem_map.mp hl;show Rise (tiF (R.map MM.nOf)).length _;rw [EX];unfold trN;exact (CW _ _).mono (CD _).1
  wl:=by show (List.replicate n _).length=(AG (Ai n rs)).length;unfold AG Ai;simp
  wc:=λ z hz=>by rw [List.eq_of_mem_replicate hz];exact Uv
  fl:=by show (List.replicate rs.length _).length=((lfs n rs).map (trN R)).length;unfold lfs;simp
  fc:=λ z hz=>by rw [List.eq_of_mem_replicate hz];exact V0
theorem L4 {n:Nat} {rs:List Nat} {m:Nat} {R:List Nat} (F:MTies.Few (kN (lfs n rs)) m R) {l:Nat} (hl:l∈lfs n rs):BF (tiF (R.map MM.nOf)) (trN R l)=l:=by
  unfold BF trN;have e:((List.range R.length).filter λ i=>MTies.wn (R.getD i 0) l).map (λ i=>((tiF (R.map MM.nOf)).map MM.mOf).getD i 0)=((List.range R.length).filter λ i=>MTies.wn (R.getD i 0) l).map λ i=>R.getD i 0:=by
    refine List.map_congr_left λ i hi=> ?_;have hi:=List.mem_range.mp (List.mem_filter.mp hi).1;unfold tiF;rw [if_neg (by intro z;rw [List.map_eq_nil_iff.mp z] at hi;cases hi),List.map_map];rw [List.getD_eq_getElem?_getD,List.getElem?_map,List.getElem?_eq_getElem hi,List.getD_eq_getElem?_getD,List.getElem?_eq_getElem hi];exact MM.mOf_nOf _
  rw [List.map_map];have e2:(List.map ((λ k=>((tiF (R.map MM.nOf)).map MM.mOf).getD (k - 1) 0)∘λ x=>x+1) ((List.range R.length).filter λ i=>MTies.wn (R.getD i 0) l))=((List.range R.length).filter λ i=>MTies.wn (R.getD i 0) l).map (λ i=>((tiF (R.map MM.nOf)).map MM.mOf).getD i 0):=rfl;rw [e2,e,GE (MTies.wn · l) R];exact N7 F hl
theorem PX {n:Nat} {rs:List Nat} {m:Nat} {R:List Nat} (F:MTies.Few (kN (lfs n rs)) m R):(ftD n rs R).td.map (BF (ftD n rs R).ti)=lfs n rs:=by
  show ((lfs n rs).map (trN R)).map (BF (tiF (R.map MM.nOf)))=lfs n rs;rw [List.map_map];exact (List.map_congr_left λ l hl=>L4 F hl).trans (List.map_id _)
theorem Zz {n p e:Nat} {rs:List Nat} {m:Nat} {R:List Nat} (ok:ClOk n rs) (F:MTies.Few (kN (lfs n rs)) m R) (h:(kN (Ai n rs)).length<=4) (hp:p<rs.length) (he:e<n):isL (ftD n rs R) p ((ftD n rs R).th.getD e 0)=(rs.getD p 0).testBit e:=by
  have okd:=Mc ok F h;have lt:p<(ftD n rs R).td.length:=by show p<((lfs n rs).map (trN R)).length;unfold lfs;simpa using hp
  rw [<-JL hp he];show isL (ftD n rs R) p ((AG (Ai n rs)).getD e 0)=_;rcases Nat.eq_zero_or_pos ((AG (Ai n rs)).getD e 0) with z | z
  · rw [z,J1 okd lt];exact (decide_eq_false λ q=>by have:=(tie_mem.mp q).1;omega).symm
  · obtain ⟨s,hs⟩:∃ s,(AG (Ai n rs)).getD e 0=s+1:=⟨(AG (Ai n rs)).getD e 0 - 1,by omega⟩;rw [hs, <-KZ okd lt];have e1:(ftD n rs R).td.getD p []=trN R (lfN n rs (rs.getD p 0)):=by
      show ((lfs n rs).map (trN R)).getD p []=_;unfold lfs;rw [List.map_map,List.getD_eq_getElem?_getD,List.getElem?_map,List.getElem?_eq_getElem hp,List.getD_eq_getElem?_getD,List.getElem?_eq_getElem hp];rfl
    rw [e1];show (BF (tiF (R.map MM.nOf)) (trN R (lfN n rs (rs.getD p 0)))).testBit s=_;rw [L4 F (List.mem_map.mpr ⟨_,Au hp,rfl⟩),Gy]
theorem T5 {n:Nat} {rs:List Nat} {m:Nat} {R:List Nat} (ok:ClOk n rs) (F:MTies.Few (kN (lfs n rs)) m R) (h:(kN (Ai n rs)).length<=4):Gp (ftD n rs R)=rs:=by
  have okd:=Mc ok F h;have lt:(ftD n rs R).td.length=rs.length:=by show ((lfs n rs).map (trN R)).length=_;unfold lfs;simp
  have lh:(ftD n rs R).th.length=n:=by show (AG (Ai n rs)).length=_;unfold AG Ai;simp
  have lw:(Gp (ftD n rs R)).length=rs.length:=by unfold Gp;rw [List.length_map,lt]
  refine List.ext_getElem lw λ p g1 g2=> ?_;refine Nat.eq_of_testBit_eq λ e=> ?_;have a1:(Gp (ftD n rs R))[p]=(Gp (ftD n rs R)).getD p 0:=by rw [List.getD_eq_getElem?_getD,List.getElem?_eq_getElem g1];rfl
  have a2:rs[p]=rs.getD p 0:=by rw [List.getD_eq_getElem?_getD,List.getElem?_eq_getElem g2];rfl
  rcases Nat.lt_or_ge e n with z | z
  · rw [a1,a2,RL okd (by omega) (by omega),Zz ok F h g2 z]
  · have b1:=(Qc okd).lt _ (List.getElem_mem g1);have b2:=ok.lt _ (List.getElem_mem g2);rw [lh] at b1;have hz:2 ^ n<=2 ^ e:=Nat.pow_le_pow_right (by decide) z;rw [Nat.testBit_lt_two_pow (by omega),Nat.testBit_lt_two_pow (by omega)]
def BQ (c:Cs):Sp:=λ vs H Q E=>∃ x n rs,vs=[.ref x]/\ClAt c.Cloth H x n rs/\ClOk n rs/\
  ((kN (Ai n rs)).length<=4->∀ H' y m R,Same H H'->H y=none->MTies.Few (kN (lfs n rs)) m R->DrAt c.Draft H' y (ftD n rs R)->Q (.ref y) H')/\
  (4<(kN (Ai n rs)).length->∀ H' dx,Same H H'->H' dx=some (xdO dx [("what", .str "shafts"),("many",nV (kN (Ai n rs)).length)])->E (.ref c.TooMany) (some dx) H')
abbrev Bv:Stmt:=top 55
theorem sc_fewest_treadles:FnScope ["cloth","shown_ends","lifts","ties","treading"] ["cloth"] (Ah Bv):=⟨rfl,rfl,rfl,by decide +kernel,rfl,by decide +kernel,by decide +kernel⟩
theorem Eu {f:Addr} {fd:FuncData} (F:Fun K "fewest_treadles" "fewest_treadles" Bv f fd) (T:Txt K mg c) (c_fewest_shown:CallF P w K mg base "fewest_shown" 5 ["cloth"] (BK c)) (c_need_at_most:CallE P w K mg base "need_at_most" 3 ["most","what","many"] (BM c)) (c_tie_at:CallF P w K mg base "tie_at" 4 ["cloth","shown_ends","pick"] (Fy c)) (c_mask_of:CallF P w K mg base "mask_of" 2 ["numbers"] (BY K)) (c_few_ties:CallF P w K mg base "few_ties" 10 ["lifts"] (DE K)) (c_trodden_of:CallF P w K mg base "trodden_of" 2 ["lift","ties"] (El K)) (c_numbers_of:CallF P w K mg base "numbers_of" 3 ["mask"] CB) (c_draft_for:CallF P w K mg base "draft_for" 8 ["cloth","ties","treading"] (C4 c)) (d_Cloth_picks:Bk P w K mg base c.Cloth "picks" 1 ["self"] (B4 c)):FnOk P w K mg base (CXE P w) 11 f fd ["cloth"] (BQ c):=by
  refine Fun.okE F sc_fewest_treadles (λ vs H Q E h=> ?_) (λ cdv A outer s H vs Q E hr h=> ?_)
  · obtain ⟨x,n,rs,rfl,_⟩:=h;rfl
  · obtain ⟨x,n,rs,rfl,cx,ok,kq,ke⟩:=h;have n2:=ok.n2;have p2:=ok.p2;have p1:=ok.p1;have lc:(Ai n rs).length=n:=by unfold Ai;simp
    have l1:=G0 (Ai n rs);have f1:=Bg (Ai n rs);refine ⟨_,(Ac (An (i:=1) sc_fewest_treadles.nd rfl (Or.inr rfl) (Bi (Ca (K:=K)) (Ae c_fewest_shown (hr.mono (by decide)) (Aa (pv 0) Ab)) Ag (λ _ _=>rfl)))
      (Ac (AL (Dp c_need_at_most (hr.mono (by decide)) My (Aa (Fw T.k_MOST_LIFTED) (Aa AE (Aa (Aj (AZ (K:=K)) rfl (T.own _ (by decide)) boot_len (Aa (pv 1) Ab)) Ab)))))
      (Ac (B5 (i:=2) sc_fewest_treadles.nd rfl (Or.inl rfl) (CK rfl (T.own _ (by decide)) (Aa Ag (Aa (Ao Ba (A3 (pv 0) d_Cloth_picks (hr.mono (by decide))) Ag) Ab))) (λ _ _ _ _=>Ax) (λ _ _ _ _=>(Ae c_mask_of (hr.mono (by decide)) (Aa (Ae c_tie_at (hr.mono (by decide)) (Aa (pv 1) (Aa (pv 2) (Aa (pv 0) Ab)))) Ab))))
      (Ac (An (i:=3) sc_fewest_treadles.nd rfl (Or.inr rfl) (Ae c_few_ties hr (Aa (pv 2) Ab)))
      (Ac (B5 (i:=4) sc_fewest_treadles.nd rfl (Or.inl rfl) (A5 (K:=K) (pv 2)) (λ _ _ _ _=>Ax) (λ _ _ _ _=>(Ae c_trodden_of (hr.mono (by decide)) (Aa (pv 0) (Aa (pv 1) Ab)))))
      (Af (Al (Ae c_draft_for (hr.mono (by decide)) (Aa (pv 0) (Aa (Av (A5 (K:=K) (pv 3)) (λ _ _ _ _=>Ax) (λ _ _ _ _=>(Ae c_numbers_of (hr.mono (by decide)) (Aa (pv 0) Ab)))) (Aa (pv 4) Ab))))))))))),?_⟩
    walk_at "w";refine ⟨x,n,rs,rfl,cx,ok,λ H1 p a b s1 hp ha hb nab gp ga gb=> ?_⟩;walk_at "w";refine Bh (SqT.of gp) rfl ?_;walk_at "w";refine AC (SqL.of ga) ?_;walk_at "w";rw [List.length_map,f1];refine ⟨4,_,"shafts",rfl,by decide +kernel,by omega,λ hs=> ?_,λ hs H' dx s g=>ke hs H' dx (s1.trans s) g⟩;obtain ⟨dx,t,gx,_⟩:=id (cx.same s1);walk_at "w";refine ⟨_,_,_,rfl,gx,rfl,?_⟩;walk_at "w";refine ⟨x,n,rs,rfl,cx.same s1,?_⟩;walk_at "w";refine ⟨_,_,rfl,⟨by decide,by decide,by omega,by omega⟩,λ D hD=> ?_⟩;rw [show (((rs.length:Nat):Int)+1 - 1).toNat=rs.length by omega];refine AN (G:=λ j=>((lfN n rs (rs.getD j 0):Nat):Int)) (Ec rfl) hD (by omega) ?_ ?_
    · intro i H' R hi s kk;rw [show (1:Int)+((i:Nat):Int)=((i+1:Nat):Int) by omega];walk_at "w";refine ⟨x,n,rs,a,AJ (Ai n rs),i+1,rfl,cx.same (s1.trans s),s _ _ ga,by omega,λ e he=> ?_,by omega,by omega,λ H3 l s3 hl gl=> ?_⟩
      · obtain ⟨e1,e2⟩:=FP he;omega
      walk_at "w";rw [Nat.add_sub_cancel] at gl;refine ⟨false,l,_,rfl,SqL.of gl,λ k hk=> ?_,λ H4 s4=>kk H4 (s3.trans s4)⟩;have:=tie_mem.mp hk;omega
    intro H2 s2 g2;rw [IY,Ar (lfN n rs) rs 0] at g2;have g2:H2 D=some (.lst ((lfs n rs).map nV)):=g2;have s12:=s1.trans s2;have ll:(lfs n rs).length=rs.length:=by unfold lfs;rw [List.length_map]
    walk_at "w";refine ⟨D,lfs n rs,rfl,SqL.of g2,by omega,Li hs,λ H3 q m R s3 hq old now g3=> ?_⟩;have F:MTies.Few (kN (lfs n rs)) m R:=⟨old,now⟩;have r4:=Ha F hs;have s13:=s12.trans s3;walk_at "w";refine ⟨D,rfl,⟨_,SqL.of (s3 _ _ g2)⟩,λ D2 hD2=> ?_⟩;refine A7 (m:=1) (G:=λ i=>dL (trN R ((lfs n rs).getD i 0))) (AB (SqL.of (s3 _ _ g2)) rfl) hD2 (by rw [List.length_map];omega) ?_ ?_
    · intro i H' R' hi s kk;rw [Aq hi];walk_at "w";refine ⟨_,q,R,rfl,SqL.of (s _ _ g3),by omega,λ H4 l s4 hl gl=>kk H4 _ s4 (Dm ?_ hl ?_)⟩
      · rw [gl];unfold trN;rw [List.map_map,List.map_map];rfl
      · unfold trN;rw [List.length_map];exact Nat.le_trans (List.length_filter_le _ _) (by rw [List.length_range];omega)
    intro H4 ys s4 gD rD;rw [List.length_map,Ar (λ l=>dL (trN R l)) (lfs n rs) 0] at rD;walk_at "w";refine ⟨q,rfl,⟨_,SqL.of (s4 _ _ g3)⟩,λ D3 hD3=> ?_⟩;refine A7 (m:=1) (G:=λ i=>dL (MM.nOf (R.getD i 0))) (AB (SqL.of (s4 _ _ g3)) rfl) hD3 (by rw [List.length_map];omega) ?_ ?_
    · intro i H' R' hi s kk;have hi':i<R.length:=by simpa using hi
      have hb:=Fz F _ (Au (y:=0) hi');have h16:R.getD i 0<2 ^ 4:=Nat.lt_of_lt_of_le hb.2 (Nat.pow_le_pow_right (by decide) hs);rw [Aq hi];walk_at "w";refine ⟨_,rfl,Nat.lt_of_lt_of_le h16 (Nat.pow_le_pow_right (by decide) (by decide)),λ H5 l s5 hl gl=>kk H5 _ s5 (Dm gl hl ?_)⟩;have:=MM.nOf_len h16;omega
    intro H5 ys5 s5 gD5 rD5;rw [List.length_map,Ar (λ t=>dL (MM.nOf t)) R 0] at rD5;have e1:R.map (λ t=>dL (MM.nOf t))=(R.map MM.nOf).map dL:=by rw [List.map_map];rfl
    have e2:(lfs n rs).map (λ l=>dL (trN R l))=((lfs n rs).map (trN R)).map dL:=by rw [List.map_map];rfl
    rw [e1] at rD5;rw [e2] at rD;walk_at "w";have s15:=s13.trans (s4.trans s5);refine ⟨x,n,rs,_,_,R.map MM.nOf,(lfs n rs).map (trN R),rfl,cx.same s15,ok,rD5.any,(rD.any).same s5,Mc ok F hs,λ H6 y s6 hy D6=> ?_⟩;exact kq hs H6 y m R (s15.trans s6) (s15.free hy) F D6
theorem Tb (s:Nat):(0:Int)<1*2 ^ ((s:Nat):Int).toNat:=by
  rw [Int.one_mul];exact Int.pow_pos (by decide)
theorem OA (s:Nat):(1:Int)*2 ^ ((s:Nat):Int).toNat=((2 ^ s:Nat):Int):=by
  rw [Int.one_mul,Int.toNat_natCast];simp
theorem S7 (x:Int) (s:Nat):x%((2 ^ s:Nat):Int)=(((x%(2 ^ s:Nat)).toNat:Nat):Int):=by
  have:=Int.emod_nonneg x (show ((2 ^ s:Nat):Int)≠0 by have:=Nat.two_pow_pos s;omega);omega
theorem YA (x:Int) (s:Nat):(x%(2 ^ s:Nat)).toNat<2 ^ s:=by
  have h0:=Nat.two_pow_pos s;have:=Int.emod_lt_of_pos x (show (0:Int)<((2 ^ s:Nat):Int) by omega);have:=Int.emod_nonneg x (show ((2 ^ s:Nat):Int)≠0 by omega);omega
theorem MY {x:Int} {m:Nat} (h:0<m):∃ t:Nat,x%((m:Nat):Int)=((t:Nat):Int)/\t<m:=by
  have h0:=Int.emod_nonneg x (show ((m:Nat):Int)≠0 by omega);have h1:=Int.emod_lt_of_pos x (show (0:Int)<((m:Nat):Int) by omega);exact ⟨(x%((m:Nat):Int)).toNat,by omega,by omega⟩
def Fc (K:PySem.W.Frag):Sp:=λ vs H Q _=>∃ (a:Addr) (ns:List Int) (n:Nat),vs=[.ref a,nV n]/\SqL K H a (ns.map V.int)/\ns.length<=63/\1<=n/\n<=60/\∀ H' p rs,Same H H'->H p=none->H' p=some (.lst (rs.map nV))->ClOk n rs->Q (.ref p) H'
abbrev DA:Stmt:=top 69
theorem sc__law_rows:FnScope ["_law_script","_law_ends","_law_whole","_law_cells","_law_cell","_law_kinds_here","_law_rows_here","_law_row","_law_end","_law_kind"] ["_law_script","_law_ends"] (Ah DA):=⟨rfl,rfl,rfl,by decide +kernel,rfl,by decide +kernel,by decide +kernel⟩
theorem Jq {f:Addr} {fd:FuncData} (F:Fun K "_law_rows" "_law_rows" DA f fd) (T:Txt K mg c) (c__law_mixed:CallF P w K mg base "_law_mixed" 1 ["_law_cell","_law_k"] Cv):FnOk P w K mg base CX0 2 f fd ["_law_script","_law_ends"] (Fc K):=by
  refine F.ok sc__law_rows (λ vs H Q E h=> ?_) (λ cdv A outer s H vs Q E hr h=> ?_)
  · obtain ⟨a,ns,n,rfl,_⟩:=h;rfl
  · obtain ⟨a,ns,n,rfl,sa,hl,hn1,hn2,k⟩:=h;have hu:=hr.units0;refine ⟨_,(Ac (An (i:=2) sc__law_rows.nd rfl (Or.inl rfl) (Ao Ba (Aj (P0 (K:=K)) rfl (T.own _ (by decide)) boot_sum (Aa (pv 0) Ab)) (Aj (AZ (K:=K)) rfl (T.own _ (by decide)) boot_len (Aa (pv 0) Ab))))
      (Ac (An (i:=3) sc__law_rows.nd rfl (Or.inl rfl) (Ao (GX (K:=K)) (Hj (Oo (K:=K)) (pv 0) Jl (Jy Ag)) (Ao EO (AI (Aa Ag Ab)) (Ap O6 rfl (T.own _ (by decide)) boot_int (Aa (BB (Xq hu (K:=K)) (pv 0) (AI Ab) (Aw _)) Ab)))))
      (Ac (Bc (As E7 (Ao B1 (Ae c__law_mixed hr (Aa (pv 2) (Aa Ag Ab))) Ag) Ag (Aw _)) (Af (Al (Av (A5 (K:=K) (pv 3)) (λ _ _ _ _=>Ax) (λ _ _ _ _=>(Ao B1 (pv 0) (Ao Ho Ag (pv 1))))))) AK)
      (Ac (An (i:=5) sc__law_rows.nd rfl (Or.inl rfl) (Ao (GX (K:=K)) (Ao EO (AI (Aa (Ao B1 (Ae c__law_mixed hr (Aa (pv 2) (Aa Ag Ab))) Ag) Ab)) (Ap O6 rfl (T.own _ (by decide)) boot_int (Aa (BB E7 (Ao B1 (Ae c__law_mixed hr (Aa (pv 2) (Aa Ag Ab))) Ag) Ag (Aw _)) Ab))) (J6 rfl (T.own _ (by decide)) rfl (T.own _ (by decide)) (Aa (Ao Ba Ag (Ao B1 (Ae c__law_mixed hr (Aa (pv 2) (Aa Ag Ab))) Ag)) Ab))))
      (Ac (An (i:=6) sc__law_rows.nd rfl (Or.inl rfl) (AI Ab))
      (Ac (Cp PassesOwn.never rfl (A5 (K:=K) (pv 3)) (Bd (i:=4) sc__law_rows.nd rfl (Or.inl rfl)) (Ac (An (i:=7) sc__law_rows.nd rfl (Or.inl rfl) Ag)
      (Ac (Cp PassesOwn.never rfl (Fx rfl (T.own _ (by decide)) (Aa (pv 1) Ab)) (Bd (i:=8) sc__law_rows.nd rfl (Or.inl rfl)) (Ac (An (i:=9) sc__law_rows.nd rfl (Or.inl rfl) (Bi (KI (K:=K)) (pv 5) (Ao B1 (Ae c__law_mixed hr (Aa (pv 2) (Aa (Ao Ba Ag (pv 8)) Ab))) (Aj (AZ (K:=K)) rfl (T.own _ (by decide)) boot_len (Aa (pv 5) Ab))) (λ _ _=>rfl)))
      (Af (An (i:=7) sc__law_rows.nd rfl (Or.inl rfl) (Ao Ba (pv 7) (Ao Ho (Ao Lx (Ao O5 (pv 4) (pv 9)) Ag) (pv 8)))))))
      (Af (AL (Mj (K:=K) PySem.F.plainAttrs_list PySem.F.slot_list_append PySem.F.type_list_append DY (pv 6) (Aa (pv 7) Ab)))))))
      (Af (Al (pv 6))))))))),?_⟩
    walk_at "w";refine Ly sa ?_;walk_at "w";refine AC sa ?_;walk_at "w";generalize ns.sum+((ns.map V.int).length:Int)=W;refine LT sa λ p1 n1=> ?_;rw [N9 (by decide), <-List.map_take];wrow_has H x1;walk_at "w";row_lines H1 x2;walk_at "w";row_lines H2 x3;walk_at "w";have s13:=s1.trans (s2.trans s3);refine Rn (as:=ns) (bs:=[]) (s13.seq sa) (SqL.of g3) ?_;walk_at "w";refine ⟨_,rfl,?_⟩;have hb2:(0:Int)<=(if decide (ns=[])=true then 1 else 0)/\(if decide (ns=[])=true then (1:Int) else 0)<=1:=by split <;> decide
    refine EV (s3 _ _ g2) hb2.1 (by omega) (by simp) λ p4 n4=> ?_;have e4:(List.replicate (if decide (ns=[])=true then (1:Int) else 0).toNat [V.int 5]).flatten=(if ns=[] then [5] else []).map V.int:=by
      by_cases z:ns=[]
      · simp [z]
      · simp [z]
    rw [e4];wrow_has H3 x4;walk_at "w";obtain ⟨cs,ec,lc1,lc2⟩:∃ cs:List Int,(ns.take (60:Int).toNat).map V.int++(if ns=[] then [5] else []).map V.int=cs.map V.int/\1<=cs.length/\cs.length<=60:=by
      refine ⟨ns.take (60:Int).toNat++(if ns=[] then [5] else []),by rw [List.map_append],?_,?_⟩
      · cases ns with
        | nil=>decide
        | cons x xs=>simp
      · cases ns with
        | nil=>decide
        | cons x xs=>simp;omega
    refine EL (SqL.of ((s2.trans (s3.trans s4)) _ _ g1)) (SqL.of g4) (by have:=congrArg List.length ec;simp only [List.length_append,List.length_map] at this ⊢;omega) λ p5 n5=> ?_;rw [ec];wrow_has H4 x5;have s05:Same H H5:=s13.trans (s4.trans s5);clear ec g1 g2 g3 g4 e4 hb2;walk_at "w";refine ⟨W,3,rfl,⟨by decide,by decide⟩,?_⟩;walk_at "w";refine A9 (by decide) ?_;walk_at "w";refine Gg (λ h0=> ?_) (λ h0=> ?_)
    · walk_at "w";refine ⟨p5,rfl,⟨_,SqL.of g5⟩,λ D hD=> ?_⟩;refine AN (G:=λ i=>(((cs.getD i 0%(2 ^ n:Nat)).toNat:Nat):Int)) (AB (SqL.of g5) rfl) hD (by rw [List.length_map];omega) ?_ ?_
      · intro i H' R hi s kk;rw [Kc hi];walk_at "w";refine A9 ⟨by omega,by omega,by decide⟩ ?_;walk_at "w";refine A9 (Tb n) ?_;rw [OA,S7];exact kk H' (Same.refl _)
      intro H6 s6 g6;rw [IY,List.length_map] at g6;refine k H6 D _ (s05.trans s6) (s05.free hD) g6 ⟨hn1,hn2,by simpa using lc1,by simpa using lc2,λ r hr=> ?_⟩;obtain ⟨i,_,rfl⟩:=List.mem_map.mp hr;exact YA _ _
    walk_at "w";refine ⟨W,4,rfl,⟨by decide,by decide⟩,?_⟩;walk_at "w";refine A9 (by decide) ?_;walk_at "w";obtain ⟨k7,e7,l7⟩:=MY (x:=Dk W 4) (show 0<7 by decide);rw [show Dk W 4%7=((k7:Nat):Int) from e7];row_lines H5 x6;walk_at "w";refine ⟨W,5,rfl,⟨by decide,by decide⟩,?_⟩;walk_at "w";refine A9 (by decide) ?_;walk_at "w";refine ⟨_,rfl,?_⟩;have hb2:(0:Int)<=(if decide (Dk W 5%3=0)=true then 1 else 0)/\(if decide (Dk W 5%3=0)=true then (1:Int) else 0)<=1:=by split <;> decide
    refine EV g6 hb2.1 (by omega) (by simp) λ p7 n7=> ?_;have e6:(List.replicate (if decide (Dk W 5%3=0)=true then (1:Int) else 0).toNat [V.int ((k7:Nat):Int)]).flatten=(if Dk W 5%3=0 then [k7] else []).map nV:=by
      by_cases z:Dk W 5%3=0
      · simp [z]
      · simp [z]
    rw [e6];wrow_has H6 x7;walk_at "w";refine KU ?_;walk_at "w";refine ⟨W,6,rfl,⟨by decide,by decide⟩,?_⟩;walk_at "w";refine A9 (by decide) ?_;walk_at "w";obtain ⟨k6,e6',l6⟩:=MY (x:=Dk W 6) (show 0<6 by decide);rw [show Dk W 6%6=((k6:Nat):Int) from e6'];refine ⟨_,rfl,⟨by omega,by omega⟩,by omega,λ p8 n8=> ?_⟩;rw [show ((1:Int)+((k6:Nat):Int)).toNat=k6+1 by omega];wrow_has H7 x8;walk_at "w";obtain ⟨Ks,eK,lK1,lK2,bK⟩:∃ Ks:List Nat,(if Dk W 5%3=0 then [k7] else []).map nV++((List.range (k6+1)).map λ k:Nat=>(k:Int)).map V.int=Ks.map nV/\1<=Ks.length/\Ks.length<=7/\∀ q∈Ks,q<7:=by
      refine ⟨(if Dk W 5%3=0 then [k7] else [])++List.range (k6+1),by rw [List.map_append,List.map_map];rfl,?_,?_,λ q hq=> ?_⟩
      · simp;omega
      · by_cases z:Dk W 5%3=0 <;> simp [z] <;> omega
      · rcases List.mem_append.mp hq with hq | hq
        · by_cases z:Dk W 5%3=0
          · rw [if_pos z] at hq;rw [List.mem_singleton.mp hq];exact l7
          · rw [if_neg z] at hq;cases hq
        · have:=List.mem_range.mp hq;omega
    refine EL (SqL.of (s8 _ _ g7)) (SqL.of g8) (by have:=congrArg List.length eK;simp only [List.length_append,List.length_map] at this ⊢;omega) λ p9 n9=> ?_;rw [eK];wrow_has H8 x9;clear eK e6 e6' e7 g7 g6 g8 hb2;walk_at "w";row_lines H9 x10;have s510:Same H5 H10:=s6.trans (s7.trans (s8.trans (s9.trans s10)));have h05:=s510 _ _ g5;have hK:=s10 _ _ g9;walk_at "w";have h95:=(s6.trans (s7.trans (s8.trans s9))) _ _ g5;refine ⟨p5,rfl,⟨_,SqL.of h05⟩,Fm (H0:=H9) (L9 (SqL.of h95)) (λ i σ H3=>∃ v1 v2 v3 v4,∃ rs:List Nat,σ=[some (.ref a),some (nV n),some (.int W),some (.ref p5),v1,some (.ref p9),some (.ref p10),v2,v3,v4]/\Same H9 H3/\H3 p10=some (.lst (rs.map nV))/\rs.length=i/\∀ r∈rs,r<2 ^ n) ⟨_,_,_,_,[],rfl,s10,g10,rfl,λ r hr=>nomatch hr⟩ (λ i σ H3 ⟨_,_,_,_,_,_,s,_⟩=>s) ?_ ?_⟩
    · rintro i σ H' H11 hi0 ⟨v1,v2,v3,v4,rs,rfl,s',h',li,br⟩ s11;have hi:i<cs.length:=by simpa using hi0
      have sB:=s'.trans s11;have hr':=s11 _ _ h';rw [Kc hi0];generalize cs.getD i 0=z;walk_at "w";refine ⟨_,rfl,by omega,by omega,?_⟩;rw [Int.toNat_natCast];refine DS (FF (n:=n)) (λ e σ H3=>∃ v3 v4,∃ r:Nat,σ=[some (.ref a),some (nV n),some (.int W),some (.ref p5),some (.int z),some (.ref p9),some (.ref p10),some (nV r),v3,v4]/\Same H11 H3/\r<2 ^ e) ⟨_,_,0,rfl,Same.refl _,by decide⟩ (λ i σ H3 ⟨_,_,_,_,s,_⟩=>s) ?_ ?_
      · rintro e σ H12 H13 he ⟨v3',v4',r,rfl,s12,hr2⟩ s13';have sC:=s12.trans s13';walk_at "w";refine ⟨W,_,rfl,⟨by omega,by omega⟩,?_⟩;walk_at "w";refine AC (SqL.of (sC _ _ (sB _ _ g9))) ?_;walk_at "w";rw [List.length_map];refine A9 (by show (0:Int)<_;omega) ?_;obtain ⟨j,ej,lj⟩:=MY (x:=Dk W (7+((e:Nat):Int))) (show 0<Ks.length by omega);rw [ej];refine G6 (v:=nV Ks[j]) (SqL.of (sC _ _ (sB _ _ g9))) (A4 (j:=j) (by rw [List.getElem?_map,List.getElem?_eq_getElem lj];rfl)) ?_;have hq:=bK _ (List.getElem_mem lj);generalize Ks[j]=q at hq;walk_at "w";refine A9 (by show (0:Int)<=_;omega) ?_;walk_at "w";rw [bitAnd_m1];obtain ⟨b,eb,lb⟩:=MY (x:=z / 2 ^ ((q:Nat):Int).toNat) (show 0<2 by decide);rw [show z / 2 ^ ((q:Nat):Int).toNat%2=((b:Nat):Int) from eb];refine A9 ⟨by omega,by omega,by rw [Int.natAbs_natCast];exact Nat.lt_of_lt_of_le lb (by decide)⟩ ?_;walk_at "w";rw [show ((r:Nat):Int)+((b:Nat):Int)*2 ^ ((e:Nat):Int).toNat=((r+b*2 ^ e:Nat):Int) by rw [Int.toNat_natCast];push_cast;rfl];refine ⟨_,_,_,rfl,sC,?_⟩;rw [Nat.pow_succ];have:b*2 ^ e<=1*2 ^ e:=Nat.mul_le_mul_right _ (by omega);omega
      · rintro σ H12 ⟨v3',v4',r,rfl,s12,hr2⟩;walk_at "w";have h12:=s12 _ _ hr';refine tyL (SqL.of h12) ?_;walk_at "w";refine Lm h12 (by rw [List.length_map];omega) ?_;walk_at "w";refine ⟨_,_,_,_,rs++[r],rfl,DU (sB.trans s12) n10,by rw [Ad,List.map_append];rfl,by rw [List.length_append,li];rfl,λ x hx=> ?_⟩;rcases List.mem_append.mp hx with hx | hx
        · exact br x hx
        · rw [List.mem_singleton.mp hx];exact hr2
    · rintro σ H11 ⟨v1,v2,v3,v4,rs,rfl,s',h',li,br⟩;rw [List.length_map] at li;walk_at "w";have s09:Same H H9:=s05.trans (s6.trans (s7.trans (s8.trans s9)));exact k H11 p10 rs (s09.trans s') (s09.free n10) h' ⟨hn1,hn2,by omega,by omega,br⟩
theorem Rk {ms:List Nat} {i:Nat} (h:i<ms.length):kN (ms.take (i+1))=if ms[i]∈0::kN (ms.take i) then kN (ms.take i) else kN (ms.take i)++[ms[i]]:=by
  have e:=GJ (ms.map λ n=>((n:Nat):Int)) i (by rw [List.length_map];exact h);rw [<-List.map_take, <-List.map_take,List.getElem_map] at e;have e9:kN (ms.take (i+1))=(BV (kOf ((ms.take i).map λ n=>((n:Nat):Int))) ((ms[i]:Nat):Int)).map Int.toNat:=by
    unfold kN;rw [e]
  rw [e9];unfold BV;have e2:((ms[i]:Nat):Int)∈(0::kOf ((ms.take i).map λ n=>((n:Nat):Int)))↔ms[i]∈0::kN (ms.take i):=by
    rw [<-FR];have e:(0:Int)::(kN (ms.take i)).map (λ n=>((n:Nat):Int))=(0::kN (ms.take i)).map λ n=>((n:Nat):Int):=rfl;rw [e,List.mem_map];exact ⟨λ ⟨a,ha,q⟩=>by rw [show ms[i]=a by omega];exact ha,λ q=>⟨_,q,rfl⟩⟩
  by_cases z:ms[i]∈0::kN (ms.take i)
  · rw [if_pos (e2.mpr z),if_pos z];rfl
  · rw [if_neg (λ q=>z (e2.mp q)),if_neg z,List.map_append];rfl
def Dn (w m:Nat):List Nat:=(List.range w).map λ p=>(m.testBit p).toNat
theorem Ov {w m m':Nat} (h1:m<2 ^ w) (h2:m'<2 ^ w) (h:Dn w m=Dn w m'):m=m':=by
  refine Nat.eq_of_testBit_eq λ p=> ?_;rcases Nat.lt_or_ge p w with z | z
  · unfold Dn at h;have:=List.map_inj_left.mp h p (List.mem_range.mpr z)
    revert this
    cases m.testBit p <;> cases m'.testBit p <;> simp
  · have hz:2 ^ w<=2 ^ p:=Nat.pow_le_pow_right (by decide) z;rw [Nat.testBit_lt_two_pow (by omega),Nat.testBit_lt_two_pow (by omega)]
theorem Kf {w m:Nat} (h:m<2 ^ w):1∈Dn w m↔m≠0:=by
  unfold Dn;rw [List.mem_map];constructor
  · rintro ⟨p,_,e⟩ z;rw [z,Nat.zero_testBit] at e;cases e
  · intro z;obtain ⟨p,hp⟩:=Nat.exists_testBit_of_ne_zero z;refine ⟨p,List.mem_range.mpr ?_,by rw [hp];rfl⟩;rcases Nat.lt_or_ge p w with y | y
    · exact y
    · have hz:2 ^ w<=2 ^ p:=Nat.pow_le_pow_right (by decide) y;rw [Nat.testBit_lt_two_pow (by omega)] at hp;cases hp
theorem O8 {n:Nat} {rs:List Nat}:∀ m∈Ai n rs,m<2 ^ rs.length:=λ m hm=>by
  unfold Ai at hm;obtain ⟨i,_,rfl⟩:=List.mem_map.mp hm;unfold IT;exact MM.ofB_lt _ _
theorem Lb {H H':Hp} {l:Addr} (s:Same H H'):Same (bar l H) (bar l H'):=λ b o e=>by
  unfold bar at e ⊢;split at e
  · cases e
  · rename_i n
    rw [if_neg n];exact s b o e
theorem Mn {H:Hp} {l:Addr} {o:HO}:bar l (upd H l o)=bar l H:=by
  funext b;unfold bar;by_cases z:b=l
  · rw [if_pos z,if_pos z]
  · rw [if_neg z,if_neg z,Am z]
theorem OS {T:Addr} {H:Hp} {b:Addr} {o:HO} (h:H b=some o) (n:b≠T):bar T H b=some o:=by unfold bar;rw [if_neg n];exact h
theorem Q8 (m s:Nat):Builtin.bitAnd (((m:Nat):Int) / 2 ^ ((s:Nat):Int).toNat) 1=(((m.testBit s).toNat:Nat):Int):=by
  rw [bitAnd_m1,Int.toNat_natCast, <-MM.bit_div];push_cast;rfl
def Dh:Sp:=λ vs H Q _=>∃ (a:Addr) (n:Nat) (rs:List Nat),vs=[.ref a,nV n]/\H a=some (.lst (rs.map nV))/\ClOk n rs/\∀ H' p ys,Same H H'->H p=none->H' p=some (.lst ys)->ys.length=(kN (Ai n rs)).length->Q (.ref p) H'
abbrev B2:Stmt:=top 70
theorem sc__law_columns:FnScope ["_law_rows_here","_law_ends","_law_found","_law_end","_law_column"] ["_law_rows_here","_law_ends"] (Ah B2):=⟨rfl,rfl,rfl,by decide +kernel,rfl,by decide +kernel,by decide +kernel⟩
theorem Gq {f:Addr} {fd:FuncData} (F:Fun K "_law_columns" "_law_columns" B2 f fd) (T:Txt K mg c):FnOk P w K mg base CX0 1 f fd ["_law_rows_here","_law_ends"] Dh:=by
  refine F.ok sc__law_columns (λ vs H Q E h=> ?_) (λ cdv A outer s H vs Q E hr h=> ?_)
  · obtain ⟨a,n,rs,rfl,_⟩:=h;rfl
  · obtain ⟨a,n,rs,rfl,ha,ok,k⟩:=h;have hu:=hr.units0;have hn1:=ok.n1;have n2:=ok.n2;have p2:=ok.p2;refine ⟨_,(Ac (An (i:=2) sc__law_columns.nd rfl (Or.inl rfl) (AI Ab))
      (Ac (Cp PassesOwn.never rfl (Fx rfl (T.own _ (by decide)) (Aa (pv 1) Ab)) (Bd (i:=3) sc__law_columns.nd rfl (Or.inr rfl)) (Ac (B5 (i:=4) sc__law_columns.nd rfl (Or.inl rfl) (A5 (K:=K) (pv 0)) (λ _ _ _ _=>Ax) (λ _ _ _ _=>(Ao Lx (Ao O5 (pv 0) (pv 1)) Ag)))
      (Af (Bc (PW.pt (Oz (As (Z8 (K:=K)) Ag (pv 4) (by with_unfolding_all rfl)) (L7 (As (Iu hr.units) (pv 4) (pv 2) (by with_unfolding_all rfl))))) (Af (AL (Mj (K:=K) PySem.F.plainAttrs_list PySem.F.slot_list_append PySem.F.type_list_append DY (pv 2) (Aa (pv 4) Ab)))) AK))))
      (Af (Al (pv 2))))),?_⟩
    walk_at "w";row_lines H x1;walk_at "w";refine ⟨_,rfl,by omega,by omega,?_⟩;rw [Int.toNat_natCast];refine Fm (H0:=H) (FF (n:=n)) (λ e σ H3=>∃ v1 v2,∃ ys:List V,σ=[some (.ref a),some (nV n),some (.ref p1),v1,v2]/\Same H H3/\H3 p1=some (.lst ys)/\ys.length=(kN ((Ai n rs).take e)).length/\∀ (i:Nat) (v:V) (d:Dt),ys[i]?=some v->((kN ((Ai n rs).take e)).map λ m=>dL (Dn rs.length m))[i]?=some d->Rp (bar p1 H3) FT 1 v d) ⟨_,_,[],rfl,s1,g1,rfl,λ i v d h=>nomatch h⟩ (λ i σ H3 ⟨_,_,_,_,s,_⟩=>s) ?_ ?_
    · rintro e σ H' H2 he ⟨v1,v2,ys,rfl,s',h',ly,ry⟩ s2;have sB:=s'.trans s2;walk_at "w";refine ⟨a,rfl,⟨_,SqL.of (sB _ _ ha)⟩,λ D hD=> ?_⟩;refine AN (G:=λ i=>((((rs.getD i 0).testBit e).toNat:Nat):Int)) (AB (SqL.of (sB _ _ ha)) rfl) hD (by rw [List.length_map];omega) ?_ ?_
      · intro i H9 R hi s9 kk;rw [Aq hi];walk_at "w";refine A9 (by show (0:Int)<=_;omega) ?_;walk_at "w";rw [Q8];exact kk H9 (Same.refl _)
      intro H3 s3 g3;have le:e<(Ai n rs).length:=by rw [DF];exact he
      have eg:(Ai n rs)[e]=(Ai n rs).getD e 0:=by rw [List.getD_eq_getElem?_getD,List.getElem?_eq_getElem le];rfl
      have hM:(Ai n rs)[e]<2 ^ rs.length:=O8 _ (List.getElem_mem le);have g3:H3 D=some (.lst ((Dn rs.length (Ai n rs)[e]).map nV)):=by
        rw [g3,IY,List.length_map];unfold Dn;rw [List.map_congr_left (f:=λ p=>((Ai n rs)[e].testBit p).toNat) (g:=λ p=>((rs.getD p 0).testBit e).toNat) (l:=List.range rs.length) λ p hp=>by rw [eg,JF he (List.mem_range.mp hp)]]
      have hk:=Rk le;have hkm:∀ m∈kN ((Ai n rs).take e),m<2 ^ rs.length:=λ m hm=>O8 _ (List.mem_of_mem_take (Cq hm).1);have lk:=G0 ((Ai n rs).take e);rw [List.length_take,DF] at lk;generalize (Ai n rs)[e]=M at hM g3 hk;have s23:=s2.trans s3;have h3:=s23 _ _ h';have ry3:∀ (i:Nat) (v:V) (d:Dt),ys[i]?=some v->((kN ((Ai n rs).take e)).map λ m=>dL (Dn rs.length m))[i]?=some d->Rp (bar p1 H3) FT 1 v d:=λ i v d q1 q2=>(ry i v d q1 q2).same (Lb s23);have lb:(Dn rs.length M).length=rs.length:=by unfold Dn;rw [List.length_map,List.length_range]
      have nD:D≠p1:=λ z=>by rw [z,s2 _ _ h'] at hD;cases hD
      walk_at "w";refine TL (s:=1) (tp:=false) (SqL.of g3) ?_;walk_at "w";by_cases z1:M=0
      · rw [decide_eq_false (λ q=>(Kf hM).mp q z1)];walk_at "w";rw [if_pos (by rw [z1];exact List.mem_cons_self ..)] at hk;rw [<-hk] at ly ry3;exact ⟨_,_,ys,rfl,sB.trans s3,h3,ly,ry3⟩
      · rw [decide_eq_true ((Kf hM).mpr z1)];walk_at "w";refine ⟨p1,ys,_,1, .d (dL (Dn rs.length M)),rfl, .inl h3,by decide,by rw [List.length_map];exact ly,λ i v d q1 q2=>(ry3 i v d q1 q2).same Hb, .d (Dm g3 trivial (by rw [lb];omega)),trivial,?_⟩;have ei:inX (.d (dL (Dn rs.length M))) ((kN ((Ai n rs).take e)).map λ m=>dL (Dn rs.length m))=decide (M∈kN ((Ai n rs).take e)):=by
          show ((kN ((Ai n rs).take e)).map λ m=>dL (Dn rs.length m)).any (λ x=>eqD x (dL (Dn rs.length M)))=_;rw [List.any_map,Bool.eq_iff_iff,List.any_eq_true,decide_eq_true_eq];constructor
          · rintro ⟨m,hm,q⟩;have q:eqD (dL (Dn rs.length m)) (dL (Dn rs.length M))=true:=q;rw [OT,decide_eq_true_eq] at q;rw [<-Ov (hkm m hm) hM q];exact hm
          · intro hm;exact ⟨M,hm,Bt _⟩
        rw [if_pos rfl,ei];by_cases z2:M∈kN ((Ai n rs).take e)
        · rw [decide_eq_true z2];walk_at "w";rw [if_pos (List.mem_cons_of_mem _ z2)] at hk;rw [<-hk] at ly ry3;exact ⟨_,_,ys,rfl,sB.trans s3,h3,ly,ry3⟩
        · rw [decide_eq_false z2];walk_at "w";rw [if_neg (λ q=>(List.mem_cons.mp q).elim z1 z2)] at hk;refine tyL (SqL.of h3) ?_;walk_at "w";refine Lm h3 (by omega) ?_;walk_at "w";refine ⟨_,_,ys++[.ref D],rfl,DU (sB.trans s3) n1,Ad,by rw [hk,List.length_append,List.length_append,ly];rfl,λ i v d q1 q2=> ?_⟩;rw [Mn];rw [hk,List.map_append] at q2;rcases Nat.lt_or_ge i ys.length with y | y
          · rw [List.getElem?_append_left y] at q1;rw [List.getElem?_append_left (by rw [List.length_map];omega)] at q2;exact ry3 i v d q1 q2
          · rw [List.getElem?_append_right y] at q1;rw [List.getElem?_append_right (by rw [List.length_map];omega),List.length_map, <-ly] at q2;cases hi:i - ys.length with
            | zero=>
              rw [hi] at q1 q2;cases q1;cases q2;exact Dm (OS g3 nD) trivial (by rw [lb];omega)
            | succ j=>
              rw [hi] at q1;cases q1
    · rintro σ H2 ⟨v1,v2,ys,rfl,s',h',ly,ry⟩;walk_at "w";rw [List.take_of_length_le (by rw [DF];omega)] at ly;exact k H2 p1 ys s' n1 h' ly
def tsN (R:List Nat):List Nat:=if R=[] then [0] else R
theorem UT {k:Nat} {R:List Nat} (h:∀ t∈R,1<=t/\t<2 ^ k):(tiF (R.map MM.nOf)).map (λ l=>(l.map λ s=>2 ^ (s - 1)).sum)=tsN R:=by
  unfold tiF tsN;by_cases z:R=[]
  · rw [if_pos (by rw [z];rfl),if_pos z];rfl
  · rw [if_neg (by rw [List.map_eq_nil_iff];exact z),if_neg z,List.map_map];exact (List.map_congr_left λ t ht=>MTies.sum_nOf (h t ht).2).trans (List.map_id _)
theorem Jp (f:Nat->Nat):∀ l:List Nat,(l.map λ j=>((f j:Nat):Int)).sum=(((l.map f).sum:Nat):Int)
  | []=>rfl
  | x::l=>by
    rw [List.map_cons,List.map_cons,List.sum_cons,List.sum_cons,Jp f l];push_cast;rfl
theorem Ti {R:List Nat} (h:∀ t∈R,1<=t):(tsN R).filter (λ t=>decide (0<t))=R:=by
  unfold tsN;by_cases z:R=[]
  · rw [if_pos z,z];rfl
  · rw [if_neg z];exact List.filter_eq_self.mpr λ t ht=>decide_eq_true (h t ht)
theorem Tr (R:List Nat):(tsN R).length=up1 R.length:=by
  unfold tsN up1;by_cases z:R=[]
  · rw [if_pos z,z];rfl
  · rw [if_neg z,if_neg (λ q=>z (List.length_eq_zero_iff.mp q))]
theorem Qk {R:List Nat} (h:MTies.Rz 1 R):(tsN R).Nodup:=by
  unfold tsN;by_cases z:R=[]
  · rw [if_pos z];simp
  · rw [if_neg z];exact (MTies.rz_lt h).imp λ q=>Nat.ne_of_lt q
theorem Kr:∀ (ns ks:List Int),(ks++ns).Nodup->ns.foldl HT.addK ks=ks++ns
  | [],ks,_=>by simp
  | x::ns,ks,h=>by
    have hx:¬ x∈ks:=λ q=>by
      have:=(List.nodup_append.mp h).2.2 x q x (List.mem_cons_self ..);exact this rfl
    rw [List.foldl_cons];unfold HT.addK;rw [if_neg hx];have e:ks++x::ns=(ks++[x])++ns:=by simp
    rw [e] at h ⊢;exact Kr ns (ks++[x]) h
theorem QZ {ns:List Int} (h:ns.Nodup):HT.metK ns=ns:=by
  unfold HT.metK;rw [Kr ns [] (by simpa using h)];simp
theorem Mw {l:List Nat} (h:l.Nodup):(l.map λ n=>((n:Nat):Int)).Nodup:=by
  unfold List.Nodup;rw [List.pairwise_map];exact h.imp λ q e=>q (Int.ofNat_inj.mp e)
theorem VC {R:List Nat} (h:∀ t∈R,1<=t) (l:Nat):((List.range (tsN R).length).filter λ i=>decide (0<(tsN R).getD i 0)&&MTies.wn ((tsN R).getD i 0) l).map (· + 1)=trN R l:=by
  unfold trN tsN;by_cases z:R=[]
  · rw [if_pos z,z];rfl
  · rw [if_neg z];refine congrArg (List.map (· + 1)) (List.filter_congr λ i hi=> ?_);rw [decide_eq_true (show 0<R.getD i 0 from h _ (Au (y:=0) (List.mem_range.mp hi))),Bool.true_and]
theorem Gb:∀ (ns ks:List Int),ks.Nodup->(ns.foldl HT.addK ks).Nodup
  | [],_,h=>h
  | x::ns,ks,h=>by
    rw [List.foldl_cons];refine Gb ns _ ?_;unfold HT.addK;split
    · exact h
    · rename_i hx
      exact List.nodup_append.mpr ⟨h,by simp,λ a ha b hb=>by
        rw [List.mem_singleton.mp hb];intro z;exact hx (z▸ha)⟩
theorem LK (ns:List Int):(HT.metK ns).Nodup:=Gb ns [] .nil
theorem Qi (n:Nat) (rs:List Nat):lfN n rs 0=0:=by
  refine Nat.eq_of_testBit_eq λ i=> ?_;rw [Gy,Nat.zero_testBit];refine decide_eq_false λ q=> ?_;have:=(tie_mem.mp q).2.2;rw [Nat.zero_testBit] at this;cases this
theorem QI {n:Nat} {rs:List Nat} (ok:ClOk n rs) {r r':Nat} (h1:r∈rs) (h2:r'∈rs) (h:lfN n rs r=lfN n rs r'):r=r':=by
  obtain ⟨p,hp,rfl⟩:=List.getElem_of_mem h1;obtain ⟨p',hp',rfl⟩:=List.getElem_of_mem h2;have a1:rs[p]=rs.getD p 0:=by rw [List.getD_eq_getElem?_getD,List.getElem?_eq_getElem hp];rfl
  have a2:rs[p']=rs.getD p' 0:=by rw [List.getD_eq_getElem?_getD,List.getElem?_eq_getElem hp'];rfl
  have b1:=ok.lt _ (List.getElem_mem hp);have b2:=ok.lt _ (List.getElem_mem hp');refine Nat.eq_of_testBit_eq λ e=> ?_;rcases Nat.lt_or_ge e n with z | z
  · rw [a1,a2] at h ⊢;rw [<-JL hp z, <-JL hp' z];rcases Nat.eq_zero_or_pos ((AG (Ai n rs)).getD e 0) with y | y
    · rw [y,decide_eq_false λ q=>by have:=(tie_mem.mp q).1;omega,decide_eq_false λ q=>by have:=(tie_mem.mp q).1;omega]
    · obtain ⟨s,hs⟩:∃ s,(AG (Ai n rs)).getD e 0=s+1:=⟨(AG (Ai n rs)).getD e 0 - 1,by omega⟩;rw [hs, <-Gy, <-Gy,h]
  · have hz:2 ^ n<=2 ^ e:=Nat.pow_le_pow_right (by decide) z;rw [Nat.testBit_lt_two_pow (by omega),Nat.testBit_lt_two_pow (by omega)]
theorem Pq {n:Nat} {rs:List Nat} (ok:ClOk n rs) (h:(kN (Ai n rs)).length<=4):(HT.metK (rs.map λ n=>((n:Nat):Int))).length<=16:=by
  have hm:∀ x∈HT.metK (rs.map λ n=>((n:Nat):Int)),∃ r∈rs,x=((r:Nat):Int):=λ x hx=>by
    obtain ⟨r,hr,rfl⟩:=List.mem_map.mp ((HT.metK_mem _ _).mp hx);exact ⟨r,hr,rfl⟩
  have nd:=LK (rs.map λ n=>((n:Nat):Int));have:=MTies.len_sub (S:=(HT.metK (rs.map λ n=>((n:Nat):Int))).map λ x=>lfN n rs x.toNat) (L:=List.range 16) (by
    unfold List.Nodup;rw [List.pairwise_map];refine nd.imp_of_mem λ {x y} hx hy q e=>q ?_;obtain ⟨r,hr,rfl⟩:=hm x hx;obtain ⟨r',hr',rfl⟩:=hm y hy;rw [Int.toNat_natCast,Int.toNat_natCast] at e;rw [QI ok hr hr' e]) λ x hx=>by
      obtain ⟨y,_,rfl⟩:=List.mem_map.mp hx;exact List.mem_range.mpr (Nat.lt_of_lt_of_le (Jx n rs _) (Nat.pow_le_pow_right (by decide) h))
  rw [List.length_map,List.length_range] at this;exact this
theorem PR {n:Nat} {rs:List Nat} {m:Nat} {R:List Nat} (F:MTies.Few (kN (lfs n rs)) m R) (h:(kN (Ai n rs)).length<=4):R.length<=((HT.metK (rs.map λ n=>((n:Nat):Int))).filter λ k=> !decide (k=0)).length:=by
  have h1:R.length<=(kN (lfs n rs)).length:=by
    rw [F.rz.2];exact F.le_len λ l hl=>⟨Nat.pos_of_ne_zero (Cq hl).2,Li h l (Cq hl).1⟩
  have:=MTies.len_sub (S:=kN (lfs n rs)) (L:=((HT.metK (rs.map λ n=>((n:Nat):Int))).filter λ k=> !decide (k=0)).map λ x=>lfN n rs x.toNat) (List.nodup_cons.mp (He _)).2 λ l hl=>by
    obtain ⟨h2,h3⟩:=Cq hl;obtain ⟨r,hr,rfl⟩:=List.mem_map.mp h2;refine List.mem_map.mpr ⟨((r:Nat):Int),List.mem_filter.mpr ⟨(HT.metK_mem _ _).mpr (List.mem_map.mpr ⟨r,hr,rfl⟩),?_⟩,by rw [Int.toNat_natCast]⟩;rw [decide_eq_false λ q=> ?_]
    · rfl
    · have:r=0:=by omega
      rw [this,Qi] at h3;exact h3 rfl
  rw [List.length_map] at this;omega
def B6 (K:PySem.W.Frag) (c:Cs):Sp:=λ vs H Q _=>∃ (y a:Addr) (n:Nat) (rs:List Nat) (q:Addr) (ys:List V) (m:Nat) (R:List Nat),vs=[.ref y, .ref a,nV n, .ref q]/\DrAt c.Draft H y (ftD n rs R)/\H a=some (.lst (rs.map nV))/\ClOk n rs/\H q=some (.lst ys)/\ys.length=(kN (Ai n rs)).length/\(kN (Ai n rs)).length<=4/\MTies.Few (kN (lfs n rs)) m R/\∀ H',Same H H'->Q (.bl true) H'
abbrev Br:Stmt:=top 71
theorem sc__law_draft_good:FnScope ["_law_draft","_law_rows_here","_law_ends","_law_kinds_here","_law_told","_law_masks","_law_cloth","_law_few","_law_ties","_law_off","_law_pick","_law_mask"] ["_law_draft","_law_rows_here","_law_ends","_law_kinds_here"] (Ah Br):=⟨rfl,rfl,rfl,by decide +kernel,rfl,by decide +kernel,by decide +kernel⟩
theorem EU {f:Addr} {fd:FuncData} (F:Fun K "_law_draft_good" "_law_draft_good" Br f fd) (T:Txt K mg c) (d_Draft_told:Bk P w K mg base c.Draft "told" 1 ["self"] (Cm c)) (c_lifts_of:CallF P w K mg base "lifts_of" 3 ["draft"] (DL c)) (c_woven:CallF P w K mg base "woven" 6 ["draft"] (Ki c)) (d_Cloth_told:Bk P w K mg base c.Cloth "told" 1 ["self"] (Cu c)) (c_few_ties:CallF P w K mg base "few_ties" 10 ["lifts"] (DE K)) (c_read_off:CallE P w K mg base "read_off" 9 ["cloth"] (Gc c)) (m_Cloth:JV P w K mg base "Cloth" c.Cloth 4 ["self","ends","rows"] (AH K c)):FnOk P w K mg base CX0 11 f fd ["_law_draft","_law_rows_here","_law_ends","_law_kinds_here"] (B6 K c):=by
  refine F.okC sc__law_draft_good (λ vs H Q E h=> ?_) (λ cdv hcd A outer s H vs Q E hr h=> ?_)
  · obtain ⟨y,a,n,rs,q,ys,m,R,rfl,_⟩:=h;rfl
  · obtain ⟨y,a,n,rs,q,ys,m,R,rfl,D0,ha,ok,hq,lq,l4,F,k⟩:=h;have hu:=hr.units0;have okd:=Mc ok F l4;refine ⟨_,(Ac (An (i:=4) sc__law_draft_good.nd rfl (Or.inl rfl) (A3 (pv 0) d_Draft_told (hr.mono (by decide))))
      (Ac (An (i:=5) sc__law_draft_good.nd rfl (Or.inl rfl) (Ae c_lifts_of (hr.mono (by decide)) (Aa (pv 0) Ab)))
      (Ac (An (i:=6) sc__law_draft_good.nd rfl (Or.inl rfl) (Ae c_woven (hr.mono (by decide)) (Aa (pv 0) Ab)))
      (Ac (Bc (PW.pt (Fs (As (LG hr.units) (A3 (pv 6) d_Cloth_told (hr.mono (by decide))) (AX (Aa (pv 2) (Aa (pv 1) Ab))) (Aw _)) (FV (As Kq (Bi (Ca (K:=K)) (pv 4) Ag (λ _ _=>rfl)) (Aj JM rfl (T.own _ (by decide)) CI (Aa Ag (Aa (Aj (AZ (K:=K)) rfl (T.own _ (by decide)) boot_len (Aa (pv 3) Ab)) Ab))) (Aw _))))) (Af (Al E4)) AK)
      (Ac (An (i:=7) sc__law_draft_good.nd rfl (Or.inl rfl) (Ae c_few_ties hr (Aa (Ap (Ck (K:=K)) rfl (T.own _ (by decide)) AD (Aa (pv 5) Ab)) Ab)))
      (Ac (B5 (i:=8) sc__law_draft_good.nd rfl (Or.inl rfl) (A5 (K:=K) (Bi (Ca (K:=K)) (pv 4) Ag (λ _ _=>rfl))) (λ _ _ _ _=>Ax) (λ _ _ _ _=>(Aj (P0 (K:=K)) rfl (T.own _ (by decide)) boot_sum (Aa (MU (fr:=[]) (A5 (K:=K) (pv 0)) (λ _ _ _ _=>Ax) (λ _ _ _ _=>(Ao Ho Ag (Ao FO (pv 0) Ag)))) Ab))))
      (Ac (Bc (PW.pt (Fs (As Kq (Aj (AZ (K:=K)) rfl (T.own _ (by decide)) boot_len (Aa (pv 7) Ab)) (Aj (AZ (K:=K)) rfl (T.own _ (by decide)) boot_len (Aa (Av (A5 (K:=K) (pv 8)) (λ _ _ _ _=>(BC (As Hi (pv 0) Ag (Aw _)))) (λ _ _ _ _=>(pv 0))) Ab)) (Aw _)) (Fs (As Kq (Bi (Ca (K:=K)) (pv 4) Ag (λ _ _=>rfl)) (Aj JM rfl (T.own _ (by decide)) CI (Aa Ag (Aa (Aj (AZ (K:=K)) rfl (T.own _ (by decide)) boot_len (Aa (pv 7) Ab)) Ab))) (Aw _)) (FV (As Kq (Aj Lf rfl (T.own _ (by decide)) boot_len (Aa (Ap (Lg rfl) rfl (T.own _ (by decide)) PyProof.Rows.boot_set (Aa (pv 8) Ab)) Ab)) (Aj (AZ (K:=K)) rfl (T.own _ (by decide)) boot_len (Aa (pv 8) Ab)) (Aw _)))))) (Af (Al E4)) AK)
      (Ac (An (i:=9) sc__law_draft_good.nd rfl (Or.inl rfl) (Fb (As YZ (Aj Lf rfl (T.own _ (by decide)) boot_len (Aa (Ap (Lg rfl) rfl (T.own _ (by decide)) PyProof.Rows.boot_set (Aa (pv 1) Ab)) Ab)) Ag (Aw _)) (A3 (Dp c_read_off (hr.mono (by decide)) Md (Aa (Hn m_Cloth (hr.mono (by decide)) Md (Aa (pv 2) (Aa (Ap (Ck (K:=K)) rfl (T.own _ (by decide)) AD (Aa (pv 1) Ab)) Ab))) Ab)) d_Draft_told (hr.mono (by decide))) (pv 4)))
      (Ac (Bc (PW.pt (Fs (As (PV hu (K:=K)) (Bi (Ca (K:=K)) (pv 4) Ag (λ _ _=>rfl)) (Bi (Ca (K:=K)) (pv 9) Ag (λ _ _=>rfl)) (Aw _)) (Fs (As (Iu hr.units) (pv 7) (AX (Aa (AI Ab) (Aa (pv 8) Ab))) (by with_unfolding_all rfl)) (FV (As (LG hr.units) (AX (Aa (Bi (Ca (K:=K)) (pv 4) Ag (λ _ _=>rfl)) (Aa (Bi (Ca (K:=K)) (pv 4) Ag (λ _ _=>rfl)) Ab))) (AX (Aa (Ao EO (AI (Aa AE Ab)) (pv 2)) (Aa (Ao EO (AI (Aa AE Ab)) (Aj (AZ (K:=K)) rfl (T.own _ (by decide)) boot_len (Aa (pv 1) Ab))) Ab))) (Aw _)))))) (Af (Al E4)) AK)
      (Ac (Cp PassesOwn.never rfl (UZ (K:=K) rfl (T.own _ (by decide)) (Aa (Bi (Ca (K:=K)) (pv 4) Ag (λ _ _=>rfl)) (Aa (pv 5) Ab))) (Tw (K:=K) rfl (Fd (Bd (i:=10) sc__law_draft_good.nd rfl (Or.inl rfl)) (Fd (Bd (i:=11) sc__law_draft_good.nd rfl (Or.inr rfl)) MA))) (Af (Bc (As (PV hu (K:=K)) (pv 10) (CJ (K:=K) (RF (K:=K) rfl (T.own _ (by decide)) (Aa (pv 8) Ab)) (λ _ _ _ _=>(BC (PW.pt (Oz (As Hi (pv 1) Ag (Aw _)) (L7 (As E7 (Ao SA (pv 1) (pv 2)) (pv 2) (Aw _))))))) (λ _ _ _ _=>(Ao Ba (pv 0) Ag))) (Aw _)) (Af (Al E4)) AK)))
      (Af (Al (BB OQ (Bi (Ca (K:=K)) (pv 4) Ag (λ _ _=>rfl)) (Aj JM rfl (T.own _ (by decide)) CI (Aa Ag (Aa (Aj Tp rfl (T.own _ (by decide)) IK (Aa (Aj (AZ (K:=K)) rfl (T.own _ (by decide)) boot_len (Aa (pv 3) Ab)) (Aa (Aj Lf rfl (T.own _ (by decide)) boot_len (Aa (Ao R4 (Ap (Lg rfl) rfl (T.own _ (by decide)) PyProof.Rows.boot_set (Aa (pv 1) Ab)) (QJ hcd)) Ab)) Ab))) Ab))) (Aw _)))))))))))))),?_⟩
    have n1':=ok.n1;have n2':=ok.n2;have p1':=ok.p1;have p2':=ok.p2;have r4:=Ha F l4;have ll:(lfs n rs).length=rs.length:=by unfold lfs;rw [List.length_map]
    obtain ⟨dy,v1',v2',v3',v4',v5',hy,_,_,_,_,_⟩:=id D0;walk_at "w";refine ⟨_,_,_,rfl,hy,rfl,?_⟩;walk_at "w";refine ⟨y,_,rfl,D0,λ H1 p s1 hp rd=> ?_⟩;have rd:=rd.mono (F':=FT) (λ _ _ q _=>q) (λ _ _=>trivial);obtain ⟨m',p',a2,u3,u4,a5,a6,em,ep,gp,gth,r3,r4',gwa,gwe⟩:=P7 rd;cases em;cases ep;walk_at "w";refine ⟨y,_,rfl,D0.same s1,okd,λ H2 pm s2 hpm gm=> ?_⟩;rw [PX F] at gm;have s02:=s1.trans s2;walk_at "w";refine ⟨y,_,rfl,D0.same s02,okd,λ H3 z s3 hz C3=> ?_⟩;rw [T5 ok F l4] at C3;have lh:(ftD n rs R).th.length=n:=by show (AG (Ai n rs)).length=_;unfold AG Ai;simp
    rw [lh] at C3;have s03:=s02.trans s3;obtain ⟨dz,tz,gz,_⟩:=id C3;walk_at "w";refine ⟨_,_,_,rfl,gz,rfl,?_⟩;walk_at "w";refine ⟨z,_,_,rfl,C3,λ H4 p4 l4' s4 _ _ g4 gl4=> ?_⟩;have s04:=s03.trans s4;walk_at "w";row_lines H4 x5;walk_at "w";have s05:=s04.trans s5;refine ⟨2, .tup [dN n,dL rs], .tup [dN n,dL rs],by decide,Ce (s5 _ _ g4) (.int _) (Dm (s5 _ _ gl4) trivial (by omega)),Ce g5 (.int _) (Dm (s05 _ _ ha) trivial (by omega)),rfl,?_⟩;rw [Bt,if_pos rfl];walk_at "w";have gp5:=(s2.trans (s3.trans (s4.trans s5))) _ _ gp;refine Bh (SqT.of gp5) (A4 (j:=0) rfl) ?_;walk_at "w";refine AC (SqL.of (s05 _ _ hq)) ?_;rw [lq];walk_at "w";have emax:∀ t:Nat,(if ((t:Nat):Int)>1 then ((t:Nat):Int) else 1)=((up1 t:Nat):Int):=λ t=>by
      unfold up1;split <;> split <;> omega
    rw [emax,show (ftD n rs R).sh=up1 (kN (Ai n rs)).length from rfl,decide_eq_true rfl];walk_at "w";have gm5:=(s3.trans (s4.trans s5)) _ _ gm;refine FE (SqL.of gm5) λ p6 n6=> ?_;wrow_has H5 x6;walk_at "w";refine ⟨p6,lfs n rs,rfl,SqL.of g6,by omega,Li l4,λ H7 pf m2 R2 s7 hpf old now gf=> ?_⟩;obtain ⟨rfl,rfl⟩:=F.uniq ⟨old,now⟩;have s57:=s6.trans s7;have s07:=s05.trans s57;have s17:Same H1 H7:=s2.trans (s3.trans (s4.trans (s5.trans s57)));clear old now;walk_at "w";refine Bh (SqT.of (s17 _ _ gp)) (A4 (j:=3) rfl) ?_;walk_at "w";obtain ⟨a3,vs3,rfl,h3,lv3,b3,el3⟩:=Mb (r3.same s17);refine ⟨a3,rfl,⟨_,SqL.of h3⟩,λ D hD=> ?_⟩;refine AN (G:=λ i=>(((((tiF (R.map MM.nOf)).getD i []).map λ s=>2 ^ (s - 1)).sum:Nat):Int)) (AB (SqL.of h3) rfl) hD b3 ?_ ?_
    · intro i H' R' hi s kk;rw [lv3] at hi;obtain ⟨b,eb,hb⟩:=el3 i hi;have hb:H7 b=some (.lst (((tiF (R.map MM.nOf)).getD i []).map nV)):=hb;have hm:∀ x∈(tiF (R.map MM.nOf)).getD i [],1<=x/\x<=4:=λ x hx=>by
        have:=(okd.ir _ (Au (y:=[]) hi)).le x hx;have h4:(ftD n rs R).sh<=4:=EJ l4 (by decide);omega
      have hlt:((tiF (R.map MM.nOf)).getD i []).length<=100000:=by
        have:=(okd.ir _ (Au (y:=[]) hi)).len;have h4:(ftD n rs R).sh<=4:=EJ l4 (by decide);have e:(ftD n rs R).ti.getD i []=(tiF (R.map MM.nOf)).getD i []:=rfl;rw [e] at this;omega
      rw [eb];generalize (tiF (R.map MM.nOf)).getD i []=tie at hb hm hlt kk;walk_at "w";refine ⟨b,rfl,⟨_,SqL.of (s _ _ hb)⟩,λ D2 hD2=> ?_⟩;refine AN (G:=λ j=>(((2 ^ (tie.getD j 0 - 1):Nat)):Int)) (AB (SqL.of (s _ _ hb)) rfl) hD2 (by rw [List.length_map];exact hlt) ?_ ?_
      · intro j H9 R9 hj s9 kk9;have hj':j<tie.length:=by simpa using hj
        have hx:=hm _ (Au (y:=0) hj');rw [Aq hj];generalize tie.getD j 0=x at hx kk9;walk_at "w";refine A9 ⟨by omega,by omega,by decide⟩ ?_;rw [show ((x:Nat):Int) - 1=((x - 1:Nat):Int) by omega,OA];exact kk9 H9 (Same.refl _)
      intro H9 s9 g9;walk_at "w";refine Ly (SqL.of g9) ?_;rw [Jp,List.length_map,Ar (λ x=>2 ^ (x - 1)) tie 0];exact kk H9 s9
    intro H8 s8 g8;rw [IY,lv3,show (ftD n rs R).ti=tiF (R.map MM.nOf) from rfl,Ar (λ l:List Nat=>(l.map λ s=>2 ^ (s - 1)).sum) (tiF (R.map MM.nOf)) [],UT (Fz F)] at g8;have s08:=s07.trans s8;walk_at "w";have gf8:=s8 _ _ gf;refine AC (SqL.of gf8) ?_;rw [List.length_map];walk_at "w";refine ⟨D,rfl,⟨_,SqL.of g8⟩,λ D2 hD2=> ?_⟩;have tl:=Tr R;have tu:up1 R.length<=4:=EJ (by omega) (by decide);refine A1 (p:=λ i=>decide (0<(tsN R).getD i 0)) (G:=λ i=>(((tsN R).getD i 0:Nat):Int)) (AB (SqL.of g8) rfl) hD2 (by rw [List.length_map];omega) ?_ ?_ ?_
    · intro i H' R' hi s kk;rw [Aq hi];walk_at "w";rw [show decide ((0:Int)<(((tsN R).getD i 0:Nat):Int))=decide (0<(tsN R).getD i 0) from decide_eq_decide.mpr (by omega)];exact kk H' (Same.refl _)
    · intro i H' R' hi hpi s kk;rw [Aq hi];walk_at "w";exact kk H' (Same.refl _)
    intro H9 s9 g9;rw [List.length_map] at g9;have e9:(((List.range (tsN R).length).filter λ i=>decide (0<(tsN R).getD i 0)).map λ i=>(((tsN R).getD i 0:Nat):Int)).map V.int=R.map nV:=by
      have e1:=GE (λ t=>decide (0<t)) (tsN R);rw [Ti (R:=R) λ t ht=>(Fz F t ht).1] at e1;have e2:=congrArg (List.map nV) e1;rw [List.map_map] at e2;rw [List.map_map];exact e2
    rw [e9] at g9;have s09:=s08.trans s9;have s19:Same H1 H9:=s17.trans (s8.trans s9);walk_at "w";refine AC (SqL.of g9) ?_;rw [List.length_map];walk_at "w";rw [decide_eq_true rfl];walk_at "w";refine Bh (SqT.of (s19 _ _ gp)) (A4 (j:=1) rfl) ?_;walk_at "w";refine AC (SqL.of (s9 _ _ gf8)) ?_;rw [List.length_map];walk_at "w";rw [emax,show (ftD n rs R).tr=up1 R.length from EX R,decide_eq_true rfl];walk_at "w";refine Jo (X:=_) (ns:=(tsN R).map λ n=>((n:Nat):Int)) rfl (by rw [<-Dg];exact SqL.of (s9 _ _ g8)) (by rw [List.length_map];omega) λ p10 n10=> ?_;wrow_has H9 x10;walk_at "w";refine Mr g10 ?_;rw [QZ (Mw (Qk F.rz.1)),List.length_map];walk_at "w";refine AC (SqL.of (s10 _ _ (s9 _ _ g8))) ?_;rw [List.length_map];walk_at "w";rw [decide_eq_true rfl];walk_at "w";have s0A:=s09.trans s10;have s1A:=s19.trans s10;have sub:(kN rs).length<=(HT.metK (rs.map λ n=>((n:Nat):Int))).length:=by
      have:=MTies.len_sub (S:=(kN rs).map λ n=>((n:Nat):Int)) (L:=HT.metK (rs.map λ n=>((n:Nat):Int))) (Mw (List.nodup_cons.mp (He rs)).2) λ x hx=>by
        obtain ⟨t,ht,rfl⟩:=List.mem_map.mp hx;exact (HT.metK_mem _ _).mpr (List.mem_map.mpr ⟨t,(Cq ht).1,rfl⟩)
      rw [List.length_map] at this;exact this
    have haA:=s0A _ _ ha;refine Jo (X:=_) (ns:=rs.map λ n=>((n:Nat):Int)) rfl (by rw [<-Dg];exact SqL.of haA) (by rw [List.length_map];omega) λ p11 n11=> ?_;wrow_has H10 x11;walk_at "w";refine Mr g11 ?_;walk_at "w";have s0B:=s0A.trans s11;have s1B:=s1A.trans s11;refine ifE (λ v H'=>Same H11 H'/\∃ (po x2:Addr) (w0 w1 w3 w4 w5 w6:V),v= .ref po/\H' po=some (.tup [w0,w1, .ref x2,w3,w4,w5,w6])/\H' x2=some (.lst ((AG (Ai n rs)).map nV))) ?_ (λ R' key=> ?_);rotate_left
    · refine N4 (λ hb=> ?_) (λ hb=> ?_)
      · have hb:=of_decide_eq_true hb;walk_at "w";refine FE (SqL.of (s11 _ _ haA)) λ p12 n12=> ?_;wrow_has H11 x12;walk_at "w";refine SD g12 ok λ H13 xc s13 hxc C13=> ?_;walk_at "w";refine ⟨xc,n,rs,rfl,C13,ok,λ _ _ H14 yr s14 hyr D14=> ?_,λ z=>absurd z (by omega),λ _ z=>absurd z (by omega)⟩;obtain ⟨dr,z1,z2,z3,z4,z5,hr',_,_,_,_,_⟩:=id D14;walk_at "w";refine ⟨_,_,_,rfl,hr',rfl,?_⟩;walk_at "w";refine ⟨yr,_,rfl,D14,λ H15 p15 s15 _ r15=> ?_⟩;obtain ⟨m15,p15',x2,u3',u4',x5,x6,em,ep,go,gx2,_,_,_,_⟩:=P7 r15;cases ep;exact key _ _ ⟨s12.trans (s13.trans (s14.trans s15)),p15,x2,_,_,_,_,_,_,rfl,go,gx2⟩
      · walk_at "w";exact key _ _ ⟨Same.refl _,p,a2,_,_,_,_,_,_,rfl,s1B _ _ gp,s1B _ _ gth⟩
    rintro v H12 ⟨s12,po,x2,w0,w1,w3,w4,w5,w6,rfl,gpo,gx2⟩;have s0C:=s0B.trans s12;have s1C:=s1B.trans s12;walk_at "w";refine Bh (v:= .ref a2) (SqT.of (s1C _ _ gp)) (A4 (j:=2) rfl) ?_;walk_at "w";refine Bh (v:= .ref x2) (SqT.of gpo) (A4 (j:=2) rfl) ?_;walk_at "w";refine Me (as:=(AG (Ai n rs)).map λ n=>((n:Nat):Int)) (bs:=(AG (Ai n rs)).map λ n=>((n:Nat):Int)) (by rw [<-Dg];exact SqL.of (s1C _ _ gth)) (by rw [<-Dg];exact SqL.of gx2) ?_;rw [decide_eq_true rfl];walk_at "w";row_lines H12 x13;walk_at "w";row_lines H13 x14;walk_at "w";have s814:Same H8 H14:=s9.trans (s10.trans (s11.trans (s12.trans (s13.trans s14))));have s0E:=s08.trans s814;have s1E:Same H1 H14:=s1C.trans (s13.trans s14);refine ⟨p14,_,[dL [],dL (tsN R)],1, .d (dL R),rfl, .inr g14,by decide,rfl,λ i v d q1 q2=> ?_, .d (Dm (s814 _ _ gf8) trivial (by omega)),trivial,?_⟩
    · match i,q1,q2 with
      | 0,q1,q2=>cases q1;cases q2;exact Dm (ns:=[]) (s14 _ _ g13) trivial (by decide)
      | 1,q1,q2=>cases q1;cases q2;exact Dm (s814 _ _ g8) trivial (by omega)
    have ei:inX (.d (dL R)) [dL [],dL (tsN R)]=true:=by
      show ([dL [],dL (tsN R)].any λ e=>eqD e (dL R))=true;simp only [List.any_cons,List.any_nil,OT,Bool.or_false,Bool.or_eq_true,decide_eq_true_eq];unfold tsN;by_cases z:R=[]
      · exact .inl z.symm
      · right;rw [if_neg z]
    rw [if_pos rfl,ei];walk_at "w";refine Bh (v:= .ref a5) (SqT.of (s1E _ _ gp)) (A4 (j:=5) rfl) ?_;walk_at "w";refine Bh (v:= .ref a6) (SqT.of (s1E _ _ gp)) (A4 (j:=6) rfl) ?_;walk_at "w";row_lines H14 x15;walk_at "w";row_lines H15 x16;walk_at "w";have efl:∀ (t:Nat) (z:Str),(List.replicate ((t:Nat):Int).toNat [V.str z]).flatten=(List.replicate t z).map V.str:=λ t z=>by
      rw [Int.toNat_natCast,List.map_replicate]
      induction t with
      | zero=>rfl
      | succ t ih=>rw [List.replicate_succ,List.flatten_cons,ih];rfl
    refine EV g16 (by omega) (by omega) (by simp) λ p17 n17=> ?_;rw [efl];wrow_has H16 x17;walk_at "w";row_lines H17 x18;walk_at "w";have s0I:Same H H18:=s0E.trans (s15.trans (s16.trans (s17.trans s18)));refine AC (SqL.of (s0I _ _ ha)) ?_;rw [List.length_map];walk_at "w";refine EV g18 (by omega) (by omega) (by simp) λ p19 n19=> ?_;rw [efl];wrow_has H18 x19;walk_at "w";row_lines H19 x20;walk_at "w";have s1K:Same H1 H20:=s1E.trans (s15.trans (s16.trans (s17.trans (s18.trans (s19.trans s20)))));have s0K:Same H H20:=s0I.trans (s19.trans s20);refine ⟨2, .tup [dS (List.replicate n "a"),dS (List.replicate rs.length "b")], .tup [dS (List.replicate n "a"),dS (List.replicate rs.length "b")],by decide,Ce ((s16.trans (s17.trans (s18.trans (s19.trans s20)))) _ _ g15) (Nr (s1K _ _ gwa) trivial (by rw [List.length_replicate];omega)) (Nr (s1K _ _ gwe) trivial (by rw [List.length_replicate];omega)),Ce g20 (Nr ((s18.trans (s19.trans s20)) _ _ g17) trivial (by rw [List.length_replicate];omega)) (Nr (s20 _ _ g19) trivial (by rw [List.length_replicate];omega)),rfl,?_⟩;rw [Bt,if_pos rfl];walk_at "w";refine Bh (SqT.of (s1K _ _ gp)) (A4 (j:=4) rfl) ?_;walk_at "w";obtain ⟨a4,vs4,rfl,h4,lv4,b4,el4⟩:=Mb (r4'.same s1K);have ltd:(ftD n rs R).td.length=rs.length:=by show ((lfs n rs).map (trN R)).length=_;rw [List.length_map,ll]
    have gm20:H20 pm=some (.lst ((lfs n rs).map nV)):=(s3.trans (s4.trans (s5.trans (s57.trans (s8.trans (s814.trans (s15.trans (s16.trans (s17.trans (s18.trans (s19.trans s20))))))))))) _ _ gm;have g820:H20 D=some (.lst ((tsN R).map nV)):=(s814.trans (s15.trans (s16.trans (s17.trans (s18.trans (s19.trans s20)))))) _ _ g8;refine ⟨false,false,a4,pm,rfl,⟨_,SqL.of h4⟩,⟨_,SqL.of gm20⟩,DS (WK (t1:=false) (t2:=false) (SqL.of h4) (SqL.of gm20) (by rw [List.length_map,lv4,ltd,ll])) (λ i σ H3=>∃ w1 w2,σ=[some (.ref y),some (.ref a),some (nV n),some (.ref q),some (.ref p),some (.ref pm),some (.ref z),some (.ref pf),some (.ref D),some (.ref po),w1,w2]/\Same H20 H3) ⟨_,_,rfl,Same.refl _⟩ (λ i σ H3 ⟨_,_,_,s⟩=>s) ?_ ?_⟩
    · rintro i σ H' H21 hi0 ⟨w1',w2',rfl,s'⟩ s21;rw [lv4,ltd] at hi0;have sB:=s'.trans s21;obtain ⟨b,eb,hb⟩:=el4 i (by omega);have eT:(ftD n rs R).td.getD i []=trN R ((lfs n rs).getD i 0):=by
        show ((lfs n rs).map (trN R)).getD i []=_;rw [List.getD_eq_getElem?_getD,List.getElem?_map,List.getElem?_eq_getElem (by omega),List.getD_eq_getElem?_getD,List.getElem?_eq_getElem (by omega)];rfl
      rw [eT] at hb;rw [eb,Aq (by rw [List.length_map];omega)];generalize (lfs n rs).getD i 0=l at hb;walk_at "w";refine ⟨D,rfl,⟨_,SqL.of (sB _ _ g820)⟩,λ D3 hD3=> ?_⟩;refine A1 (p:=λ i=>decide (0<(tsN R).getD i 0)&&MTies.wn ((tsN R).getD i 0) l) (G:=λ i=>((i+1:Nat):Int)) (O7 (SqL.of (sB _ _ g820)) rfl rfl) hD3 (by rw [List.length_map];omega) ?_ ?_ ?_
      · intro j H' R' hj s kk;rw [Aq hj];generalize (tsN R).getD j 0=t at kk;walk_at "w";refine N4 (λ hb=> ?_) (λ hb=> ?_)
        · have hb:0<t:=by have:=of_decide_eq_true hb;omega
          walk_at "w";rw [bO];have e:(decide (((t ||| l:Nat):Int)=((l:Nat):Int)))=(decide (0<t)&&MTies.wn t l):=by
            rw [decide_eq_true hb,Bool.true_and];unfold MTies.wn;exact decide_eq_decide.mpr (by omega)
          rw [e];exact kk H' (Same.refl _)
        · have hb:¬ 0<t:=by have:=of_decide_eq_false hb;omega
          walk_at "w";rw [decide_eq_false hb] at kk;exact kk H' (Same.refl _)
      · intro j H' R' hj hpj s kk;walk_at "w";rw [show ((j:Nat):Int)+1=((j+1:Nat):Int) by omega];exact kk H' (Same.refl _)
      intro H22 s22 g22;have e22:(((List.range ((tsN R).map nV).length).filter λ i=>decide (0<(tsN R).getD i 0)&&MTies.wn ((tsN R).getD i 0) l).map λ i=>((i+1:Nat):Int)).map V.int=(trN R l).map nV:=by
        rw [List.length_map, <-VC (λ t ht=>(Fz F t ht).1) l,List.map_map,List.map_map];rfl
      rw [e22] at g22;walk_at "w";refine Me (as:=(trN R l).map λ n=>((n:Nat):Int)) (bs:=(trN R l).map λ n=>((n:Nat):Int)) (by rw [<-Dg];exact SqL.of (s22 _ _ (sB _ _ hb))) (by rw [<-Dg];exact SqL.of g22) ?_;rw [decide_eq_true rfl];walk_at "w";exact ⟨_,_,rfl,sB.trans s22⟩
    · rintro σ H21 ⟨w1',w2',rfl,s21⟩;have s0L:=s0K.trans s21;walk_at "w";refine Bh (SqT.of (s21 _ _ (s1K _ _ gp))) (A4 (j:=1) rfl) ?_;walk_at "w";refine AC (SqL.of (s0L _ _ hq)) ?_;rw [lq];walk_at "w";refine Jo (X:=_) (ns:=rs.map λ n=>((n:Nat):Int)) rfl (by rw [<-Dg];exact SqL.of (s0L _ _ ha)) (by rw [List.length_map];omega) λ p22 n22=> ?_;wrow_has H21 x22;walk_at "w";unfold Sl;row_lines H22 x23;walk_at "w";refine ⟨p22,p23,_,0,rfl,rfl,s23 _ _ g22,g23,Pq ok l4,λ p24 n24=> ?_⟩;wrow_has H23 x24;walk_at "w";refine RX g24 ?_;have hF:=PR F l4;generalize ((HT.metK (rs.map λ n=>((n:Nat):Int))).filter λ k=> !decide (k=0)).length=dd at hF;walk_at "w";have e:decide ((((ftD n rs R).tr:Nat):Int)<=(if (if ((dd:Nat):Int)<(((kN (Ai n rs)).length:Nat):Int) then ((dd:Nat):Int) else (((kN (Ai n rs)).length:Nat):Int))>1 then (if ((dd:Nat):Int)<(((kN (Ai n rs)).length:Nat):Int) then ((dd:Nat):Int) else (((kN (Ai n rs)).length:Nat):Int)) else 1))=true:=by
        rw [show (ftD n rs R).tr=up1 R.length from EX R];refine decide_eq_true ?_;have:R.length<=dd:=hF;unfold up1;split <;> split <;> split <;> omega
      rw [e];exact k _ (s0L.trans (s22.trans (s23.trans s24)))
theorem RT {K:PySem.W.Frag} {H:Hp} {Q:VK} {l p:Addr} {as bs:List Str} (c:SqL K H l (as.map V.str)) (d:SqL K H p (bs.map V.str)) (h:Q (.bl (!decide (as=bs))) H):LR K true (.ref l) (.ref p) H Q:=
  ⟨l,p,_,_,rfl,rfl,c,d,by simp [A0],by simp [A0],by rw [Nv];exact h⟩
abbrev PM:Stmt:=top 72
theorem sc_law:FnScope ["_law_script","_law_whole","_law_ends","_law_rows_here","_law_kinds_here","_law_cloth","_law_tolds","_law_turn","_law_wrong","_law_draft","e"] ["_law_script"] (Ah PM):=⟨rfl,rfl,rfl,by decide +kernel,rfl,by decide +kernel,by decide +kernel⟩
theorem Ug {f:Addr} {fd:FuncData} (F:Fun K "law" "law" PM f fd) (T:Txt K mg c) (c__law_mixed:CallF P w K mg base "_law_mixed" 1 ["_law_cell","_law_k"] Cv) (c__law_rows:CallF P w K mg base "_law_rows" 2 ["_law_script","_law_ends"] (Fc K)) (c__law_columns:CallF P w K mg base "_law_columns" 1 ["_law_rows_here","_law_ends"] Dh) (m_Cloth:JV P w K mg base "Cloth" c.Cloth 4 ["self","ends","rows"] (AH K c)) (c_fewest_treadles:CallE P w K mg base "fewest_treadles" 11 ["cloth"] (BQ c)) (c__law_kinds:CallF P w K mg base "_law_kinds" 1 ["_law_error"] (Ej K c)) (c__law_draft_good:CallF P w K mg base "_law_draft_good" 11 ["_law_draft","_law_rows_here","_law_ends","_law_kinds_here"] (B6 K c)) (d_Draft_told:Bk P w K mg base c.Draft "told" 1 ["self"] (Cm c)) (d_Cloth_told:Bk P w K mg base c.Cloth "told" 1 ["self"] (Cu c)):FnOk P w K mg base CX0 12 f fd ["_law_script"] (Mg K):=by
  refine F.ok sc_law (λ vs H Q E h=> ?_) (λ cdv A outer s H vs Q E hr h=> ?_)
  · obtain ⟨a,ns,rfl,_⟩:=h;rfl
  · obtain ⟨a,ns,rfl,sa,hl,k⟩:=h;have hu:=hr.units0;refine ⟨_,(Ac (An (i:=1) sc_law.nd rfl (Or.inl rfl) (Aj (P0 (K:=K)) rfl (T.own _ (by decide)) boot_sum (Aa (pv 0) Ab)))
      (Ac (An (i:=2) sc_law.nd rfl (Or.inl rfl) (Ao Ba Ag (Ao B1 (Ae c__law_mixed (hr.mono (by decide)) (Aa (pv 1) (Aa Ag Ab))) (Bi (KI (K:=K)) (AI (Aa Ag (Aa Ag (Aa Ag Ab)))) (Ao B1 (Ae c__law_mixed (hr.mono (by decide)) (Aa (pv 1) (Aa Ag Ab))) Ag) (λ _ _=>rfl)))))
      (Ac (An (i:=3) sc_law.nd rfl (Or.inl rfl) (Ae c__law_rows (hr.mono (by decide)) (Aa (pv 0) (Aa (pv 2) Ab))))
      (Ac (An (i:=4) sc_law.nd rfl (Or.inl rfl) (Ae c__law_columns (hr.mono (by decide)) (Aa (pv 3) (Aa (pv 2) Ab))))
      (Ac (An (i:=5) sc_law.nd rfl (Or.inl rfl) (Hn m_Cloth (hr.mono (by decide)) Md (Aa (pv 2) (Aa (Ap (Ck (K:=K)) rfl (T.own _ (by decide)) AD (Aa (pv 3) Ab)) Ab))))
      (Ac (An (i:=6) sc_law.nd rfl (Or.inl rfl) (AI Ab))
      (Ac (Cp PassesOwn.never rfl (Fx rfl (T.own _ (by decide)) (Aa Ag Ab)) (Bd (i:=7) sc_law.nd rfl (Or.inl rfl)) (Ac (An (i:=8) sc_law.nd rfl (Or.inl rfl) DH)
      (Ac (Qr (j:=10) (i:=9) rfl rfl T.g_LoomError sc_law.nd rfl rfl rfl rfl c_fewest_treadles hr (λ _ _=>(Aa (pv 5) Ab)) (λ _ _=>(Af (An (i:=8) sc_law.nd rfl (Or.inl rfl) (pv 10)))))
      (Af (Bc (As Hi (Aj (AZ (K:=K)) rfl (T.own _ (by decide)) boot_len (Aa (pv 4) Ab)) Ag (Aw _)) (Af (Bc (PW.pt (Fs (As O0 (pv 8) DH (Aw _)) (Fs (As (PV hu (K:=K)) (Ae c__law_kinds (hr.mono (by decide)) (Aa (pv 8) Ab)) (AI (Aa AE Ab)) (Aw _)) (FV (As (LG hr.units) (AX (Aa (MI (K:=K) (pv 8) rfl) (Aa (MI (K:=K) (pv 8) rfl) Ab))) (AX (Aa AE (Aa (Aj (AZ (K:=K)) rfl (T.own _ (by decide)) boot_len (Aa (pv 4) Ab)) Ab))) (Aw _)))))) (Af (Al E4)) AK)) (Af (Bc (PW.pt (Fs (As Ml (pv 8) DH (Aw _)) (FV (Da (Bb (Ae c__law_draft_good hr (Aa (pv 9) (Aa (pv 3) (Aa (pv 2) (Aa (pv 4) Ab)))))))))) (Af (Al E4)) (Af (AL (Mj (K:=K) PySem.F.plainAttrs_list PySem.F.slot_list_append PySem.F.type_list_append DY (pv 6) (Aa (A3 (pv 9) d_Draft_told (hr.mono (by decide))) Ab)))))))))))
      (Af (Al (EN (BB (Te hr.units) (A3 (pv 5) d_Cloth_told (hr.mono (by decide))) (AX (Aa (pv 2) (Aa (pv 3) Ab))) (Aw _)) (FQ (BB (SQ hr.units) (pv 6) (AX (Aa (AI Ab) (Aa (Ao EO (Hj (Oo (K:=K)) (pv 6) Jl (Jy Ag)) Ag) Ab))) (by with_unfolding_all rfl))))))))))))),?_⟩
    walk_at "w";refine Ly sa ?_;walk_at "w";generalize ns.sum=W;refine ⟨W,1,rfl,⟨by decide,by decide⟩,?_⟩;walk_at "w";row_lines H x1;walk_at "w";refine ⟨W,2,rfl,⟨by decide,by decide⟩,?_⟩;walk_at "w";refine A9 (by decide) ?_;obtain ⟨j,ej,lj⟩:=MY (x:=Dk W 2) (show 0<3 by decide);rw [show Dk W 2%3=((j:Nat):Int) from ej];obtain ⟨w60,ew,b1,b2⟩:∃ w:Nat,atI [V.int 8,V.int 20,V.int 60] ((j:Nat):Int)=some (.int ((w:Nat):Int))/\1<=w/\w<=60:=by
      match j,lj with
      | 0,_=>exact ⟨8,A4 (j:=0) rfl,by decide,by decide⟩
      | 1,_=>exact ⟨20,A4 (j:=1) rfl,by decide,by decide⟩
      | 2,_=>exact ⟨60,A4 (j:=2) rfl,by decide,by decide⟩
    refine G6 (SqL.of g1) ew ?_;walk_at "w";refine A9 (by show (0:Int)<_;omega) ?_;obtain ⟨n0,en,ln⟩:=MY (x:=Dk W 1) (show 0<w60 by omega);rw [en];walk_at "w";rw [show (1:Int)+((n0:Nat):Int)=((n0+1:Nat):Int) by omega];refine ⟨a,ns,n0+1,rfl,s1.seq sa,hl,by omega,by omega,λ H2 p2 rs s2 hp2 g2 ok=> ?_⟩;generalize n0+1=n at ok;walk_at "w";refine ⟨p2,n,rs,rfl,g2,ok,λ H3 p3 ys s3 hp3 g3 ly=> ?_⟩;walk_at "w";have hn1:=ok.n1;have hn2:=ok.n2;have hp2':=ok.p2;refine FE (SqL.of (s3 _ _ g2)) λ p4 n4=> ?_;wrow_has H3 x4;walk_at "w";refine SD g4 ok λ H5 x s5 hx C5=> ?_;walk_at "w";row_lines H5 x6;walk_at "w";refine ⟨2,rfl,by decide,by decide,?_⟩;have e2:=(s3.trans (s4.trans s5)) _ _ g2;have e3:=(s4.trans s5) _ _ g3;refine Fm (H0:=H5) (FF (n:=2)) (λ t σ H3=>∃ v1 v2 v3 v4,∃ vs:List V,σ=[some (.ref a),some (.int W),some (nV n),some (.ref p2),some (.ref p3),some (.ref x),some (.ref p6),v1,v2,v3,v4]/\Same H5 H3/\H3 p6=some (.lst vs)/\((4<(kN (Ai n rs)).length/\vs=[])\/((kN (Ai n rs)).length<=4/\vs.length=t/\(t=0\/∃ m R,MTies.Few (kN (lfs n rs)) m R/\∀ v∈vs,Rp (bar p6 H3) FT 3 v (dDr (ftD n rs R)))))) ⟨_,_,_,_,[],rfl,s6,g6,?_⟩ (λ i σ H3 ⟨_,_,_,_,_,_,s,_⟩=>s) ?_ ?_
    · rcases Nat.lt_or_ge 4 (kN (Ai n rs)).length with z | z
      · exact .inl ⟨z,rfl⟩
      · exact .inr ⟨z,rfl, .inl rfl⟩
    · rintro t σ H' H7 ht ⟨v1,v2,v3,v4,vs,rfl,s',h',hv⟩ s7;have sB:=s'.trans s7;have C7:=C5.same sB;walk_at "w";unfold Sj;walk_at "w";refine ⟨x,n,rs,rfl,C7,ok,λ hK H8 y m R s8 hy F D8=> ?_,λ hK H8 dx s8 g8=>⟨_,rfl,T.xm_TooMany_LoomError,λ b ha=> ?_⟩⟩
      · walk_at "w";rcases hv with ⟨z,_⟩ | ⟨_,lv,hv⟩
        · omega
        have sC:=sB.trans s8;refine AC (SqL.of (sC _ _ e3)) ?_;rw [ly];walk_at "w";refine Gg (λ z=>absurd z (by omega)) (λ _=> ?_);walk_at "w";refine ⟨rfl,?_⟩;walk_at "w";rw [decide_eq_true rfl];walk_at "w";refine ⟨y,p2,n,rs,p3,ys,m,R,rfl,D8,sC _ _ e2,ok,sC _ _ e3,ly,hK,F,λ H9 s9=> ?_⟩;walk_at "w";have h9:=(s7.trans (s8.trans s9)) _ _ h';refine tyL (SqL.of h9) ?_;have D9:=D8.same s9;obtain ⟨dy,z1,z2,z3,z4,z5,hy',_,_,_,_,_⟩:=id D9;walk_at "w";refine ⟨_,_,_,rfl,hy',rfl,?_⟩;walk_at "w";refine ⟨y,_,rfl,D9,λ H10 p10 s10 hp10 r10=> ?_⟩;have h10:=s10 _ _ h9;walk_at "w";refine Lm h10 (by omega) ?_;walk_at "w";have s7A:Same H' H10:=s7.trans (s8.trans (s9.trans s10));refine ⟨_,_,_,_,vs++[.ref p10],rfl,DU (s'.trans s7A) n6,Ad, .inr ⟨hK,by rw [List.length_append,lv];rfl, .inr ⟨m,R,F,λ v hv1=> ?_⟩⟩⟩;rw [Mn];rcases List.mem_append.mp hv1 with hv1 | hv1
        · rcases hv with rfl | ⟨m0,R0,F0,hv⟩
          · rw [List.length_eq_zero_iff.mp lv] at hv1;cases hv1
          · obtain ⟨_,rfl⟩:=F.uniq F0;exact (hv v hv1).same (Lb s7A)
        · rw [List.mem_singleton.mp hv1];refine r10.mono (λ b o q z=>OS q λ e=> ?_) (λ _ _=>trivial);rw [e,h10] at q;cases q;have:=z _ rfl;rw [e] at this;have z2:H9 p6=none:=this;rw [h9] at z2;cases z2
      · rcases hv with ⟨_,rfl⟩ | ⟨z,_⟩
        case inr=>omega
        have s9:=Ak (o:=EB b c.TooMany (some dx)) ha;have e9:=s9 _ _ g8;have eb:upd H8 b (EB b c.TooMany (some dx)) b=_:=Ad;generalize upd H8 b (EB b c.TooMany (some dx))=H9 at s9 e9 eb ⊢;have sC:=sB.trans (s8.trans s9);walk_at "w";refine TB ?_;walk_at "w";refine AC (SqL.of (sC _ _ e3)) ?_;rw [ly];walk_at "w";refine Gg (λ _=> ?_) (λ z=>absurd (by omega) z);walk_at "w";refine ⟨rfl,?_⟩;walk_at "w";rw [decide_eq_false (by intro z;cases z)];walk_at "w";refine ⟨b,_,_,2,rfl,eb,⟨by decide,T.xk_TooMany.toExcKind,T.ki_TooMany_BadRow,T.ki_TooMany_BadWord,T.ki_TooMany_TooMany,T.ki_TooMany_NotPlain,T.ki_TooMany_NotGrown,T.ki_TooMany_BadDraft,T.ki_TooMany_BadCloth,T.ki_TooMany_OutOfPlace,T.ki_TooMany_ValueError⟩,λ H10 l s10 hl10 g10=> ?_⟩;walk_at "w";row_lines H10 x11;walk_at "w";refine RT (as:=[nmK 2]) (bs:=["many"]) (SqL.of (s11 _ _ g10)) (SqL.of g11) ?_;rw [show (!decide (([nmK 2]:List Str)=[("many":Str)]))=false by decide +kernel];walk_at "w";have s911:=s10.trans s11;refine Mq ?_;walk_at "w";refine ⟨b,_,dx,_,_,rfl,s911 _ _ eb,s911 _ _ e9,rfl,T.xk_TooMany,T.xf_TooMany_what,?_⟩;walk_at "w";refine Mq ?_;walk_at "w";refine ⟨b,_,dx,_,_,rfl,s911 _ _ eb,s911 _ _ e9,rfl,T.xk_TooMany,T.xf_TooMany_many,?_⟩;walk_at "w";row_lines H11 x12;walk_at "w";have s0D:=sC.trans (s911.trans s12);refine AC (SqL.of (s0D _ _ e3)) ?_;rw [ly];walk_at "w";row_lines H12 x13;walk_at "w";refine ⟨2, .tup [.str "shafts",dN (kN (Ai n rs)).length], .tup [.str "shafts",dN (kN (Ai n rs)).length],by decide,Ce (s13 _ _ g12) (.str _) (.int _),Ce g13 (.str _) (.int _),rfl,?_⟩;rw [Bt,if_pos rfl];walk_at "w";exact ⟨_,_,_,_,[],rfl,s0D.trans s13,(s7.trans (s8.trans (s9.trans (s911.trans (s12.trans s13))))) _ _ h', .inl ⟨hK,rfl⟩⟩
    · rintro σ H7 ⟨v1,v2,v3,v4,vs,rfl,s7,h7,hv⟩;have C7:=C5.same s7;obtain ⟨dx,tx,gx,_⟩:=id C7;walk_at "w";refine ⟨_,_,_,rfl,gx,rfl,?_⟩;walk_at "w";refine ⟨x,_,_,rfl,C7,λ H8 p8 l8 s8 _ _ g8 gl8=> ?_⟩;walk_at "w";row_lines H8 x9;walk_at "w";refine ⟨2, .tup [dN n,dL rs], .tup [dN n,dL rs],by decide,Ce (s9 _ _ g8) (.int _) (Dm (s9 _ _ gl8) trivial (by omega)),Ce g9 (.int _) (Dm ((s7.trans (s8.trans s9)) _ _ e2) trivial (by omega)),rfl,?_⟩;rw [Bt,if_neg (by decide)];walk_at "w";row_lines H9 x10;walk_at "w";have s710:Same H7 H10:=s8.trans (s9.trans s10);have h10:=s710 _ _ h7;refine LT (SqL.of h10) λ p11 n11=> ?_;rw [N9 (by decide)];wrow_has H10 x11;walk_at "w";refine EV g11 (by decide) (by decide) (by simp;omega) λ p12 n12=> ?_;wrow_has H11 x12;walk_at "w";row_lines H12 x13;walk_at "w";have s713:Same H7 H13:=s710.trans (s11.trans (s12.trans s13));have h13:=s713 _ _ h7;have ge:H13 p10=some (.lst []):=(s11.trans (s12.trans s13)) _ _ g10;have gt:=s13 _ _ g12;rcases hv with ⟨_,rfl⟩ | ⟨_,lv,hv⟩
      · refine ⟨p13,_,[.lst [], .lst []],4, .d (.lst []),rfl, .inr g13,by decide,rfl,λ i v d q1 q2=> ?_, .d (.lst h13 trivial (by decide) rfl λ i v d q1 _=>nomatch q1),trivial,?_⟩
        · match i,q1,q2 with
          | 0,q1,q2=>cases q1;cases q2;exact .lst ge trivial (by decide) rfl λ i v d q1 _=>nomatch q1
          | 1,q1,q2=>cases q1;cases q2;exact .lst gt trivial (by decide) rfl λ i v d q1 _=>nomatch q1
        · exact k _
      · rcases hv with hv | ⟨m,R,F,hv⟩
        · cases hv
        match vs,lv,hv,h13,gt with
        | [u,u'],_,hv,h13,gt=>
          have r1:Rp H13 FT 3 u (dDr (ftD n rs R)):=((hv u (by simp)).same Hb).same s713;have r2:Rp H13 FT 3 u' (dDr (ftD n rs R)):=((hv u' (by simp)).same Hb).same s713;have two:∀ {l:Addr} {y y':V},H13 l=some (.lst [y,y'])->Rp H13 FT 3 y (dDr (ftD n rs R))->Rp H13 FT 3 y' (dDr (ftD n rs R))->Rp H13 FT 4 (.ref l) (.lst [dDr (ftD n rs R),dDr (ftD n rs R)]):=λ {l y y'} h a1 a2=> .lst h trivial (by show 2<=100000;decide) rfl λ i v d q1 q2=>by
            match i,q1,q2 with
            | 0,q1,q2=>cases q1;cases q2;exact a1
            | 1,q1,q2=>cases q1;cases q2;exact a2
          refine ⟨p13,_,[.lst [], .lst [dDr (ftD n rs R),dDr (ftD n rs R)]],4, .d (.lst [dDr (ftD n rs R),dDr (ftD n rs R)]),rfl, .inr g13,by decide,rfl,λ i v d q1 q2=> ?_, .d (two h13 r1 r2),trivial,?_⟩
          · match i,q1,q2 with
            | 0,q1,q2=>cases q1;cases q2;exact .lst ge trivial (by decide) rfl λ i v d q1 _=>nomatch q1
            | 1,q1,q2=>cases q1;cases q2;exact two gt r1 r1
          · rw [if_neg (by decide)];have e:inX (.d (.lst [dDr (ftD n rs R),dDr (ftD n rs R)])) [.lst [], .lst [dDr (ftD n rs R),dDr (ftD n rs R)]]=true:=by
              show ([Dt.lst [], .lst [dDr (ftD n rs R),dDr (ftD n rs R)]].any λ e=>eqD e (.lst [dDr (ftD n rs R),dDr (ftD n rs R)]))=true;rw [List.any_cons,List.any_cons,Bt];simp
            rw [e];exact k _
end
end K08
namespace K08
open PySem L2 PySem.Spec PyProof.Rows
theorem all_mk {l:PySem.W.OpenLaw} {w:World} {K:PySem.W.Frag} {h:Heap} {mg:Str->Option Value} {fa:Addr} (X:K.In h) (G:h.Ns mainGlobals mg) (hfa:mg "law"=some (.ref fa))
    {C_Draft C_Cloth C_LoomError C_BadRow C_BadWord C_TooMany C_NotPlain C_NotGrown C_BadDraft C_BadCloth C_OutOfPlace f0 f1 f2 f3 f4 f5 f6 f7 f8 f9 f10 f11 f12 f13 f14 f15 f16 f17 f18 f19 f20 f21 f22 f23 f24 f25 f26 f27 f28 f29 f30 f31 f32 f33 f34 f35 f36 f37 f38 f39 f40 f41 f42 f43 f44 f45 f46 f47 f48 f49 f50 f51 f52 f53:Addr} {d0 d1 d2 d3 d4 d5 d6 d7 d8 d9 d10 d11 d12 d13 d14 d15 d16 d17 d18 d19 d20 d21 d22 d23 d24 d25 d26 d27 d28 d29 d30 d31 d32 d33 d34 d35 d36 d37 d38 d39 d40 d41 d42 d43 d44 d45 d46 d47 d48 d49 d50 d51 d52 d53:FuncData}
    (T0:(∃ fi,HT.iniIn K C_TooMany fi=true)->Txt K mg ⟨C_Draft,C_Cloth,C_LoomError,C_BadRow,C_BadWord,C_TooMany,C_NotPlain,C_NotGrown,C_BadDraft,C_BadCloth,C_OutOfPlace⟩)
    (D0:DefAt K mg "bit_of" Hf ["number"] f0 d0)
    (D1:DefAt K mg "mask_of" FL ["numbers"] f1 d1)
    (D2:DefAt K mg "mask_to" FI ["most"] f2 d2)
    (D3:DefAt K mg "has_number" C8 ["mask","number"] f3 d3)
    (D4:DefAt K mg "numbers_of" CN ["mask"] f4 d4)
    (D5:DefAt K mg "union_of" Ew ["masks"] f5 d5)
    (D6:DefAt K mg "is_whole" EG ["thing"] f6 d6)
    (D7:DefAt K mg "is_among" ER ["thing","least","most"] f7 d7)
    (D8:DefAt K mg "need_cloth" CU ["ends","rows"] f8 d8)
    (j9:Mk K C_Cloth f9)
    (D9:FnA K "__init__" "Cloth.__init__" Bz ["self","ends","rows"] f9 d9)
    (j10:Meth K C_Cloth "told" f10)
    (D10:FnA K "told" "Cloth.told" Dc ["self"] f10 d10)
    (j11:Meth K C_Cloth "ends" f11)
    (D11:FnA K "ends" "Cloth.ends" C0 ["self"] f11 d11)
    (j12:Meth K C_Cloth "picks" f12)
    (D12:FnA K "picks" "Cloth.picks" Cw ["self"] f12 d12)
    (j13:Meth K C_Cloth "column_at" f13)
    (D13:FnA K "column_at" "Cloth.column_at" Bo ["self","end"] f13 d13)
    (D14:DefAt K mg "is_colour" DI ["thing"] f14 d14)
    (D15:DefAt K mg "need" LJ ["holds","words"] f15 d15)
    (D16:DefAt K mg "is_list" FK ["thing","least","most"] f16 d16)
    (D17:DefAt K mg "is_rising" DB ["thing","most"] f17 d17)
    (D18:DefAt K mg "are_rising" CZ ["thing","most"] f18 d18)
    (D19:DefAt K mg "are_colours" Cy ["thing","many"] f19 d19)
    (D20:DefAt K mg "need_draft" CM ["shafts","treadles","threading","ties","treading","warp","weft"] f20 d20)
    (j21:Mk K C_Draft f21)
    (D21:FnA K "__init__" "Draft.__init__" BA ["self","shafts","treadles","threading","ties","treading","warp","weft"] f21 d21)
    (j22:Meth K C_Draft "told" f22)
    (D22:FnA K "told" "Draft.told" CT ["self"] f22 d22)
    (j23:Meth K C_Draft "ends" f23)
    (D23:FnA K "ends" "Draft.ends" De ["self"] f23 d23)
    (D24:DefAt K mg "lift_by" FD ["ties","treadles"] f24 d24)
    (D25:DefAt K mg "lifts_of" EK ["draft"] f25 d25)
    (D26:DefAt K mg "ends_through" B8 ["threading","shaft"] f26 d26)
    (D27:DefAt K mg "shaft_ends" C9 ["threading","shafts"] f27 d27)
    (D28:DefAt K mg "row_by" GW ["carried","lift"] f28 d28)
    (D29:DefAt K mg "woven" JS ["draft"] f29 d29)
    (D30:DefAt K mg "numbered_kinds" By ["masks"] f30 d30)
    (D31:DefAt K mg "kinds_of" ES ["masks"] f31 d31)
    (D32:DefAt K mg "kind_numbers" B7 ["masks"] f32 d32)
    (D33:DefAt K mg "_law_mixed" CO ["_law_cell","_law_k"] f33 d33)
    (j34:Meth K C_Cloth "is_up" f34)
    (D34:FnA K "is_up" "Cloth.is_up" CA ["self","end","pick"] f34 d34)
    (D35:DefAt K mg "columns_of" CP ["cloth"] f35 d35)
    (D36:DefAt K mg "first_places" BU ["masks"] f36 d36)
    (D37:DefAt K mg "fewest_shown" BS ["cloth"] f37 d37)
    (a38:PySem.W.findIn K (.ref C_TooMany) "__init__"=some (some (.ref f38)))
    (j38:MkI K C_TooMany f38)
    (D38:FnA K "__init__" "TooMany.__init__" Bf ["self","what","many"] f38 d38)
    (D39:DefAt K mg "need_at_most" BX ["most","what","many"] f39 d39)
    (D40:DefAt K mg "tie_at" GQ ["cloth","shown_ends","pick"] f40 d40)
    (D41:DefAt K mg "draft_for" DC ["cloth","ties","treading"] f41 d41)
    (D42:DefAt K mg "read_off" ED ["cloth"] f42 d42)
    (D43:DefAt K mg "_law_kinds" CV ["_law_error"] f43 d43)
    (D44:DefAt K mg "lies_within" Co ["tie","lift"] f44 d44)
    (D45:DefAt K mg "is_told" FY ["lift","ties"] f45 d45)
    (D46:DefAt K mg "trodden_of" Dd ["lift","ties"] f46 d46)
    (D47:DefAt K mg "ties_behind" BD ["ties","lifts","many"] f47 d47)
    (D48:DefAt K mg "few_ties" Ex ["lifts"] f48 d48)
    (D49:DefAt K mg "fewest_treadles" Bv ["cloth"] f49 d49)
    (D50:DefAt K mg "_law_rows" DA ["_law_script","_law_ends"] f50 d50)
    (D51:DefAt K mg "_law_columns" B2 ["_law_rows_here","_law_ends"] f51 d51)
    (D52:DefAt K mg "_law_draft_good" Br ["_law_draft","_law_rows_here","_law_ends","_law_kinds_here"] f52 d52)
    (D53:DefAt K mg "law" PM ["_law_script"] f53 d53)
    (hlb:∀ (s:Shared) (u:Value),BindsTo s d53 ⟨[u],[]⟩ [("_law_script",u)])
    : ∃ fd:FuncData,(∀ (s:Shared) (v:Value),BindsTo s fd ⟨[v],[]⟩ [("_law_script",v)])/\∀ base:Heap,K.In base->base.Ns mainGlobals mg->FnOk l.prog w K mg base CX0 12 fa fd ["_law_script"] (Mg K):=by
  cases hfa.symm.trans D53.at';have T:=T0 ⟨_,j38.ini⟩;exact ⟨_,hlb,λ base _ _=>by
    have c_bit_of:=D0.call (NI (P:=l.prog) (w:=w) (base:=base) D0.fn T);have c_mask_of:=D1.call (LY (P:=l.prog) (w:=w) (base:=base) D1.fn T c_bit_of);have c_mask_to:=D2.call (Ls (P:=l.prog) (w:=w) (base:=base) D2.fn T);have c_has_number:=D3.call (Ig (P:=l.prog) (w:=w) (base:=base) D3.fn T c_bit_of);have c_numbers_of:=D4.call (Ij (P:=l.prog) (w:=w) (base:=base) D4.fn T c_has_number);have c_union_of:=D5.call (K3 (P:=l.prog) (w:=w) (base:=base) D5.fn T);have c_is_whole:=D6.call (Lc (P:=l.prog) (w:=w) (base:=base) D6.fn T);have c_is_among:=D7.call (J4 (P:=l.prog) (w:=w) (base:=base) D7.fn T c_is_whole);have c_need_cloth:=D8.callE (Ib (P:=l.prog) (w:=w) (base:=base) D8.fn T c_is_among c_mask_to);have m_Cloth:JV l.prog w K mg base "Cloth" C_Cloth 4 ["self","ends","rows"] _:=⟨_,_,T.g_Cloth,j9,Fh (P:=l.prog) (w:=w) (base:=base) D9.fn T c_need_cloth,D9.bi⟩;have d_Cloth_told:Bk l.prog w K mg base C_Cloth "told" 1 ["self"] _:=⟨_,_,T.kd_Cloth.cl,j10,Iq (P:=l.prog) (w:=w) (base:=base) D10.fn T,D10.bi⟩;have d_Cloth_ends:Bk l.prog w K mg base C_Cloth "ends" 1 ["self"] _:=⟨_,_,T.kd_Cloth.cl,j11,HQ (P:=l.prog) (w:=w) (base:=base) D11.fn T,D11.bi⟩;have d_Cloth_picks:Bk l.prog w K mg base C_Cloth "picks" 1 ["self"] _:=⟨_,_,T.kd_Cloth.cl,j12,GN (P:=l.prog) (w:=w) (base:=base) D12.fn T,D12.bi⟩;have d_Cloth_column_at:Bk l.prog w K mg base C_Cloth "column_at" 3 ["self","end"] _:=⟨_,_,T.kd_Cloth.cl,j13,EH (P:=l.prog) (w:=w) (base:=base) D13.fn T c_mask_of c_has_number,D13.bi⟩;have c_is_colour:=D14.call (Ju (P:=l.prog) (w:=w) (base:=base) D14.fn T);have c_need:=D15.call (Q6 (P:=l.prog) (w:=w) (base:=base) D15.fn T);have c_is_list:=D16.call (Ln (P:=l.prog) (w:=w) (base:=base) D16.fn T c_is_among);have c_is_rising:=D17.call (Jk (P:=l.prog) (w:=w) (base:=base) D17.fn T c_is_among);have c_are_rising:=D18.call (HG (P:=l.prog) (w:=w) (base:=base) D18.fn T c_is_rising);have c_are_colours:=D19.call (GY (P:=l.prog) (w:=w) (base:=base) D19.fn T c_is_list c_is_colour);have c_need_draft:=D20.call (Il (P:=l.prog) (w:=w) (base:=base) D20.fn T c_need c_is_among c_is_list c_are_rising c_are_colours);have m_Draft:Pw l.prog w K mg base "Draft" C_Draft 6 ["self","shafts","treadles","threading","ties","treading","warp","weft"] _:=⟨_,_,T.g_Draft,j21,Fp (P:=l.prog) (w:=w) (base:=base) D21.fn T c_need_draft,D21.bi⟩;have d_Draft_told:Bk l.prog w K mg base C_Draft "told" 1 ["self"] _:=⟨_,_,T.kd_Draft.cl,j22,HW (P:=l.prog) (w:=w) (base:=base) D22.fn T,D22.bi⟩;have d_Draft_ends:Bk l.prog w K mg base C_Draft "ends" 1 ["self"] _:=⟨_,_,T.kd_Draft.cl,j23,HI (P:=l.prog) (w:=w) (base:=base) D23.fn T,D23.bi⟩;have c_lift_by:=D24.call (Lh (P:=l.prog) (w:=w) (base:=base) D24.fn T c_union_of);have c_lifts_of:=D25.call (JZ (P:=l.prog) (w:=w) (base:=base) D25.fn T c_mask_of c_lift_by);have c_ends_through:=D26.call (Ge (P:=l.prog) (w:=w) (base:=base) D26.fn T c_mask_of);have c_shaft_ends:=D27.call (HV (P:=l.prog) (w:=w) (base:=base) D27.fn T c_ends_through);have c_row_by:=D28.call (Nu (P:=l.prog) (w:=w) (base:=base) D28.fn T c_numbers_of c_union_of);have c_woven:=D29.call (Od (P:=l.prog) (w:=w) (base:=base) D29.fn T c_shaft_ends d_Draft_ends c_row_by c_lifts_of m_Cloth);have c_numbered_kinds:=D30.call (Fu (P:=l.prog) (w:=w) (base:=base) D30.fn T);have c_kinds_of:=D31.call (JW (P:=l.prog) (w:=w) (base:=base) D31.fn T c_numbered_kinds);have c_kind_numbers:=D32.call (Gn (P:=l.prog) (w:=w) (base:=base) D32.fn T c_numbered_kinds);have c__law_mixed:=D33.call (HN (P:=l.prog) (w:=w) (base:=base) D33.fn T);have d_Cloth_is_up:Bk l.prog w K mg base C_Cloth "is_up" 3 ["self","end","pick"] _:=⟨_,_,T.kd_Cloth.cl,j34,GZ (P:=l.prog) (w:=w) (base:=base) D34.fn T c_has_number,D34.bi⟩;have c_columns_of:=D35.call (HR (P:=l.prog) (w:=w) (base:=base) D35.fn T d_Cloth_column_at d_Cloth_ends);have c_first_places:=D36.call (Gf (P:=l.prog) (w:=w) (base:=base) D36.fn T c_kinds_of);have c_fewest_shown:=D37.call (Gr (P:=l.prog) (w:=w) (base:=base) D37.fn T c_columns_of c_first_places);have m_TooMany:LI l.prog w K mg base "TooMany" C_TooMany 1 ["self","what","many"] _:=⟨_,_,T.g_TooMany,j38,Ee (P:=l.prog) (w:=w) (base:=base) D38.fn T,D38.bi⟩;have c_need_at_most:=D39.callE (Gm (P:=l.prog) (w:=w) (base:=base) D39.fn T m_TooMany);have c_tie_at:=D40.call (NG (P:=l.prog) (w:=w) (base:=base) D40.fn T d_Cloth_is_up);have c_draft_for:=D41.call (JC (P:=l.prog) (w:=w) (base:=base) D41.fn T c_kind_numbers c_columns_of d_Cloth_ends d_Cloth_picks m_Draft);have c_read_off:=D42.callE (Kd (P:=l.prog) (w:=w) (base:=base) D42.fn T c_fewest_shown c_need_at_most c_tie_at c_kind_numbers c_draft_for);have c__law_kinds:=D43.call (Ie (P:=l.prog) (w:=w) (base:=base) D43.fn T);have c_lies_within:=D44.call (Hc (P:=l.prog) (w:=w) (base:=base) D44.fn T);have c_is_told:=D45.call (LX (P:=l.prog) (w:=w) (base:=base) D45.fn T c_lies_within c_union_of);have c_trodden_of:=D46.call (HK (P:=l.prog) (w:=w) (base:=base) D46.fn T c_lies_within);have c_few_ties:=D48.call (KB (P:=l.prog) (w:=w) (base:=base) D48.fn T c_kinds_of (D47.call (DD (P:=l.prog) (w:=w) (base:=base) D47 T c_is_told c_lies_within 8)));have c_fewest_treadles:=D49.callE (Eu (P:=l.prog) (w:=w) (base:=base) D49.fn T c_fewest_shown c_need_at_most c_tie_at c_mask_of c_few_ties c_trodden_of c_numbers_of c_draft_for d_Cloth_picks);have c__law_rows:=D50.call (Jq (P:=l.prog) (w:=w) (base:=base) D50.fn T c__law_mixed);have c__law_columns:=D51.call (Gq (P:=l.prog) (w:=w) (base:=base) D51.fn T);have c__law_draft_good:=D52.call (EU (P:=l.prog) (w:=w) (base:=base) D52.fn T d_Draft_told c_lifts_of c_woven d_Cloth_told c_few_ties c_read_off m_Cloth);exact Ug D53.fn T c__law_mixed c__law_rows c__law_columns m_Cloth c_fewest_treadles c__law_kinds c__law_draft_good d_Draft_told d_Cloth_told
    ⟩
theorem walk {l:PySem.W.OpenLaw} {q:Program} {loose:List Str} {XP:(Str->Option Value)->Heap->Prop} {YP:World->Heap->Prop} {d:DefRec} {K:Params->PySem.W.Frag} (hn:l.most=some 63) (hdf:d.params.defaults=[])
    (hY:∀ (w:World) (h:Heap),YP w h->(K w.params).In h)
    (F:∀ (w:World) (mg:Str->Option Value) (fa:Addr) (h:Heap),(K w.params).In h->h.Ns mainGlobals mg->mg d.name=some (.ref fa)->
      ∃ fd:FuncData,(∀ (s:Shared) (v:Value),BindsTo s fd ⟨[v],[]⟩ [("_law_script",v)])/\∀ base:Heap,(K w.params).In base->base.Ns mainGlobals mg->FnOk l.prog w (K w.params) mg base CX0 12 fa fd ["_law_script"] (Mg (K w.params))):
    PySem.W.WalkO q loose XP YP l.row.toRowW d [] (λ f vs=>PySem.call f vs):=
  L2.walk_of (n:=63) (k:=12) (x:="_law_script") (CX:=λ _=>CX0) (sp:=λ w=>Mg (K w.params)) hn (by decide) hdf ⟨rfl,by decide,by decide⟩ hY F (λ _ _ a ns hl _ hS=>⟨a,ns,rfl,hS,hl,λ _=>rfl⟩) λ _ _ _ _ _ z=>z
end K08
open PySem PySem.W PyProof.Rows
set_option maxRecDepth 100000 in
set_option maxHeartbeats 0 in
theorem PySem.Challenge.cw_loomwright_k08_whole_fewest_treadles_holds : PySem.Challenge.rw_loomwright_k08_whole_fewest_treadles.Holds := by
  w_on
  refine PySem.W.holds_law (by first | k_qdec | decide +kernel) λ said=> ?_;refine PySem.W.holds_open (q:=K08.view) (loose:=[]) (Xt:=K08.Xt) (XP:=PySem.W.XL K08.view []) (Yf:=(PySem.W.kHook K08.frag K08.addrs K08.addrs_eq).obs) (Ya:=(PySem.W.kHook K08.frag K08.addrs K08.addrs_eq).val) (YP:=(PySem.W.kHook K08.frag K08.addrs K08.addrs_eq).says) (N:=K08.fuel) K08.left (PySem.W.kHook K08.frag K08.addrs K08.addrs_eq).of (PySem.W.kHook K08.frag K08.addrs K08.addrs_eq).keeps (λ s e=>PySem.W.xl_of s (Bool.and_eq_true_iff.mp e).1) PySem.W.XL.keeps (by rfl) (by rfl) (by rfl) (λ s e=>PySem.W.recFacts_of (Bool.and_eq_true_iff.mp e).2) (by rfl) (by first | assumption | decide +kernel) (by first | k_qdec | decide +kernel) ⟨rfl,rfl,rfl,rfl,rfl,by decide +kernel⟩ ?hw ?hc
  (case hw=>w_witness2)
  k_fill
  refine K08.walk (l:=PySem.Challenge.rw_loomwright_k08_whole_fewest_treadles) rfl rfl (λ w h Y=>PySem.W.kIn_of Y) ?F
  case F=>
    intro w mg fa h KX G hmg;refine' K08.all_mk KX G hmg ?T ?_ ?_ ?_ ?_ ?_ ?_ ?_ ?_ ?_ ?_ ?_ ?_ ?_ ?_ ?_ ?_ ?_ ?_ ?_ ?_ ?_ ?_ ?_ ?_ ?_ ?_ ?_ ?_ ?_ ?_ ?_ ?_ ?_ ?_ ?_ ?_ ?_ ?_ ?_ ?_ ?_ ?_ ?_ ?_ ?_ ?_ ?_ ?_ ?_ ?_ ?_ ?_ ?_ ?_ ?_ ?_ ?_ ?_ ?_ ?_ ?_ ?_ ?_ ?_ ?_ ?_
    case T=>
      intros
      constructor
      all_goals try dsimp only
      all_goals try ((with_reducible refine' PySem.W.mg_of KX G ?_);k_is)
      all_goals first
        | ((with_reducible refine' L2.own_cons (PySem.W.mg_none_of KX G ?_) ?_) <;> (repeat' first | (with_reducible exact L2.own_nil) | (with_reducible refine' L2.own_cons (PySem.W.mg_none_of KX G ?_) ?_) | k_is))
        | ((with_reducible first | refine' L2.ci_mk (PySem.W.mg_of KX G ?_) | refine' L2.cs_mk (PySem.W.mg_of KX G ?_)) <;> first | k_is | skip)
        | with_reducible assumption
        | (refine' ⟨⟨?_,?_,?_,?_⟩,?_,?_,?_,?_⟩ <;> k_is)
        | ((with_reducible refine' L2.xk_mk (L2.exc_mk ?_ ?_ ?_ ?_ ?_ ?_ ?_ ?_) ?_) <;> k_is)
        | ((with_reducible refine' L2.exc_mk ?_ ?_ ?_ ?_ ?_ ?_ ?_ ?_) <;> k_is)
        | (refine' ⟨?_,?_,?_⟩ <;> first | k_is | kernel_rfl)
        | (unfold L2.NoAttr;k_is)
        | k_is | k_exc | kts_exm | kit_is
    all_goals first
      | (refine' L2.def_mk (PySem.W.mg_of KX G ?_) (L2.fun_mk ?_ ?_ ?_) ?_ <;> first | k_is | exact L2.arg1 λ _=>rfl | exact L2.arg2 λ _ _=>rfl | exact L2.arg3 λ _ _ _=>rfl | exact L2.arg4 λ _ _ _ _=>rfl | exact L2.arg5 λ _ _ _ _ _=>rfl | exact L2.arg6 λ _ _ _ _ _ _=>rfl | exact L2.arg7 λ _ _ _ _ _ _ _=>rfl | exact L2.arg8 λ _ _ _ _ _ _ _ _=>rfl | exact L2.arg9 λ _ _ _ _ _ _ _ _ _=>rfl | skip)
      | (refine' L2.fnA_mk (L2.fun_mk ?_ ?_ ?_) ?_ <;> first | k_is | exact L2.arg1 λ _=>rfl | exact L2.arg2 λ _ _=>rfl | exact L2.arg3 λ _ _ _=>rfl | exact L2.arg4 λ _ _ _ _=>rfl | exact L2.arg5 λ _ _ _ _ _=>rfl | exact L2.arg6 λ _ _ _ _ _ _=>rfl | exact L2.arg7 λ _ _ _ _ _ _ _=>rfl | exact L2.arg8 λ _ _ _ _ _ _ _ _=>rfl | exact L2.arg9 λ _ _ _ _ _ _ _ _ _=>rfl | skip)
      | (refine' ⟨?_,?_,?_,?_⟩;all_goals first | k_is | kernel_rfl | skip)
      | (refine' ⟨?_,?_,?_⟩;all_goals first | k_is | kernel_rfl | skip)
      | k_is
      | exact λ s u=> .of_eq rfl
      | rfl | kernel_rfl | exact List.mem_cons_self | decide | skip
