import PyProof.Rows.All
import Wide.All
import OpenK.AllK
import Wide.FinOn
import Lean
import PyProof.EqAt
import PyProof.EqKinds
import PyProof.TupleCall
import KE.KIntText
import PyProof.EnumFor
import PyProof.EnumMake
import PyProof.ZipIter
import PyProof.LayNew
import KE.KTurns
import PyProof.Rows.Range3
import KE.KRevSl
import KE.KDictList
import PyProof.Draws
import PyProof.Rows.RuleM_int
import PyProof.Rows.BitMore
import PyProof.NeKinds
import KE.KRevIter
import PyProof.JoinWalk
import KE.KDictSum
import KE.KSortTup
import KE.KTryMore
import PyProof.ExcArgs
import OpenK.KOwn
import PyProof.ExcBaseAll.ValueError
import KE.KLam
import KE.KNestM
import PyProof.AttrMissHeap
import KE.KDictOf
import PyProof.TupleKey
import PyProof.DictRoadsH
import PyProof.MeetsDict
import KE.KItemsList
import PySem.Challenge.RW_loomwright_k23_whole_layers
set_option Elab.async false
set_option linter.all false
set_option maxRecDepth 100000
set_option maxHeartbeats 4000000
noncomputable section
namespace L2
open PySem
def Bi (s:Stmt) (j:Nat):Stmt:=match s with
  | .ClassDef _ _ _ body _ _ _ _ _ _ _=>body.getD j (.Pass ⟨0,0,0,0⟩)
  | _=> .Pass ⟨0,0,0,0⟩
def EO (s:Stmt):Arguments:=match s with
  | .FunctionDef _ a _ _ _ _ _ _ _ _=>a
  | _=>{ posonlyargs:=[],args:=[],vararg:=none,kwonlyargs:=[],kw_defaults:=[],kwarg:=none,defaults:=[] }
def DR (s:Stmt):List Stmt:=match s with
  | .FunctionDef _ _ b _ _ _ _ _ _ _=>b
  | _=>[]
def Ak (s:Stmt):Scope:=match s with
  | .FunctionDef _ _ _ _ _ _ sc _ _ _=>sc
  | _=>{ kind:= .function,names:=[],isGenerator:=false,isCoroutine:=false }
end L2
namespace K23
open PySem
def top (i:Nat):Stmt:=PySem.Challenge.pw_loomwright_k23_whole_layers.main.body.getD i (.Pass ⟨0,0,0,0⟩)
end K23
namespace HX
open PySem PySem.W PySem.Calls PyProof.Rows
def topT (tb:String->Option Builtin) (p:Program) (w:World) (n₀:Nat) (ann:Option Value):Nat->SharedT->Thread->Option SharedT
  | 0,_,_=>none
  | n+1,s,t=>match through t with
    | true=>some s
    | false=>match stepOk n₀ ann t with
      | false=>none
      | true=>match stepT (denote tb) p w s t with
        | some (s',t')=>topT tb p w n₀ ann n s' t'
        | none=>none
theorem topT_of {tb:String->Option Builtin} {p:Program} {w:World} {n₀:Nat} {ann:Option Value}:∀ {n:Nat} {s s':SharedT} {t:Thread},topT tb p w n₀ ann n s t=some s'->topRun tb p w n₀ ann n s.abs t=some s'.abs
  | 0,_,_,_,h=>by cases h
  | n+1,s,s',t,h=>by
    unfold topT at h;unfold topRun;cases ht:through t with
    | true=>rw [ht] at h;cases h;rfl
    | false=>
      rw [ht] at h;cases hk:stepOk n₀ ann t with
      | false=>rw [hk] at h;cases h
      | true=>
        rw [hk] at h;cases hs:stepT (denote tb) p w s t with
        | none=>rw [hs] at h;cases h
        | some x=>
          obtain ⟨s2,t2⟩:=x;rw [hs] at h;dsimp only;rw [stepT_spec hs];exact topT_of h
def ofL:List Obj->Nat->BT->BT
  | [],_,t=>t
  | o::r,i,t=>ofL r (i+1) (t.ins i o)
def bootT (P:Params):BT:=ofL (boot_heap P).objs.toList 0 .nil
def fn0 (name qual:Str) (a:Arguments) (b:List Stmt) (sc:Scope):FuncData:=
  { name,qualname:=qual,params:=a,body:= .stmts b,scope:=sc,globals:=0,closure:=[],defaults:= .none,kwdefaults:= .none }
def goT (tb:String->Option Builtin) (p:Program) (w:World) (n₀:Nat) (ann:Option Value):Nat->SharedT->Thread->Option (SharedT × Thread)
  | 0,s,t=>some (s,t)
  | n+1,s,t=>match through t with
    | true=>none
    | false=>match stepOk n₀ ann t with
      | false=>none
      | true=>match stepT (denote tb) p w s t with
        | some (s',t')=>goT tb p w n₀ ann n s' t'
        | none=>none
theorem left_run {p q:Program} {loose:List Str} {Xt:Shared->Bool} {α:Type} {Yf:Shared->α} {Ya:World->α} {N:Nat} {g0:Bool}
    (e:opening p=plainProg p.main.scope.names) (hN:Nat.ble 600 N=true) (f:∀ s,fenceModules? p s=some s)
    (hb:∀ P:Params,(absHeap (bootT P) 11 {},boot_drawn,(boot_heap P).isNs mainGlobals,(boot_heap P).objs.size,(boot_heap P).nsMap mainGlobals "__annotations__")=(boot_heap P,boot_drawn,true,11,some (.ref 6)))
    (run:∀ (w:World) (os:OsState),∃ s:Shared,topRun treeTable p w 11 (some (.ref 6)) N (⟨bootT w.params,11,{},Array.mk [],boot_drawn,boot_toks,os⟩:SharedT).abs (topStub p)=some s/\((staticsOk (importedModules p.main.body) (boot_heap w.params) s.heap&&namesBound p s.heap&&gensDone s&&laidKept (boot_heap w.params) s.heap),openSeen q loose (importedModules p.main.body) Xt g0 s,Yf s)=(true,openGood q loose,Ya w)):LeftO p q loose Xt Yf Ya N g0:=λ w=>by
  obtain ⟨⟨h,gs,d,k,os⟩,e1,e'⟩:=Option.map_eq_some_iff.mp (boot_open (p:=p) (N:=N) e hN f w);obtain ⟨rfl,rfl,rfl,rfl⟩:h=boot_heap w.params/\gs=Array.mk []/\d=boot_drawn/\k=boot_toks:=by simpa using e'
  have hb':=hb w.params;simp only [Prod.mk.injEq] at hb';obtain ⟨b1,_,b2,b3,b4⟩:=hb';obtain ⟨s,r,l⟩:=run w os;obtain ⟨l1,l2,l3⟩:_/\_/\_:=by simpa only [Prod.mk.injEq] using l
  have b0:(⟨bootT w.params,11,{},Array.mk [],boot_drawn,boot_toks,os⟩:SharedT).abs=⟨boot_heap w.params,Array.mk [],boot_drawn,boot_toks,os⟩:=by
    show (⟨absHeap (bootT w.params) 11 {},_,_,_,_⟩:Shared)=_;rw [b1]
  rw [b0] at r;have t:topFrom treeTable p w N ⟨boot_heap w.params,Array.mk [],boot_drawn,boot_toks,os⟩=some s:=by
    unfold topFrom;dsimp only;rw [b2,b3,b4];show Option.bind (topRun treeTable p w 11 (some (.ref 6)) N ⟨boot_heap w.params,Array.mk [],boot_drawn,boot_toks,os⟩ (topStub p)) _=_;rw [r];show (match staticsOk (importedModules p.main.body) (boot_heap w.params) s.heap&&namesBound p s.heap&&gensDone s&&laidKept (boot_heap w.params) s.heap with | true=>_ | false=>_)=_;rw [l1]
  unfold openEnds;rw [e1];show (topFrom treeTable p w N _).map _=_;rw [t];exact congrArg some (Prod.ext l2 l3)
theorem three {α β γ:Type} {a a':α} {b b':β} {c c':γ} (h:(a,c)=(a',c')) (k:b=b'):(a,b,c)=(a',b',c'):=by
  cases h;cases k;rfl
theorem hb (P:Params):(absHeap (bootT P) 11 {},boot_drawn,(boot_heap P).isNs mainGlobals,(boot_heap P).objs.size,(boot_heap P).nsMap mainGlobals "__annotations__")=(boot_heap P,boot_drawn,true,11,some (.ref 6)):=by kernel_rfl
end HX
namespace K23
open PySem L2 PySem.W PySem.Calls PyProof.Rows
abbrev Ob:=Params->Obj
abbrev dE (P:Params) (s:Str) (t:Tok) (v:Value):DictEntry:=⟨PyData.keyHash P s, .str s t,v⟩
abbrev dR (P:Params) (s:Str) (t:Tok) (a:Addr):DictEntry:=⟨PyData.keyHash P s, .str s t, .ref a⟩
abbrev tu (xs:Array Value):Obj:=⟨.type "tuple",none, .seq xs 0, #[]⟩
abbrev di (es:Array DictEntry) (n:Nat):Obj:=⟨.type "dict",none, .dict es n, #[]⟩
abbrev f0 (n q:Str) (st:Stmt):FuncData:=HX.fn0 n q (EO st) (DR st) (Ak st)
abbrev fo (n q:Str) (st:Stmt) (m:Str) (t:Tok) (c:Addr):Obj:=⟨.type "function",none, .func (fnOf n q (EO st) (DR st) (Ak st) .none .none .none (.str m t) none (.ref c) .none), #[]⟩
abbrev co (n q:Str) (t:Tok) (l ac nl:Int) (a:Addr) (b:Bool) (r:Addr) (c d e:Value) (k:Int) (t4:Tok):Obj:=⟨.type "code",none, .fields #[.str n t, .str q (t+1), .str "/claim/cut.py" (t+2), .int l 0, .int ac 0, .int 0 0, .int 0 0, .int nl 0, .ref a, .bool b, .int 181 0, .ref r, .none,c,d,e, .int k 0, .int l 0, .str "/claim/cut.py" t4], #[]⟩
def o3:Ob:=λ P=>di #[dE P "__name__" 165 (.str "law_loomwright_k23_whole_layers" 502),dE P "__doc__" 166 .none,dE P "__package__" 167 .none,dE P "__loader__" 168 (.builtin "__main__.__loader__#opaque"),dE P "__spec__" 169 .none,dR P "__annotations__" 170 6,dR P "__builtins__" 171 4,dE P "__file__" 173 (.str "/claim/cut.py" 172),dE P "__cached__" 174 .none,dR P "_wall" 193 21,dR P "bit_of" 202 28,dR P "mask_of" 211 35,dR P "mask_to" 218 42,dR P "has_number" 226 49,dR P "numbers_of" 232 54,dR P "other_mask" 240 61,dE P "MOST_ENDS" 242 (.int 60 241),dE P "MOST_PICKS" 244 (.int 60 243),dR P "LoomError" 264 71,dR P "BadCloth" 280 84,dR P "is_whole" 289 93,dR P "is_among" 298 100,dR P "need_cloth" 306 105,dR P "Cloth" 381 162,dR P "inverted" 389 171,dE P "END" 393 (.str "end" 392),dE P "PICK" 395 (.str "pick" 394),dR P "end_threads" 401 176,dR P "pick_threads" 407 181,dR P "threads_of" 414 188,dR P "over_of" 422 195,dR P "overs_of" 431 202,dR P "threads_ahead" 444 209,dR P "lifted_with" 452 216,dR P "hangs" 461 223,dR P "lifted_layers" 474 230,dR P "is_next" 480 235,dR P "next_place" 489 242,dR P "layers_of" 501 249,dR P "_law_mixed" 512 256,dR P "_law_cell_at" 520 263,dR P "_law_alike" 526 268,dR P "_law_longer" 534 275,dR P "_law_turned" 543 282,dR P "_law_told_over" 549 287,dR P "_law_laid" 555 292,dR P "_law_steps" 567 299,dR P "_law_weave" 573 304,dR P "_law_threads" 579 309,dR P "_law_is_over" 589 316,dR P "_law_uppers" 595 321,dR P "_law_reach" 608 328,dR P "_law_masks" 614 333,dR P "_law_all_from" 620 338,dR P "_law_due" 626 343,dR P "_law_lies_above" 644 350,dR P "_law_right" 657 357,dR P "law" 668 364] 58
def o15:Ob:=λ P=>tu #[]
def o17:Ob:=λ P=>tu #[(.str "k" 190)]
def o18:Ob:=λ P=>tu #[]
def o20:Ob:=λ P=>co "_wall" "_wall" 187 1 1 3 15 true 16 (.ref 17) (.ref 18) (.ref 19) 191 192
def o21:Ob:=λ P=>fo "_wall" "_wall" (top 0) "__main__" 164 20
def o22:Ob:=λ P=>tu #[]
def o24:Ob:=λ P=>tu #[(.str "number" 199)]
def o25:Ob:=λ P=>tu #[]
def o27:Ob:=λ P=>co "bit_of" "bit_of" 196 5 1 3 22 true 23 (.ref 24) (.ref 25) (.ref 26) 200 201
def o28:Ob:=λ P=>fo "bit_of" "bit_of" (top 2) "loomwright.masks" 194 27
def o29:Ob:=λ P=>tu #[]
def o31:Ob:=λ P=>tu #[(.str "numbers" 206),(.str "mask" 207),(.str "number" 208)]
def o32:Ob:=λ P=>tu #[]
def o34:Ob:=λ P=>co "mask_of" "mask_of" 203 7 1 3 29 true 30 (.ref 31) (.ref 32) (.ref 33) 209 210
def o35:Ob:=λ P=>fo "mask_of" "mask_of" (top 3) "loomwright.masks" 194 34
def o36:Ob:=λ P=>tu #[]
def o38:Ob:=λ P=>tu #[(.str "most" 215)]
def o39:Ob:=λ P=>tu #[]
def o41:Ob:=λ P=>co "mask_to" "mask_to" 212 12 1 3 36 true 37 (.ref 38) (.ref 39) (.ref 40) 216 217
def o42:Ob:=λ P=>fo "mask_to" "mask_to" (top 4) "loomwright.masks" 194 41
def o43:Ob:=λ P=>tu #[]
def o45:Ob:=λ P=>tu #[(.str "mask" 222),(.str "number" 223)]
def o46:Ob:=λ P=>tu #[]
def o48:Ob:=λ P=>co "has_number" "has_number" 219 14 2 3 43 true 44 (.ref 45) (.ref 46) (.ref 47) 224 225
def o49:Ob:=λ P=>fo "has_number" "has_number" (top 5) "loomwright.masks" 194 48
def o50:Ob:=λ P=>tu #[]
def o53:Ob:=λ P=>co "numbers_of" "numbers_of" 227 16 1 3 50 true 51 .none .none (.ref 52) 230 231
def o54:Ob:=λ P=>fo "numbers_of" "numbers_of" (top 6) "loomwright.masks" 194 53
def o55:Ob:=λ P=>tu #[]
def o57:Ob:=λ P=>tu #[(.str "mask" 236),(.str "most" 237)]
def o58:Ob:=λ P=>tu #[]
def o60:Ob:=λ P=>co "other_mask" "other_mask" 233 18 2 3 55 true 56 (.ref 57) (.ref 58) (.ref 59) 238 239
def o61:Ob:=λ P=>fo "other_mask" "other_mask" (top 7) "loomwright.masks" 194 60
def o62:Ob:=λ P=>tu #[(.type "ValueError")]
def o69:Ob:=λ P=>tu #[]
def o70:Ob:=λ P=>di #[dE P "__module__" 254 (.str "loomwright.errors" 245),dE P "__firstlineno__" 258 (.int 23 257),dR P "__static_attributes__" 259 69,dR P "__weakref__" 261 72,dE P "__doc__" 262 .none] 3
def o71:Ob:=λ P=>⟨(.type "type"),none,(.cls ⟨"LoomError",[(.type "ValueError")],[(.ref 71),(.type "ValueError"),(.type "Exception"),(.type "BaseException"),(.type "object")],70,"LoomError",true,[],[(.ref 84)],false,none,false⟩), #[(some (.ref 62)),none,(some (.str "LoomError" 247)),(some (.str "LoomError" 255)),(some (.builtin "ValueError.__new__")),(some (.bool true))]⟩
def o72:Ob:=λ P=>⟨(.type "getset_descriptor"),none,(.fields #[(.str "__weakref__" 260),(.ref 71),(.builtin "ExceptionGroup.__weakref__"), .none]), #[]⟩
def o75:Ob:=λ P=>tu #[(.ref 71)]
def o82:Ob:=λ P=>tu #[]
def o83:Ob:=λ P=>di #[dE P "__module__" 272 (.str "loomwright.errors" 245),dE P "__firstlineno__" 276 (.int 25 275),dR P "__static_attributes__" 277 82,dE P "__doc__" 278 .none] 2
def o84:Ob:=λ P=>⟨(.type "type"),none,(.cls ⟨"BadCloth",[(.ref 71)],[(.ref 84),(.ref 71),(.type "ValueError"),(.type "Exception"),(.type "BaseException"),(.type "object")],83,"BadCloth",true,[],[],false,none,false⟩), #[(some (.ref 75)),none,(some (.str "BadCloth" 265)),(some (.str "BadCloth" 273)),(some (.builtin "ValueError.__new__")),(some (.bool true))]⟩
def o87:Ob:=λ P=>tu #[]
def o89:Ob:=λ P=>tu #[(.str "thing" 286)]
def o90:Ob:=λ P=>tu #[]
def o92:Ob:=λ P=>co "is_whole" "is_whole" 283 28 1 3 87 true 88 (.ref 89) (.ref 90) (.ref 91) 287 288
def o93:Ob:=λ P=>fo "is_whole" "is_whole" (top 14) "loomwright.words" 281 92
def o94:Ob:=λ P=>tu #[]
def o96:Ob:=λ P=>tu #[(.str "thing" 293),(.str "least" 294),(.str "most" 295)]
def o97:Ob:=λ P=>tu #[]
def o99:Ob:=λ P=>co "is_among" "is_among" 290 30 3 3 94 true 95 (.ref 96) (.ref 97) (.ref 98) 296 297
def Ud:Ob:=λ P=>fo "is_among" "is_among" (top 15) "loomwright.words" 281 99
def U0:Ob:=λ P=>tu #[]
def UV:Ob:=λ P=>co "need_cloth" "need_cloth" 301 33 2 3 101 true 102 .none .none (.ref 103) 304 305
def Tf:Ob:=λ P=>fo "need_cloth" "need_cloth" (top 17) "loomwright.cloth" 299 104
def T9:Ob:=λ P=>tu #[]
def TZ:Ob:=λ P=>tu #[(.str "self" 322),(.str "ends" 323),(.str "rows" 324)]
def SH:Ob:=λ P=>tu #[]
def SB:Ob:=λ P=>co "__init__" "Cloth.__init__" 319 42 3 3 113 true 114 (.ref 115) (.ref 116) (.ref 117) 325 326
def Tv:Ob:=λ P=>fo "__init__" "Cloth.__init__" (Bi (top 18) 0) "loomwright.cloth" 299 118
def UY:Ob:=λ P=>tu #[]
def Tz:Ob:=λ P=>tu #[(.str "self" 331)]
def TN:Ob:=λ P=>tu #[]
def Uj:Ob:=λ P=>co "told" "Cloth.told" 328 47 1 3 120 true 121 (.ref 122) (.ref 123) (.ref 124) 332 333
def VY:Ob:=λ P=>fo "told" "Cloth.told" (Bi (top 18) 1) "loomwright.cloth" 299 125
def Ur:Ob:=λ P=>tu #[]
def Vv:Ob:=λ P=>tu #[(.str "self" 338)]
def Se:Ob:=λ P=>tu #[]
def Wf:Ob:=λ P=>co "ends" "Cloth.ends" 335 50 1 3 127 true 128 (.ref 129) (.ref 130) (.ref 131) 339 340
def VA:Ob:=λ P=>fo "ends" "Cloth.ends" (Bi (top 18) 2) "loomwright.cloth" 299 132
def VC:Ob:=λ P=>tu #[]
def SG:Ob:=λ P=>tu #[(.str "self" 345)]
def UR:Ob:=λ P=>tu #[]
def Td:Ob:=λ P=>co "picks" "Cloth.picks" 342 53 1 3 134 true 135 (.ref 136) (.ref 137) (.ref 138) 346 347
def Uu:Ob:=λ P=>fo "picks" "Cloth.picks" (Bi (top 18) 3) "loomwright.cloth" 299 139
def Tc:Ob:=λ P=>tu #[]
def Sc:Ob:=λ P=>tu #[(.str "self" 352),(.str "pick" 353)]
def SC:Ob:=λ P=>tu #[]
def U2:Ob:=λ P=>co "row_at" "Cloth.row_at" 349 56 2 3 141 true 142 (.ref 143) (.ref 144) (.ref 145) 354 355
def Uk:Ob:=λ P=>fo "row_at" "Cloth.row_at" (Bi (top 18) 4) "loomwright.cloth" 299 146
def S7:Ob:=λ P=>tu #[]
def Us:Ob:=λ P=>co "column_at" "Cloth.column_at" 357 59 2 3 148 true 149 .none .none (.ref 150) 360 361
def UM:Ob:=λ P=>fo "column_at" "Cloth.column_at" (Bi (top 18) 5) "loomwright.cloth" 299 151
def Ux:Ob:=λ P=>tu #[]
def UN:Ob:=λ P=>tu #[(.str "self" 366),(.str "end" 367),(.str "pick" 368)]
def VH:Ob:=λ P=>tu #[]
def Sy:Ob:=λ P=>co "is_up" "Cloth.is_up" 363 62 3 3 153 true 154 (.ref 155) (.ref 156) (.ref 157) 369 370
def R8:Ob:=λ P=>fo "is_up" "Cloth.is_up" (Bi (top 18) 6) "loomwright.cloth" 299 158
def V1:Ob:=λ P=>tu #[(.str "rows" 372),(.str "width" 373)]
def Sb:Ob:=λ P=>di #[dE P "__module__" 314 (.str "loomwright.cloth" 299),dE P "__firstlineno__" 318 (.int 40 317),dR P "__init__" 327 119,dR P "told" 334 126,dR P "ends" 341 133,dR P "picks" 348 140,dR P "row_at" 356 147,dR P "column_at" 362 152,dR P "is_up" 371 159,dR P "__static_attributes__" 374 160,dR P "__dict__" 376 163,dR P "__weakref__" 378 164,dE P "__doc__" 379 .none] 4
def Ue:Ob:=λ P=>⟨(.type "type"),none,(.cls ⟨"Cloth",[(.type "object")],[(.ref 162),(.type "object")],161,"Cloth",true,[],[],false,none,false⟩), #[none,none,(some (.str "Cloth" 307)),(some (.str "Cloth" 315)),(some (.builtin "object.__new__")),(some (.bool true))]⟩
def VQ:Ob:=λ P=>⟨(.type "getset_descriptor"),none,(.fields #[(.str "__dict__" 375),(.ref 162),(.builtin "function.__dict__"),(.builtin "function.__dict__#set")]), #[]⟩
def V3:Ob:=λ P=>⟨(.type "getset_descriptor"),none,(.fields #[(.str "__weakref__" 377),(.ref 162),(.builtin "ExceptionGroup.__weakref__"), .none]), #[]⟩
def VB:Ob:=λ P=>tu #[]
def Wc:Ob:=λ P=>co "inverted" "inverted" 384 65 1 3 167 true 168 .none .none (.ref 169) 387 388
def SE:Ob:=λ P=>fo "inverted" "inverted" (top 20) "loomwright.turns" 382 170
def Uy:Ob:=λ P=>tu #[]
def V9:Ob:=λ P=>co "end_threads" "end_threads" 396 70 1 3 172 true 173 .none .none (.ref 174) 399 400
def Tg:Ob:=λ P=>fo "end_threads" "end_threads" (top 24) "loomwright.hanging" 390 175
def S4:Ob:=λ P=>tu #[]
def R1:Ob:=λ P=>co "pick_threads" "pick_threads" 402 72 1 3 177 true 178 .none .none (.ref 179) 405 406
def TY:Ob:=λ P=>fo "pick_threads" "pick_threads" (top 25) "loomwright.hanging" 390 180
def S3:Ob:=λ P=>tu #[]
def V0:Ob:=λ P=>tu #[(.str "cloth" 411)]
def VS:Ob:=λ P=>tu #[]
def SQ:Ob:=λ P=>co "threads_of" "threads_of" 408 74 1 3 182 true 183 (.ref 184) (.ref 185) (.ref 186) 412 413
def Tx:Ob:=λ P=>fo "threads_of" "threads_of" (top 26) "loomwright.hanging" 390 187
def VG:Ob:=λ P=>tu #[]
def Sf:Ob:=λ P=>tu #[(.str "cloth" 418),(.str "thread" 419)]
def Wd:Ob:=λ P=>tu #[]
def UE:Ob:=λ P=>co "over_of" "over_of" 415 76 2 3 189 true 190 (.ref 191) (.ref 192) (.ref 193) 420 421
def Um:Ob:=λ P=>fo "over_of" "over_of" (top 27) "loomwright.hanging" 390 194
def Uc:Ob:=λ P=>tu #[]
def UI:Ob:=λ P=>tu #[(.str "cloth" 426),(.str "overs" 427),(.str "thread" 428)]
def US:Ob:=λ P=>tu #[]
def S0:Ob:=λ P=>co "overs_of" "overs_of" 423 80 1 3 196 true 197 (.ref 198) (.ref 199) (.ref 200) 429 430
def VU:Ob:=λ P=>fo "overs_of" "overs_of" (top 28) "loomwright.hanging" 390 201
def SY:Ob:=λ P=>tu #[]
def Tk:Ob:=λ P=>tu #[(.str "overs" 435),(.str "one" 436),(.str "ahead" 437),(.str "met" 438),(.str "later" 439),(.str "thread" 440),(.str "upper" 441)]
def UP:Ob:=λ P=>tu #[]
def TV:Ob:=λ P=>co "threads_ahead" "threads_ahead" 432 85 2 3 203 true 204 (.ref 205) (.ref 206) (.ref 207) 442 443
def UX:Ob:=λ P=>fo "threads_ahead" "threads_ahead" (top 29) "loomwright.hanging" 390 208
def V6:Ob:=λ P=>tu #[]
def UU:Ob:=λ P=>tu #[(.str "cloth" 448),(.str "thread" 449)]
def Sa:Ob:=λ P=>tu #[]
def VI:Ob:=λ P=>co "lifted_with" "lifted_with" 445 97 2 3 210 true 211 (.ref 212) (.ref 213) (.ref 214) 450 451
def TU:Ob:=λ P=>fo "lifted_with" "lifted_with" (top 30) "loomwright.hanging" 390 215
def Te:Ob:=λ P=>tu #[]
def Vx:Ob:=λ P=>tu #[(.str "cloth" 456),(.str "many" 457),(.str "one" 458)]
def Vt:Ob:=λ P=>tu #[]
def U5:Ob:=λ P=>co "hangs" "hangs" 453 99 1 3 217 true 218 (.ref 219) (.ref 220) (.ref 221) 459 460
def Vf:Ob:=λ P=>fo "hangs" "hangs" (top 31) "loomwright.hanging" 390 222
def T7:Ob:=λ P=>tu #[]
def SR:Ob:=λ P=>tu #[(.str "cloth" 467),(.str "overs" 468),(.str "layers" 469),(.str "thread" 470),(.str "lifted" 471)]
def TW:Ob:=λ P=>tu #[]
def UA:Ob:=λ P=>co "lifted_layers" "lifted_layers" 464 104 1 3 224 true 225 (.ref 226) (.ref 227) (.ref 228) 472 473
def TX:Ob:=λ P=>fo "lifted_layers" "lifted_layers" (top 33) "loomwright.layers" 462 229
def UG:Ob:=λ P=>tu #[]
def RZ:Ob:=λ P=>co "is_next" "is_next" 475 111 3 3 231 true 232 .none .none (.ref 233) 478 479
def Sh:Ob:=λ P=>fo "is_next" "is_next" (top 34) "loomwright.layers" 462 234
def Tt:Ob:=λ P=>tu #[]
def SM:Ob:=λ P=>tu #[(.str "waiting" 484),(.str "told" 485),(.str "place" 486)]
def S2:Ob:=λ P=>tu #[]
def Vz:Ob:=λ P=>co "next_place" "next_place" 481 113 2 3 236 true 237 (.ref 238) (.ref 239) (.ref 240) 487 488
def UJ:Ob:=λ P=>fo "next_place" "next_place" (top 35) "loomwright.layers" 462 241
def Ug:Ob:=λ P=>tu #[]
def Uh:Ob:=λ P=>tu #[(.str "cloth" 493),(.str "waiting" 494),(.str "told" 495),(.str "layers" 496),(.str "layer" 497),(.str "thread" 498)]
def S8:Ob:=λ P=>tu #[]
def RY:Ob:=λ P=>co "layers_of" "layers_of" 490 118 1 3 243 true 244 (.ref 245) (.ref 246) (.ref 247) 499 500
def Vu:Ob:=λ P=>fo "layers_of" "layers_of" (top 36) "loomwright.layers" 462 248
def UZ:Ob:=λ P=>tu #[]
def Vb:Ob:=λ P=>tu #[(.str "_law_cell" 507),(.str "_law_k" 508),(.str "_law_number" 509)]
def UB:Ob:=λ P=>tu #[]
def VZ:Ob:=λ P=>co "_law_mixed" "_law_mixed" 504 129 2 3 250 true 251 (.ref 252) (.ref 253) (.ref 254) 510 511
def Ts:Ob:=λ P=>fo "_law_mixed" "_law_mixed" (top 38) "law_loomwright_k23_whole_layers" 502 255
def SA:Ob:=λ P=>tu #[]
def SV:Ob:=λ P=>tu #[(.str "_law_script" 516),(.str "_law_k" 517)]
def Vm:Ob:=λ P=>tu #[]
def Tu:Ob:=λ P=>co "_law_cell_at" "_law_cell_at" 513 132 2 3 257 true 258 (.ref 259) (.ref 260) (.ref 261) 518 519
def SF:Ob:=λ P=>fo "_law_cell_at" "_law_cell_at" (top 39) "law_loomwright_k23_whole_layers" 502 262
def TF:Ob:=λ P=>tu #[]
def Tp:Ob:=λ P=>co "_law_alike" "_law_alike" 521 134 2 3 264 true 265 .none .none (.ref 266) 524 525
def T6:Ob:=λ P=>fo "_law_alike" "_law_alike" (top 40) "law_loomwright_k23_whole_layers" 502 267
def Vj:Ob:=λ P=>tu #[]
def Sx:Ob:=λ P=>tu #[(.str "_law_told" 530),(.str "_law_one" 531)]
def Uz:Ob:=λ P=>tu #[]
def SX:Ob:=λ P=>co "_law_longer" "_law_longer" 527 140 1 3 269 true 270 (.ref 271) (.ref 272) (.ref 273) 532 533
def Vr:Ob:=λ P=>fo "_law_longer" "_law_longer" (top 41) "law_loomwright_k23_whole_layers" 502 274
def UD:Ob:=λ P=>tu #[]
def Vy:Ob:=λ P=>tu #[(.str "_law_mask" 538),(.str "_law_steps_here" 539),(.str "_law_size" 540)]
def UW:Ob:=λ P=>tu #[]
def V8:Ob:=λ P=>co "_law_turned" "_law_turned" 535 146 3 3 276 true 277 (.ref 278) (.ref 279) (.ref 280) 541 542
def Sm:Ob:=λ P=>fo "_law_turned" "_law_turned" (top 42) "law_loomwright_k23_whole_layers" 502 281
def Va:Ob:=λ P=>tu #[]
def Wa:Ob:=λ P=>co "_law_told_over" "_law_told_over" 544 148 3 3 283 true 284 .none .none (.ref 285) 547 548
def Wi:Ob:=λ P=>fo "_law_told_over" "_law_told_over" (top 43) "law_loomwright_k23_whole_layers" 502 286
def SW:Ob:=λ P=>tu #[]
def U8:Ob:=λ P=>co "_law_laid" "_law_laid" 550 153 4 3 288 true 289 .none .none (.ref 290) 553 554
def Vw:Ob:=λ P=>fo "_law_laid" "_law_laid" (top 44) "law_loomwright_k23_whole_layers" 502 291
def Ut:Ob:=λ P=>tu #[]
def TM:Ob:=λ P=>tu #[(.str "_law_number" 559),(.str "_law_ends" 560),(.str "_law_most" 561),(.str "_law_step" 562),(.str "_law_rows" 563),(.str "_law_k" 564)]
def S6:Ob:=λ P=>tu #[]
def So:Ob:=λ P=>co "_law_steps" "_law_steps" 556 166 3 3 293 true 294 (.ref 295) (.ref 296) (.ref 297) 565 566
def TC:Ob:=λ P=>fo "_law_steps" "_law_steps" (top 45) "law_loomwright_k23_whole_layers" 502 298
def Sw:Ob:=λ P=>tu #[]
def V5:Ob:=λ P=>co "_law_weave" "_law_weave" 568 173 2 3 300 true 301 .none .none (.ref 302) 571 572
def Vg:Ob:=λ P=>fo "_law_weave" "_law_weave" (top 46) "law_loomwright_k23_whole_layers" 502 303
def TJ:Ob:=λ P=>tu #[]
def SL:Ob:=λ P=>co "_law_threads" "_law_threads" 574 188 2 3 305 true 306 .none .none (.ref 307) 577 578
def Ve:Ob:=λ P=>fo "_law_threads" "_law_threads" (top 47) "law_loomwright_k23_whole_layers" 502 308
def Vk:Ob:=λ P=>tu #[]
def UH:Ob:=λ P=>tu #[(.str "_law_ends" 583),(.str "_law_rows" 584),(.str "_law_one" 585),(.str "_law_other" 586)]
def TH:Ob:=λ P=>tu #[]
def SD:Ob:=λ P=>co "_law_is_over" "_law_is_over" 580 190 4 3 310 true 311 (.ref 312) (.ref 313) (.ref 314) 587 588
def Vs:Ob:=λ P=>fo "_law_is_over" "_law_is_over" (top 48) "law_loomwright_k23_whole_layers" 502 315
def Tb:Ob:=λ P=>tu #[]
def R3:Ob:=λ P=>co "_law_uppers" "_law_uppers" 590 196 2 3 317 true 318 .none .none (.ref 319) 593 594
def Uv:Ob:=λ P=>fo "_law_uppers" "_law_uppers" (top 49) "law_loomwright_k23_whole_layers" 502 320
def Ui:Ob:=λ P=>tu #[]
def Su:Ob:=λ P=>co "_law_masks" "_law_masks" 609 214 2 3 329 true 330 .none .none (.ref 331) 612 613
def Wh:Ob:=λ P=>fo "_law_masks" "_law_masks" (top 51) "law_loomwright_k23_whole_layers" 502 332
def UC:Ob:=λ P=>tu #[]
def U3:Ob:=λ P=>co "_law_all_from" "_law_all_from" 615 224 2 3 334 true 335 .none .none (.ref 336) 618 619
def Vc:Ob:=λ P=>fo "_law_all_from" "_law_all_from" (top 52) "law_loomwright_k23_whole_layers" 502 337
def Vn:Ob:=λ P=>tu #[]
def Vh:Ob:=λ P=>co "_law_due" "_law_due" 621 232 2 3 339 true 340 .none .none (.ref 341) 624 625
def Uq:Ob:=λ P=>fo "_law_due" "_law_due" (top 53) "law_loomwright_k23_whole_layers" 502 342
def Tj:Ob:=λ P=>tu #[]
def V4:Ob:=λ P=>tu #[(.str "_law_ends" 630),(.str "_law_rows" 631),(.str "_law_found" 632),(.str "_law_levels_of" 633),(.str "_law_k" 634),(.str "_law_threads_here" 635),(.str "_law_thread" 636),(.str "_law_end" 637),(.str "_law_pick" 638),(.str "_law_level" 639),(.str "_law_other" 640),(.str "_law_is_up" 641)]
def VD:Ob:=λ P=>tu #[]
def S9:Ob:=λ P=>co "_law_lies_above" "_law_lies_above" 627 249 3 3 344 true 345 (.ref 346) (.ref 347) (.ref 348) 642 643
def UT:Ob:=λ P=>fo "_law_lies_above" "_law_lies_above" (top 54) "law_loomwright_k23_whole_layers" 502 349
def Sn:Ob:=λ P=>tu #[]
def Sj:Ob:=λ P=>tu #[(.str "_law_weave_here" 648),(.str "_law_ends" 649),(.str "_law_rows" 650),(.str "_law_told" 651),(.str "_law_every" 652),(.str "_law_threads_here" 653),(.str "_law_due_here" 654)]
def VJ:Ob:=λ P=>tu #[]
def U6:Ob:=λ P=>co "_law_right" "_law_right" 645 261 3 3 351 true 352 (.ref 353) (.ref 354) (.ref 355) 655 656
def Tr:Ob:=λ P=>fo "_law_right" "_law_right" (top 55) "law_loomwright_k23_whole_layers" 502 356
def Tl:Ob:=λ P=>tu #[]
def SJ:Ob:=λ P=>tu #[(.str "_law_script" 661),(.str "_law_ends" 662),(.str "_law_rows" 663),(.str "_law_other" 664),(.str "_law_weaves" 665)]
def U1:Ob:=λ P=>tu #[]
def SU:Ob:=λ P=>co "law" "law" 658 277 1 3 358 true 359 (.ref 360) (.ref 361) (.ref 362) 666 667
def UF:Ob:=λ P=>fo "law" "law" (top 56) "law_loomwright_k23_whole_layers" 502 363
def Ww (P:Params):List Obj:=VJ P::U6 P::Tr P::Tl P::SJ P::U1 P::SU P::UF P::[]
def Wk (P:Params):List Obj:=U3 P::Vc P::Vn P::Vh P::Uq P::Tj P::V4 P::VD P::S9 P::UT P::Sn P::Sj P::Ww P
def WC (P:Params):List Obj:=Vk P::UH P::TH P::SD P::Vs P::Tb P::R3 P::Uv P::Ui P::Su P::Wh P::UC P::Wk P
def Ws (P:Params):List Obj:=Vw P::Ut P::TM P::S6 P::So P::TC P::Sw P::V5 P::Vg P::TJ P::SL P::Ve P::WC P
def WD (P:Params):List Obj:=SX P::Vr P::UD P::Vy P::UW P::V8 P::Sm P::Va P::Wa P::Wi P::SW P::U8 P::Ws P
def Wr (P:Params):List Obj:=Ts P::SA P::SV P::Vm P::Tu P::SF P::TF P::Tp P::T6 P::Vj P::Sx P::Uz P::WD P
def Wx (P:Params):List Obj:=S2 P::Vz P::UJ P::Ug P::Uh P::S8 P::RY P::Vu P::UZ P::Vb P::UB P::VZ P::Wr P
def Wp (P:Params):List Obj:=U5 P::Vf P::T7 P::SR P::TW P::UA P::TX P::UG P::RZ P::Sh P::Tt P::SM P::Wx P
def Wt (P:Params):List Obj:=Tk P::UP P::TV P::UX P::V6 P::UU P::Sa P::VI P::TU P::Te P::Vx P::Vt P::Wp P
def ob9 (P:Params):List Obj:=Tx P::VG P::Sf P::Wd P::UE P::Um P::Uc P::UI P::US P::S0 P::VU P::SY P::Wt P
def ob8 (P:Params):List Obj:=Wc P::SE P::Uy P::V9 P::Tg P::S4 P::R1 P::TY P::S3 P::V0 P::VS P::SQ P::ob9 P
def ob7 (P:Params):List Obj:=UM P::Ux P::UN P::VH P::Sy P::R8 P::V1 P::Sb P::Ue P::VQ P::V3 P::VB P::ob8 P
def ob6 (P:Params):List Obj:=VC P::SG P::UR P::Td P::Uu P::Tc P::Sc P::SC P::U2 P::Uk P::S7 P::Us P::ob7 P
def ob5 (P:Params):List Obj:=SB P::Tv P::UY P::Tz P::TN P::Uj P::VY P::Ur P::Vv P::Se P::Wf P::VA P::ob6 P
def ob4 (P:Params):List Obj:=o93 P::o94 P::o96 P::o97 P::o99 P::Ud P::U0 P::UV P::Tf P::T9 P::TZ P::SH P::ob5 P
def ob3 (P:Params):List Obj:=o69 P::o70 P::o71 P::o72 P::o75 P::o82 P::o83 P::o84 P::o87 P::o89 P::o90 P::o92 P::ob4 P
def ob2 (P:Params):List Obj:=o46 P::o48 P::o49 P::o50 P::o53 P::o54 P::o55 P::o57 P::o58 P::o60 P::o61 P::o62 P::ob3 P
def ob1 (P:Params):List Obj:=o29 P::o31 P::o32 P::o34 P::o35 P::o36 P::o38 P::o39 P::o41 P::o42 P::o43 P::o45 P::ob2 P
def ob0 (P:Params):List Obj:=boot_o_2 P::o3 P::o15 P::o17 P::o18 P::o20 P::o21 P::o22 P::o24 P::o25 P::o27 P::o28 P::ob1 P
def frag (P:Params):Frag:=(nat_lit 2,boot_o_2 P)::(nat_lit 3,o3 P)::(nat_lit 15,o15 P)::(nat_lit 17,o17 P)::(nat_lit 18,o18 P)::(nat_lit 20,o20 P)::(nat_lit 21,o21 P)::(nat_lit 22,o22 P)::(nat_lit 24,o24 P)::(nat_lit 25,o25 P)::(nat_lit 27,o27 P)::(nat_lit 28,o28 P)::(nat_lit 29,o29 P)::(nat_lit 31,o31 P)::(nat_lit 32,o32 P)::(nat_lit 34,o34 P)::(nat_lit 35,o35 P)::(nat_lit 36,o36 P)::(nat_lit 38,o38 P)::(nat_lit 39,o39 P)::(nat_lit 41,o41 P)::(nat_lit 42,o42 P)::(nat_lit 43,o43 P)::(nat_lit 45,o45 P)::(nat_lit 46,o46 P)::(nat_lit 48,o48 P)::(nat_lit 49,o49 P)::(nat_lit 50,o50 P)::(nat_lit 53,o53 P)::(nat_lit 54,o54 P)::(nat_lit 55,o55 P)::(nat_lit 57,o57 P)::(nat_lit 58,o58 P)::(nat_lit 60,o60 P)::(nat_lit 61,o61 P)::(nat_lit 62,o62 P)::(nat_lit 69,o69 P)::(nat_lit 70,o70 P)::(nat_lit 71,o71 P)::(nat_lit 72,o72 P)::(nat_lit 75,o75 P)::(nat_lit 82,o82 P)::(nat_lit 83,o83 P)::(nat_lit 84,o84 P)::(nat_lit 87,o87 P)::(nat_lit 89,o89 P)::(nat_lit 90,o90 P)::(nat_lit 92,o92 P)::(nat_lit 93,o93 P)::(nat_lit 94,o94 P)::(nat_lit 96,o96 P)::(nat_lit 97,o97 P)::(nat_lit 99,o99 P)::(nat_lit 100,Ud P)::(nat_lit 101,U0 P)::(nat_lit 104,UV P)::(nat_lit 105,Tf P)::(nat_lit 113,T9 P)::(nat_lit 115,TZ P)::(nat_lit 116,SH P)::(nat_lit 118,SB P)::(nat_lit 119,Tv P)::(nat_lit 120,UY P)::(nat_lit 122,Tz P)::(nat_lit 123,TN P)::(nat_lit 125,Uj P)::(nat_lit 126,VY P)::(nat_lit 127,Ur P)::(nat_lit 129,Vv P)::(nat_lit 130,Se P)::(nat_lit 132,Wf P)::(nat_lit 133,VA P)::(nat_lit 134,VC P)::(nat_lit 136,SG P)::(nat_lit 137,UR P)::(nat_lit 139,Td P)::(nat_lit 140,Uu P)::(nat_lit 141,Tc P)::(nat_lit 143,Sc P)::(nat_lit 144,SC P)::(nat_lit 146,U2 P)::(nat_lit 147,Uk P)::(nat_lit 148,S7 P)::(nat_lit 151,Us P)::(nat_lit 152,UM P)::(nat_lit 153,Ux P)::(nat_lit 155,UN P)::(nat_lit 156,VH P)::(nat_lit 158,Sy P)::(nat_lit 159,R8 P)::(nat_lit 160,V1 P)::(nat_lit 161,Sb P)::(nat_lit 162,Ue P)::(nat_lit 163,VQ P)::(nat_lit 164,V3 P)::(nat_lit 167,VB P)::(nat_lit 170,Wc P)::(nat_lit 171,SE P)::(nat_lit 172,Uy P)::(nat_lit 175,V9 P)::(nat_lit 176,Tg P)::(nat_lit 177,S4 P)::(nat_lit 180,R1 P)::(nat_lit 181,TY P)::(nat_lit 182,S3 P)::(nat_lit 184,V0 P)::(nat_lit 185,VS P)::(nat_lit 187,SQ P)::(nat_lit 188,Tx P)::(nat_lit 189,VG P)::(nat_lit 191,Sf P)::(nat_lit 192,Wd P)::(nat_lit 194,UE P)::(nat_lit 195,Um P)::(nat_lit 196,Uc P)::(nat_lit 198,UI P)::(nat_lit 199,US P)::(nat_lit 201,S0 P)::(nat_lit 202,VU P)::(nat_lit 203,SY P)::(nat_lit 205,Tk P)::(nat_lit 206,UP P)::(nat_lit 208,TV P)::(nat_lit 209,UX P)::(nat_lit 210,V6 P)::(nat_lit 212,UU P)::(nat_lit 213,Sa P)::(nat_lit 215,VI P)::(nat_lit 216,TU P)::(nat_lit 217,Te P)::(nat_lit 219,Vx P)::(nat_lit 220,Vt P)::(nat_lit 222,U5 P)::(nat_lit 223,Vf P)::(nat_lit 224,T7 P)::(nat_lit 226,SR P)::(nat_lit 227,TW P)::(nat_lit 229,UA P)::(nat_lit 230,TX P)::(nat_lit 231,UG P)::(nat_lit 234,RZ P)::(nat_lit 235,Sh P)::(nat_lit 236,Tt P)::(nat_lit 238,SM P)::(nat_lit 239,S2 P)::(nat_lit 241,Vz P)::(nat_lit 242,UJ P)::(nat_lit 243,Ug P)::(nat_lit 245,Uh P)::(nat_lit 246,S8 P)::(nat_lit 248,RY P)::(nat_lit 249,Vu P)::(nat_lit 250,UZ P)::(nat_lit 252,Vb P)::(nat_lit 253,UB P)::(nat_lit 255,VZ P)::(nat_lit 256,Ts P)::(nat_lit 257,SA P)::(nat_lit 259,SV P)::(nat_lit 260,Vm P)::(nat_lit 262,Tu P)::(nat_lit 263,SF P)::(nat_lit 264,TF P)::(nat_lit 267,Tp P)::(nat_lit 268,T6 P)::(nat_lit 269,Vj P)::(nat_lit 271,Sx P)::(nat_lit 272,Uz P)::(nat_lit 274,SX P)::(nat_lit 275,Vr P)::(nat_lit 276,UD P)::(nat_lit 278,Vy P)::(nat_lit 279,UW P)::(nat_lit 281,V8 P)::(nat_lit 282,Sm P)::(nat_lit 283,Va P)::(nat_lit 286,Wa P)::(nat_lit 287,Wi P)::(nat_lit 288,SW P)::(nat_lit 291,U8 P)::(nat_lit 292,Vw P)::(nat_lit 293,Ut P)::(nat_lit 295,TM P)::(nat_lit 296,S6 P)::(nat_lit 298,So P)::(nat_lit 299,TC P)::(nat_lit 300,Sw P)::(nat_lit 303,V5 P)::(nat_lit 304,Vg P)::(nat_lit 305,TJ P)::(nat_lit 308,SL P)::(nat_lit 309,Ve P)::(nat_lit 310,Vk P)::(nat_lit 312,UH P)::(nat_lit 313,TH P)::(nat_lit 315,SD P)::(nat_lit 316,Vs P)::(nat_lit 317,Tb P)::(nat_lit 320,R3 P)::(nat_lit 321,Uv P)::(nat_lit 329,Ui P)::(nat_lit 332,Su P)::(nat_lit 333,Wh P)::(nat_lit 334,UC P)::(nat_lit 337,U3 P)::(nat_lit 338,Vc P)::(nat_lit 339,Vn P)::(nat_lit 342,Vh P)::(nat_lit 343,Uq P)::(nat_lit 344,Tj P)::(nat_lit 346,V4 P)::(nat_lit 347,VD P)::(nat_lit 349,S9 P)::(nat_lit 350,UT P)::(nat_lit 351,Sn P)::(nat_lit 353,Sj P)::(nat_lit 354,VJ P)::(nat_lit 356,U6 P)::(nat_lit 357,Tr P)::(nat_lit 358,Tl P)::(nat_lit 360,SJ P)::(nat_lit 361,U1 P)::(nat_lit 363,SU P)::(nat_lit 364,UF P)::[]
def addrs:List Addr:=[2,3,15,17,18,20,21,22,24,25,27,28,29,31,32,34,35,36,38,39,41,42,43,45,46,48,49,50,53,54,55,57,58,60,61,62,69,70,71,72,75,82,83,84,87,89,90,92,93,94,96,97,99,100,101,104,105,113,115,116,118,119,120,122,123,125,126,127,129,130,132,133,134,136,137,139,140,141,143,144,146,147,148,151,152,153,155,156,158,159,160,161,162,163,164,167,170,171,172,175,176,177,180,181,182,184,185,187,188,189,191,192,194,195,196,198,199,201,202,203,205,206,208,209,210,212,213,215,216,217,219,220,222,223,224,226,227,229,230,231,234,235,236,238,239,241,242,243,245,246,248,249,250,252,253,255,256,257,259,260,262,263,264,267,268,269,271,272,274,275,276,278,279,281,282,283,286,287,288,291,292,293,295,296,298,299,300,303,304,305,308,309,310,312,313,315,316,317,320,321,329,332,333,334,337,338,339,342,343,344,346,347,349,350,351,353,354,356,357,358,360,361,363,364]
def fr0 (P:Params):Frag:=addrs.zip (ob0 P)
theorem Pk (P:Params):frag P=fr0 P:=by kernel_rfl
def view:Program:={ PySem.Challenge.pw_loomwright_k23_whole_layers with main:={ PySem.Challenge.pw_loomwright_k23_whole_layers.main with body:=[top 0,top 2,top 3,top 4,top 5,top 6,top 7,top 8,top 9,top 11,top 12,top 14,top 15,top 17,top 18,top 20,top 22,top 23,top 24,top 25,top 26,top 27,top 28,top 29,top 30,top 31,top 33,top 34,top 35,top 36,top 38,top 39,top 40,top 41,top 42,top 43,top 44,top 45,top 46,top 47,top 48,top 49,top 50,top 51,top 52,top 53,top 54,top 55,top 56] } }
abbrev Xt:Shared->Bool:=λ s=>xlAt view [] s&&recOk (RowW.records PySem.Challenge.rw_loomwright_k23_whole_layers.row.toRowW) s
theorem addrs_eq:∀ P:Params,addrs=(frag P).map (·.1):=λ _=>by kernel_rfl
abbrev hook:Hook:=kHook frag addrs addrs_eq
abbrev fuel:Nat:=4446
theorem SS:(λ _=>true) (HX.topT treeTable view (aWorld 1) 0 none,view,fr0,PySem.Challenge.rw_loomwright_k23_whole_layers)=true:=by k_qdec
theorem Wq (w:World) (os:OsState):(HX.topT treeTable PySem.Challenge.pw_loomwright_k23_whole_layers w 11 (some (.ref 6)) fuel ⟨HX.bootT w.params,11,{},Array.mk [],boot_drawn,boot_toks,os⟩ (topStub PySem.Challenge.pw_loomwright_k23_whole_layers)).map (λ s=>((staticsOk (importedModules PySem.Challenge.pw_loomwright_k23_whole_layers.main.body) (boot_heap w.params) s.abs.heap&&namesBound PySem.Challenge.pw_loomwright_k23_whole_layers s.abs.heap&&gensDone s.abs&&laidKept (boot_heap w.params) s.abs.heap),addrs.map s.abs.heap.get?))=some (true,((fr0 w.params).map λ p=>some p.2)):=by
  have _tw:=SS;rw [PySem.W.Fast.te5923862056798008813,PySem.W.Fast.te4455595301386642804,PySem.W.Fast.te14364793385576792824,PySem.W.Fast.te9621378704136392807,PySem.W.Fast.te1076319407675427474];kernel_rfl
theorem Wl (w:World) (os:OsState):(HX.topT treeTable PySem.Challenge.pw_loomwright_k23_whole_layers w 11 (some (.ref 6)) fuel ⟨HX.bootT w.params,11,{},Array.mk [],boot_drawn,boot_toks,os⟩ (topStub PySem.Challenge.pw_loomwright_k23_whole_layers)).map (λ s=>(openSeen view [] (importedModules PySem.Challenge.pw_loomwright_k23_whole_layers.main.body) Xt true s.abs))=some (openGood view []):=by
  unfold Xt;rw [PySem.W.Fast.te5923862056798008813,PySem.W.Fast.te4187177175401517315,PySem.W.Fast.te2368527892694137696,PySem.W.Fast.te14593093840068723053,PySem.W.Fast.te17212167852037756370,PySem.W.Fast.te14364793385576792824,PySem.W.Fast.te9621378704136392807,PySem.W.Fast.te1076319407675427474];kernel_rfl
theorem left:LeftO PySem.Challenge.pw_loomwright_k23_whole_layers view [] Xt hook.obs hook.val fuel:=HX.left_run (by kernel_rfl) (by decide) (λ s=>by kernel_rfl) HX.hb λ w os=>by
  obtain ⟨s,r,l⟩:=Option.map_eq_some_iff.mp (Wq w os);obtain ⟨s2,r2,l2⟩:=Option.map_eq_some_iff.mp (Wl w os);cases r.symm.trans r2;rw [<-Pk] at l;exact ⟨s.abs,HX.topT_of r,HX.three l l2⟩
end K23
namespace L2
open PySem PySem.Spec PyProof.Rows
abbrev Key:=Sum Int Str
def HN:Key->Value->Bool
  | .inl k,v=>Value.isInt k v
  | .inr x,v=>Value.isStrOf x v
def WF (w:World):Key->Int
  | .inl k=>hashInt k
  | .inr x=>hashStr w x
theorem AW:∀ {k:Key} {v:Value},HN k v=true->(∃ i t,k=Sum.inl i/\v=Value.int i t)\/(∃ x t,k=Sum.inr x/\v=Value.str x t)
  | .inl i,v,h=>by
    obtain ⟨t,e⟩:=Value.isInt_shape (k:=i) (v:=v) h;exact .inl ⟨i,t,rfl,e⟩
  | .inr x,v,h=>by
    obtain ⟨t,e⟩:=Value.isStrOf_shape (x:=x) (v:=v) h;exact .inr ⟨x,t,rfl,e⟩
theorem Lj (i:Int) (t:Tok):HN (.inl i) (.int i t)=true:=by simp [HN,Value.isInt]
theorem LN (x:Str) (t:Tok):HN (.inr x) (.str x t)=true:=by simp [HN,Value.isStrOf]
theorem QD (a b:Int):decide ((Sum.inl a:Key)=Sum.inl b)=(a == b):=by
  by_cases e:a=b
  · subst e;simp
  · have h:¬ (Sum.inl a:Key)=Sum.inl b:=λ q=>e (Sum.inl.inj q);rw [decide_eq_false h];exact (beq_eq_false_iff_ne.mpr e).symm
theorem RJ (a b:Str):decide ((Sum.inr a:Key)=Sum.inr b)=decide (a=b):=by
  by_cases e:a=b
  · subst e;simp
  · have h:¬ (Sum.inr a:Key)=Sum.inr b:=λ q=>e (Sum.inr.inj q);rw [decide_eq_false h,decide_eq_false e]
theorem Qf (a:Int) (b:Str):decide ((Sum.inl a:Key)=Sum.inr b)=false:=decide_eq_false (λ q=>nomatch q)
theorem QI (a:Str) (b:Int):decide ((Sum.inr a:Key)=Sum.inl b)=false:=decide_eq_false (λ q=>nomatch q)
def AJ (prog:Program) (w:World):PySem.KeyKind prog w Key where
  is:=HN
  hash:=WF w
  inj:=λ v a b ha hb=>by
    rcases AW ha with ⟨i,t,rfl,rfl⟩ | ⟨x,t,rfl,rfl⟩
    · rcases AW hb with ⟨j,u,rfl,e⟩ | ⟨y,u,rfl,e⟩
      · injection e with e1 _;rw [e1]
      · exact nomatch e
    · rcases AW hb with ⟨j,u,rfl,e⟩ | ⟨y,u,rfl,e⟩
      · exact nomatch e
      · injection e with e1 _;rw [e1]
  byValue:=λ k v h=>by
    rcases AW h with ⟨i,t,rfl,rfl⟩ | ⟨x,t,rfl,rfl⟩ <;> rfl
  pyHash:=λ hv h=>by
    rcases AW hv with ⟨i,t,rfl,rfl⟩ | ⟨x,t,rfl,rfl⟩
    · exact wpAny_pyHash_int h
    · exact wpAny_pyHash_str h
  eqBool:=λ hu hv h=>by
    rcases AW hu with ⟨i,t,rfl,rfl⟩ | ⟨x,t,rfl,rfl⟩
    · rcases AW hv with ⟨j,u,rfl,rfl⟩ | ⟨y,u,rfl,rfl⟩
      · rw [QD] at h;exact wpAny_eqBool_int h
      · rw [Qf] at h;exact SeqAt.EqAt.int_str i t y u _ _ _ _ h
    · rcases AW hv with ⟨j,u,rfl,rfl⟩ | ⟨y,u,rfl,rfl⟩
      · rw [QI] at h;exact SeqAt.EqAt.str_int x t j u _ _ _ _ h
      · rw [RJ] at h;exact wpAny_eqBool_str h
  «strs» := λ k x t v h=>by
    rcases AW h with ⟨i,u,rfl,e⟩ | ⟨y,u,rfl,e⟩
    · exact nomatch e
    · injection e with e1 _;subst e1;cases v <;> rfl
theorem JA (prog:Program) (w:World) (i:Int) (t:Tok):(AJ prog w).is (.inl i) (.int i t)=true:=Lj i t
theorem Jn (prog:Program) (w:World) (x:Str) (t:Tok):(AJ prog w).is (.inr x) (.str x t)=true:=LN x t
inductive V where
  | non | bl (b:Bool) | int (i:Int) | str (x:Str) | byt (b:Array UInt8) | flt (b:UInt64) | ref (a:Addr) | ty (n:String)
  deriving DecidableEq
def RelV:V->Value->Prop
  | .non,u=>u=Value.none
  | .bl b,u=>u=Value.bool b
  | .int i,u=>∃ t,u=Value.int i t
  | .str x,u=>∃ t,u=Value.str x t
  | .byt b,u=>∃ t,u=Value.bytes b t
  | .flt b,u=>∃ t,u=Value.float b t
  | .ref a,u=>u=Value.ref a
  | .ty n,u=>u=Value.type n
abbrev Vals:List V->List Value->Prop:=Paired RelV
theorem Vals.length {xs:List V} {us:List Value} (r:Vals xs us):xs.length=us.length:=Paired.length r
theorem Vals.get:∀ {xs:List V} {us:List Value} {i:Nat} {x:V},Vals xs us->xs[i]?=some x->∃ u,us[i]?=some u/\RelV x u
  | _,_,_,_, .nil,e=>by simp at e
  | _,_,0,_, .cons r _,e=>by simp at e;subst e;exact ⟨_,rfl,r⟩
  | _,_,i+1,x, .cons _ t,e=>by
    obtain ⟨u,h1,h2⟩:=Vals.get (i:=i) (x:=x) t (by simpa using e);exact ⟨u,by simpa using h1,h2⟩
theorem Vals.set {x:V} {u:Value} (r:RelV x u):∀ {xs:List V} {us:List Value} (i:Nat),Vals xs us->Vals (xs.set i x) (us.set i u)
  | _,_,_, .nil=> .nil
  | _,_,0, .cons _ t=> .cons r t
  | _,_,i+1, .cons q t=> .cons q (Vals.set r i t)
theorem Vals.append:∀ {xs ys:List V} {us ws:List Value},Vals xs us->Vals ys ws->Vals (xs++ys) (us++ws)
  | _,_,_,_, .nil,s=>s
  | _,_,_,_, .cons r t,s=> .cons r (Vals.append t s)
theorem Vals.take:∀ {xs:List V} {us:List Value} (n:Nat),Vals xs us->Vals (xs.take n) (us.take n)
  | _,_,0,_=> .nil
  | _,_,_+1, .nil=> .nil
  | _,_,n+1, .cons r t=> .cons r (Vals.take n t)
theorem Vals.drop:∀ {xs:List V} {us:List Value} (n:Nat),Vals xs us->Vals (xs.drop n) (us.drop n)
  | _,_,0,r=>r
  | _,_,_+1, .nil=> .nil
  | _,_,n+1, .cons _ t=>Vals.drop n t
def RelO:Option V->Option Value->Prop
  | some v,some u=>RelV v u
  | none,none=>True
  | _,_=>False
def KV {κ:Type}:List (κ × V)->List (κ × Value)->Prop:=Paired λ (p:κ × V) (q:κ × Value)=>p.1=q.1/\RelV p.2 q.2
def kV:Key->V
  | .inl i=> .int i
  | .inr x=> .str x
inductive HO where
  | lst (xs:List V)
  | tup (xs:List V)
  | dK (kvs:List (Key × V)) | dT (kvs:List (List Key × V))
  | set (S:Int->Bool) (n:Nat)
  | ins (C dx:Addr) (fs:List (Str × V))
  | own (x:Addr)
  | xd (fs:List (Str × V))
  | met (f x:Addr)
  | rng (lo hi:Int)
  | frz (o:Obj) (u:HO)
  | tbl (ps:Array Value)
  | ext (φ:Heap->Prop)
abbrev Hp:=Addr->Option HO
def upd (H:Hp) (a:Addr) (o:HO):Hp:=λ b=>if b=a then some o else H b
theorem Ae {H:Hp} {a:Addr} {o:HO}:upd H a o a=some o:=by unfold upd;rw [if_pos rfl]
theorem Am {H:Hp} {a b:Addr} {o:HO} (h:b≠a):upd H a o b=H b:=by unfold upd;rw [if_neg h]
theorem Op {H:Hp} {a:Addr} {o u:HO}:upd (upd H a o) a u=upd H a u:=by
  funext b;unfold upd;split <;> rfl
theorem A8 {H:Hp} {a b:Addr} {o u:HO} (h:H a=some o) (h':H b=some u) (d:o≠u):a≠b:=by
  intro e;subst e;rw [h] at h';exact d (Option.some.inj h')
theorem Au {H:Hp} {a b:Addr} {o:HO} (h:H a=some o) (h':H b=none):a≠b:=by
  intro e;subst e;rw [h] at h';cases h'
section
variable (P:Program) (w:World)
def ObjOk (H:Hp) (h:Heap) (a:Addr):HO->Prop
  | .lst xs=>xs.length<=sizeLine/\∃ (its:List Value) (n:Nat),Vals xs its/\h.get? a=some { cls:= .type "list",data:= .seq its.toArray n }
  | .tup xs=>xs.length<=sizeLine/\∃ its:List Value,Vals xs its/\IsTup h a its.toArray
  | .dK kvs=>kvs.length<=sizeLine/\(a == sysModules)=false/\∃ vs,KV kvs vs/\h.DictOf (AJ P w) a vs
  | .dT kvs=>kvs.length<=sizeLine/\(a == sysModules)=false/\∃ xs:List (List Key × Addr × Value),
      Paired (λ (p:List Key × V) (q:List Key × Addr × Value)=>p.1=q.1/\H q.2.1=some (.tup (p.1.map kV))/\RelV p.2 q.2.2) kvs xs/\
      ∃ o es ep,h.get? a=some o/\o.ExactDict/\o.data= .dict es ep/\es.toList=xs.map (entryOfKey (tupleKind (AJ P w)))/\(xs.map (·.1)).Nodup
  | .set S n=>h.SetOf (intKind P w) a S n
  | .ins C dx fs=>H dx=some (.own a)/\fs.length<=1000/\dx≠a/\h.get? a=some (PySem.W.instObj C dx)/\
      ∃ mA,h.Ns1 dx mA/\(∀ f,RelO (fs.lookup f) (mA f))/\PySem.Within mA (fs.map (·.1))
  | .own _=>∃ o,h.get? a=some o
  | .xd fs=>∃ mA,h.Ns1 a mA/\∀ f,RelO (fs.lookup f) (mA f)
  | .rng lo hi=>∃ t u v,h.get? a=some { cls:= .type "range",data:= .fields #[.int lo t, .int hi u, .int 1 v] }
  | .frz o u=>h.get? a=some o/\ObjOk H h a u
  | .tbl ps=>h.get? a=some { cls:= .none,data:= .fields ps }
  | .met f x=>h.get? a=some (PySem.W.methodObj (.ref f) (.ref x))
  | .ext φ=>φ h/\(∃ o,h.get? a=some o)/\∀ h1 h2:Heap,φ h1->(∀ o,h1.get? a=some o->h2.get? a=some o)->φ h2
def HOk (H:Hp) (h:Heap):Prop:=∀ a o,H a=some o->ObjOk P w H h a o
end
section
variable {P:Program} {w:World} {H H':Hp} {h h':Heap} {a:Addr} {o:HO}
theorem ObjOk.lt (x:ObjOk P w H h a o):a<h.objs.size:=by
  cases o with
  | lst xs=>obtain ⟨_,_,_,_,e⟩:=x;exact Heap.lt_size e
  | tup xs=>obtain ⟨_,_,_,p⟩:=x;exact p.lt
  | dK kvs=>obtain ⟨_,_,_,_,o,_,_,e,_⟩:=x;exact Heap.lt_size e
  | dT kvs=>obtain ⟨_,_,_,_,o,_,_,e,_⟩:=x;exact Heap.lt_size e
  | set S n=>obtain ⟨o,_,_,_,e,_⟩:=x;exact Heap.lt_size e
  | ins C dx fs=>obtain ⟨_,_,_,e,_⟩:=x;exact Heap.lt_size e
  | own y=>obtain ⟨_,e⟩:=x;exact Heap.lt_size e
  | xd fs=>obtain ⟨_,⟨_,_,_,e,_⟩,_⟩:=x;exact Heap.lt_size e
  | rng lo hi=>obtain ⟨_,_,_,e⟩:=x;exact Heap.lt_size e
  | frz ob u=>obtain ⟨e,_⟩:=x;exact Heap.lt_size e
  | tbl ps=>exact Heap.lt_size (show h.get? a=some _ from x)
  | met f y=>exact Heap.lt_size (show h.get? a=some _ from x)
  | ext φ=>obtain ⟨_,⟨_,e⟩,_⟩:=x;exact Heap.lt_size e
theorem Paired.mapP {α β:Type} {F G:α->β->Prop}:∀ {l₁:List α} {l₂:List β},Paired F l₁ l₂->(∀ a b,F a b->G a b)->Paired G l₁ l₂
  | _,_, .nil,_=> .nil
  | _,_, .cons r t,f=> .cons (f _ _ r) (Paired.mapP t f)
theorem ObjOk.stay (x:ObjOk P w H h a o) (k:∀ b u,(b=a\/H b=some (.own a))->h.get? b=some u->h'.get? b=some u)
    (ho:∀ b,H b=some (.own a)->H' b=some (.own a)) (ht:∀ b xs,H b=some (.tup xs)->H' b=some (.tup xs)):ObjOk P w H' h' a o:=by
  induction o with
  | lst xs=>obtain ⟨z,its,n,r,e⟩:=x;exact ⟨z,its,n,r,k _ _ (.inl rfl) e⟩
  | tup xs=>obtain ⟨z,its,r,ob,e,c⟩:=x;exact ⟨z,its,r,ob,k _ _ (.inl rfl) e,c⟩
  | dK kvs=>obtain ⟨z,y,vs,r,ob,es,ep,e,c⟩:=x;exact ⟨z,y,vs,r,ob,es,ep,k _ _ (.inl rfl) e,c⟩
  | dT kvs=>
    obtain ⟨z,y,xs,r,ob,es,ep,e,c⟩:=x;exact ⟨z,y,xs,Paired.mapP r λ p q z=>⟨z.1,ht _ _ z.2.1,z.2.2⟩,ob,es,ep,k _ _ (.inl rfl) e,c⟩
  | set S n=>obtain ⟨ob,es,ep,t,e,c⟩:=x;exact ⟨ob,es,ep,t,k _ _ (.inl rfl) e,c⟩
  | ins C dx fs=>
    obtain ⟨d,z,ne,e,mA,⟨od,es,ep,e2,c⟩,r⟩:=x;exact ⟨ho _ d,z,ne,k _ _ (.inl rfl) e,mA,⟨od,es,ep,k _ _ (.inr d) e2,c⟩,r⟩
  | own y=>obtain ⟨ob,e⟩:=x;exact ⟨ob,k _ _ (.inl rfl) e⟩
  | xd fs=>obtain ⟨mA,⟨od,es,ep,e,c⟩,r⟩:=x;exact ⟨mA,⟨od,es,ep,k _ _ (.inl rfl) e,c⟩,r⟩
  | rng lo hi=>obtain ⟨t,u,v,e⟩:=x;exact ⟨t,u,v,k _ _ (.inl rfl) e⟩
  | frz ob u ih=>obtain ⟨e,q⟩:=x;exact ⟨k _ _ (.inl rfl) e,ih q⟩
  | tbl ps=>
    have e:h.get? a=some { cls:= .none,data:= .fields ps }:=x;show h'.get? a=some { cls:= .none,data:= .fields ps };exact k a _ (.inl rfl) e
  | met f y=>
    have e:h.get? a=some (PySem.W.methodObj (.ref f) (.ref y)):=x;show h'.get? a=some (PySem.W.methodObj (.ref f) (.ref y));exact k a _ (.inl rfl) e
  | ext φ=>obtain ⟨p,⟨o,e⟩,st⟩:=x;exact ⟨st _ _ p λ o q=>k _ _ (.inl rfl) q,⟨o,k _ _ (.inl rfl) e⟩,st⟩
theorem HOk.lt (x:HOk P w H h) (e:H a=some o):a<h.objs.size:=(x a o e).lt
theorem HOk.fresh (x:HOk P w H h) (e:h.objs.size<=a):H a=none:=by
  cases q:H a with
  | none=>rfl
  | some u=>exact absurd (Nat.lt_of_lt_of_le (x.lt q) e) (Nat.lt_irrefl _)
theorem HOk.kept (x:HOk P w H h) (k:∀ b u,h.get? b=some u->h'.get? b=some u):HOk P w H h':=λ a o e=>
  (x a o e).stay (λ b u _ q=>k b u q) (λ _ q=>q) λ _ _ q=>q
theorem HOk.laid (x:HOk P w H h) (k:∀ b u,h.get? b=some u->h'.get? b=some u) (hp:h.objs.size<=a) (new:ObjOk P w (upd H a o) h' a o):HOk P w (upd H a o) h':=λ b u e=>by
  have hn:=x.fresh hp;by_cases hb:b=a
  · subst hb;rw [Ae] at e;cases e;exact new
  · rw [Am hb] at e;exact (x b u e).stay (λ c v _ q=>k c v q) (λ c q=>by rw [Am (Au q hn)];exact q) λ c xs q=>by rw [Am (Au q hn)];exact q
end
def Rd (H:Hp) (a:Addr) (u:HO):Prop:=H a=some u\/∃ o,H a=some (.frz o u)
theorem Rd.ok {P:Program} {w:World} {H:Hp} {h:Heap} {a:Addr} {u:HO} (r:Rd H a u) (x:HOk P w H h):ObjOk P w H h a u:=by
  rcases r with r | ⟨o,r⟩
  · exact x a u r
  · obtain ⟨_,q⟩:=x a _ r;exact q
def Mut:Option HO->Prop
  | some (.lst _)=>True
  | some (.dK _)=>True
  | some (.dT _)=>True
  | some (.set _ _)=>True
  | some (.ins _ _ _)=>True
  | some (.ext _)=>True
  | _=>False
section
variable {P:Program} {w:World} {H:Hp} {h h':Heap} {x e:Addr} {o':HO}
theorem HOk.write (ok:HOk P w H h) (mu:Mut (H x)) (he:e=x\/H e=some (.own x)) (k:∀ b u,b≠e->h.get? b=some u->h'.get? b=some u) (heo:∃ u,h'.get? e=some u)
    (new:ObjOk P w (upd H x o') h' x o'):HOk P w (upd H x o') h':=λ b u q=>by
  have nown:∀ c y,H c=some (.own y)->c≠x:=λ c y r z=>by subst z;rw [r] at mu;exact mu
  have ntup:∀ c xs,H c=some (.tup xs)->c≠x:=λ c xs r z=>by subst z;rw [r] at mu;exact mu
  by_cases hb:b=x
  · subst hb;rw [Ae] at q;cases q;exact new
  · rw [Am hb] at q;by_cases hbe:b=e
    · have q':H b=some (.own x):=by
        rcases he with z | z
        · exact absurd (hbe.trans z) hb
        · rw [hbe];exact z
      rw [q] at q';cases q';obtain ⟨v,hv⟩:=heo;exact ⟨v,by rw [hbe];exact hv⟩
    · refine (ok b u q).stay (λ c v hc r=>k c v ?_ r) (λ c r=>by rw [Am (nown c b r)];exact r) λ c xs r=>by rw [Am (ntup c xs r)];exact r
      rcases hc with rfl | hc
      · exact hbe
      · rintro rfl;rcases he with z | z
        · exact nown c b hc z
        · rw [hc] at z;cases z;exact hb rfl
end
structure Un (fs ex:List Addr) (H H':Hp) (h h':Heap):Prop where
  keep:∀ b o,h.get? b=some o->H b=none->b∉fs->b∉ex->h'.get? b=some o
  slot:∀ b o,h.get? b=some o->H b=none->b∈fs->b∉ex->∃ sl,h'.get? b=some { o with slots:=sl }
  free:∀ b o,h.get? b=some o->H b=none->b∉ex->H' b=none
  there:∀ b o,h.get? b=some o->b∉ex->∃ o',h'.get? b=some o'
  tups:∀ b xs,H b=some (.tup xs)->H' b=some (.tup xs)
  frzs:∀ b o u,H b=some (.frz o u)->H' b=some (.frz o u)
  tbls:∀ b ps,H b=some (.tbl ps)->∃ more,H' b=some (.tbl (ps++more))
section
variable {fs fs' ex ex':List Addr} {H H1 H2:Hp} {h h1 h2 h':Heap} {a x e:Addr} {o:HO}
theorem Un.any (u:Un fs ex H H1 h h1) {b:Addr} {ob:Obj} (q:h.get? b=some ob) (n:H b=none) (hx:b∉ex):∃ sl,h1.get? b=some { ob with slots:=sl }:=by
  by_cases hb:b∈fs
  · exact u.slot b ob q n hb hx
  · exact ⟨ob.slots,u.keep b ob q n hb hx⟩
theorem Un.kept (k:∀ b u,h.get? b=some u->h'.get? b=some u):Un fs ex H H h h':=
  ⟨λ b ob q _ _ _=>k b ob q,λ b ob q _ _ _=>⟨ob.slots,k b ob q⟩,λ _ _ _ n _=>n,λ b ob q _=>⟨ob,k b ob q⟩,λ _ _ q=>q,λ _ _ _ q=>q,λ _ ps q=>⟨#[],by rw [q];simp⟩⟩
theorem Un.refl:Un fs ex H H h h:=Un.kept λ _ _ q=>q
theorem Un.laid (k:∀ b u,h.get? b=some u->h'.get? b=some u) (hp:h.objs.size<=a) (hn:H a=none):Un fs ex H (upd H a o) h h' where
  keep:=λ b u q _ _ _=>k b u q
  slot:=λ b u q _ _ _=>⟨u.slots,k b u q⟩
  free:=λ b u q n _=>by rw [Am (Nat.ne_of_lt (Nat.lt_of_lt_of_le (Heap.lt_size q) hp))];exact n
  there:=λ b u q _=>⟨u,k b u q⟩
  tups:=λ b xs q=>by rw [Am (Au q hn)];exact q
  frzs:=λ b u xs q=>by rw [Am (Au q hn)];exact q
  tbls:=λ b ps q=>⟨#[],by rw [Am (Au q hn),q];simp⟩
theorem Un.write (mu:Mut (H x)) (he:e=x\/H e=some (.own x)) (k:∀ b u,b≠e->h.get? b=some u->h'.get? b=some u) (heo:∃ u,h'.get? e=some u):Un fs ex H (upd H x o) h h':=by
  have hx:∀ b,H b=none->b≠x:=λ b n z=>by subst z;rw [n] at mu;exact mu
  have hb:∀ b,H b=none->b≠e:=λ b n z=>by
    subst z;rcases he with r | r
    · exact hx b n r
    · rw [n] at r;cases r
  have hm:∀ b u,H b=some u->¬ Mut (some u)->b≠x:=λ b u q nm z=>by subst z;rw [q] at mu;exact nm mu
  refine ⟨λ b u q n _ _=>k b u (hb b n) q,λ b u q n _ _=>⟨u.slots,k b u (hb b n) q⟩,λ b u q n _=>by rw [Am (hx b n)];exact n,λ b u q _=> ?_,
    λ b xs q=>by rw [Am (hm b _ q λ z=>z)];exact q,λ b u xs q=>by rw [Am (hm b _ q λ z=>z)];exact q,λ b ps q=>⟨#[],by rw [Am (hm b _ q λ z=>z),q];simp⟩⟩
  by_cases hbe:b=e
  · subst hbe;exact heo
  · exact ⟨u,k b u hbe q⟩
end
def trk (h:Heap) (H:Hp):List Addr:=(List.range h.objs.size).filter λ a=>(H a).isSome
def Ij (h:Heap) (H:Hp):Heap:=PySem.W.hideAll h (trk h H)
theorem L7 (h:Heap) (H:Hp):(Ij h H).objs.size=h.objs.size:=PySem.W.hideAll_size _ _
theorem NF {h:Heap} {H:Hp} {b:Addr} {o:Obj} (e:h.get? b=some o) (n:H b=none):(Ij h H).get? b=some o:=
  PySem.W.hideAll_get _ e λ hm=>by
    have q:(H b).isSome=true:=(List.mem_filter.mp hm).2;rw [n] at q;simp at q
theorem Ov {h:Heap} {H:Hp} {b:Addr} {o:Obj} (e:(Ij h H).get? b=some o):h.get? b=some o/\H b=none:=by
  have e':h.get? b=some o:=PySem.W.of_hideAll (trk h H) e;refine ⟨e',?_⟩;cases q:H b with
  | none=>rfl
  | some x=>
    have hm:b∈trk h H:=List.mem_filter.mpr ⟨List.mem_range.mpr (Heap.lt_size e'),by simp [q]⟩;have z:(Ij h H).get? b=none:=PySem.W.hideAll_none (trk h H) hm;rw [z] at e;cases e
def Ki (g h:Heap) (L:Addr):List (Addr × Obj):=(List.range h.objs.size).filterMap λ a=>if a=L\/(g.get? a).isSome=true then none else (h.get? a).map λ o=>(a,o)
theorem IV {g h:Heap} {L a:Addr} {o:Obj} (h1:a≠L) (h2:g.get? a=none) (h3:h.get? a=some o):(a,o)∈Ki g h L:=
  List.mem_filterMap.mpr ⟨a,List.mem_range.mpr (Heap.lt_size h3),by simp [h1,h2,h3]⟩
def BH (g h:Heap) (L d:Addr):List (Addr × Obj):=(Ki g h L).filter λ p=>decide (p.1≠d)
theorem mem_rest {g h:Heap} {L d a:Addr} {o:Obj} (h1:a≠L) (h2:g.get? a=none) (h3:h.get? a=some o) (h4:a≠d):(a,o)∈BH g h L d:=
  List.mem_filter.mpr ⟨IV h1 h2 h3,decide_eq_true h4⟩
structure Mod (K:PySem.W.Frag) (mg:Str->Option Value) (base:Heap):Prop where
  kin:K.In base
  glob:base.Ns mainGlobals mg
  blt:∃ mb,base.Ns builtinsNs mb/\∀ x:Str,x≠"__name__"->mb x=bootBuiltins x
  nolimit:base.NoLimit
structure Cx where
  prog:Program
  w:World
  K:PySem.W.Frag
  mg:Str->Option Value
  base:Heap
  A:Around
  N:List Str
  s₀:Shared
  H₀:Hp
  env:Env
  outer:List Env
  stack:List Env
  ex:List Addr
  fn:Str->Bool
  calm:Bool
  pn:List (Addr × Obj)
  xe:Value->Shared->Prop
def frs (l:List Env):List Addr:=l.filterMap (·.frame)
abbrev Cx.fs (X:Cx):List Addr:=frs X.outer
def Vis (sc:Scope) (x:Str):Prop:=sc.names.lookup x=some .local\/sc.names.lookup x=some .cell\/sc.names.lookup x=some .free
def Loc (sc:Scope) (x:Str):Prop:=sc.names.lookup x=some .local\/sc.names.lookup x=some .cell
def Wj (env:Env) (h:Heap) (m:Str->Option Value) (x:Str) (u:Value):Prop:=
  (env.kindOf x=some .local/\m x=some u)\/((env.kindOf x=some .cell\/env.kindOf x=some .free)/\∃ c,env.cells.lookup x=some c/\h.IsCell c (some u))
structure Cx.Ok (X:Cx):Prop where
  mod:Mod X.K X.mg X.base
  kind:X.env.scope.kind= .function
  glob:X.env.globals=mainGlobals
  blt:X.env.builtins=builtinsNs
  above:X.s₀.heap.objs.size<=X.env.locals
  inj:∀ x y c,X.env.cells.lookup x=some c->X.env.cells.lookup y=some c->x=y
  has:∀ x,(X.env.kindOf x=some .cell\/X.env.kindOf x=some .free)->∃ c,X.env.cells.lookup x=some c
  cab:∀ x c,X.fn x=true->X.env.cells.lookup x=some c->X.s₀.heap.objs.size<=c
  hd:X.calm=true->X.A.handled=none
  frames:X.A.frames=some X.stack
  stk:X.stack=X.outer\/(X.stack=X.env::X.outer/\X.env.frame=some X.env.locals)
  exf:∀ b∈X.ex,b≠X.env.locals/\∀ x c,X.env.cells.lookup x=some c->c≠b
  bs:∀ b o,X.base.get? b=some o->X.s₀.heap.get? b=some o/\X.H₀ b=none
  bsz:X.base.objs.size<=X.s₀.heap.objs.size
  noex:∀ b o,X.base.get? b=some o->b∉X.ex
  exfs:∀ b∈X.ex,b∉X.fs
  funs:X.s₀.heap.FunFrames X.base X.outer
  frf:∀ b∈X.fs,X.H₀ b=none
structure Inv (X:Cx) (pins:List (Addr × Obj)) (σ:List (Option V)) (H:Hp) (s:Shared):Prop where
  ok:X.Ok
  os:s.os=X.s₀.os
  bare:AllBare s.gens
  base:Un X.fs X.ex X.H₀ H X.s₀.heap s.heap
  loc:∃ m,s.heap.Ns X.env.locals m/\∀ (i:Nat) (x:Str) (v:V),X.N[i]?=some x->σ[i]?=some (some v)->Vis X.env.scope x->∃ u,RelV v u/\Wj X.env s.heap m x u
  cell:∀ x c,X.env.cells.lookup x=some c->∃ v,s.heap.IsCell c v
  free:H X.env.locals=none
  freeC:∀ x c,X.env.cells.lookup x=some c->H c=none
  pin:∀ p∈X.pn++pins,s.heap.get? p.1=some p.2/\H p.1=none/\p.1≠X.env.locals/\p.1∉X.fs/\∀ v,p.2.data≠ .cell v
  hok:HOk X.prog X.w H s.heap
  len:σ.length=X.N.length
section
variable {X:Cx} {pins:List (Addr × Obj)} {σ:List (Option V)} {H H':Hp} {s:Shared} {h':Heap}
theorem Cx.Ok.nofr (ok:X.Ok) {b:Addr} {o:Obj} (e:X.base.get? b=some o):b∉X.fs:=λ hb=>by
  have:=(ok.funs.mem hb).1;rw [e] at this;cases this
theorem Inv.bs (I:Inv X pins σ H s):∀ b o,X.base.get? b=some o->s.heap.get? b=some o/\H b=none:=λ b o e=>
  ⟨I.base.keep b o (I.ok.bs b o e).1 (I.ok.bs b o e).2 (I.ok.nofr e) (I.ok.noex b o e),I.base.free b o (I.ok.bs b o e).1 (I.ok.bs b o e).2 (I.ok.noex b o e)⟩
theorem Inv.bk (I:Inv X pins σ H s):∀ b o,X.base.get? b=some o->s.heap.get? b=some o:=λ b o e=>(I.bs b o e).1
theorem Inv.mod (I:Inv X pins σ H s):Mod X.K X.mg X.base:=I.ok.mod
theorem Inv.kIn (I:Inv X pins σ H s):X.K.In s.heap:=I.ok.mod.kin.keeps I.bk
theorem Inv.fr (I:Inv X pins σ H s):∃ m,Fr X.base X.env.locals s.heap m:=
  let ⟨m,hn,_⟩:=I.loc
  ⟨m,hn,I.bk,Nat.le_trans I.ok.bsz I.ok.above⟩
theorem Inv.lt (I:Inv X pins σ H s):X.env.locals<s.heap.objs.size:=let ⟨_,hn,_⟩:=I.loc;hn.lt
theorem Inv.sz (I:Inv X pins σ H s):X.s₀.heap.objs.size<=s.heap.objs.size:=Nat.le_trans I.ok.above (Nat.le_of_lt I.lt)
theorem Inv.nofs (I:Inv X pins σ H s) {a:Addr} (h:s.heap.objs.size<=a):a∉X.fs:=λ hb=>by
  obtain ⟨_,o,ho,_⟩:=I.ok.funs.mem hb;exact absurd (Nat.lt_of_lt_of_le (Heap.lt_size ho) (Nat.le_trans I.sz h)) (Nat.lt_irrefl _)
theorem Inv.cne (I:Inv X pins σ H s):∀ x c,X.env.cells.lookup x=some c->c≠X.env.locals:=λ x c e z=>by
  obtain ⟨v,o,ho,hd⟩:=I.cell x c e;obtain ⟨m,⟨o',es,ep,ho',hd',_⟩,_⟩:=I.loc;rw [z,ho'] at ho;cases ho;rw [hd'] at hd;cases hd
theorem Inv.funs (I:Inv X pins σ H s):s.heap.FunFrames X.base X.outer:=by
  have all:∀ (l:List Env),(∀ b∈frs l,b∈X.fs)->X.s₀.heap.FunFrames X.base l->s.heap.FunFrames X.base l:=by
    intro l
    induction l with
    | nil=>intro _ _;trivial
    | cons env r ih=>
      intro hs hl;obtain ⟨hk,⟨L,o,hf,hn,ho,hd⟩,hr⟩:=hl;have hL:L∈X.fs:=hs L (by unfold frs;rw [List.filterMap_cons,hf];exact List.mem_cons_self);obtain ⟨sl,e⟩:=I.base.slot L o ho (I.ok.frf L hL) hL λ z=>I.ok.exfs L z hL;exact ⟨hk,⟨L,_,hf,hn,e,hd⟩,ih (λ b hb=>hs b (by unfold frs;rw [List.filterMap_cons,hf];exact List.mem_cons_of_mem _ hb)) hr⟩
  exact all X.outer (λ _ hb=>hb) I.ok.funs
theorem Inv.stack (I:Inv X pins σ H s):s.heap.FunFrames X.base X.stack:=by
  rcases I.ok.stk with e | ⟨e,hf⟩
  · rw [e];exact I.funs
  · rw [e];obtain ⟨m,hn,_⟩:=I.loc;refine .cons (by rw [I.ok.kind];decide) hf hn ?_ I.funs;exact Heap.get?_none_of_le (Nat.le_trans I.ok.bsz I.ok.above)
theorem Inv.stkSub (I:Inv X pins σ H s):∀ b∈frs X.stack,b∈X.env.locals::X.fs:=λ b hb=>by
  rcases I.ok.stk with e | ⟨e,hf⟩
  · rw [e] at hb;exact List.mem_cons_of_mem _ hb
  · rw [e] at hb;unfold frs at hb;rw [List.filterMap_cons,hf] at hb;exact hb
theorem Inv.stkFree (I:Inv X pins σ H s):∀ b∈frs X.stack,H b=none:=λ b hb=>by
  rcases List.mem_cons.mp (I.stkSub b hb) with e | hb
  · rw [e];exact I.free
  · obtain ⟨_,o,ho,_⟩:=I.ok.funs.mem hb;exact I.base.free b o ho (I.ok.frf b hb) λ z=>I.ok.exfs b z hb
theorem Inv.step {g':Array GenState} {t':Nat} {d':Drawn} {ch:List Addr} (I:Inv X pins σ H s)
    (hch:∀ b∈ch,(b∈X.ex\/X.s₀.heap.objs.size<=b)/\b≠X.env.locals/\(∀ x c,X.env.cells.lookup x=some c->c≠b)/\∀ p∈X.pn++pins,p.1≠b)
    (keep:∀ b o,b≠X.env.locals->b∉X.fs->b∉ch->s.heap.get? b=some o->H b=none->h'.get? b=some o)
    (slot:∀ b o,b≠X.env.locals->b∈X.fs->b∉ch->s.heap.get? b=some o->H b=none->∃ sl,h'.get? b=some { o with slots:=sl }) (free:∀ b o,b∉ch->s.heap.get? b=some o->H b=none->H' b=none)
    (there:∀ b o,b∉ch->s.heap.get? b=some o->∃ o',h'.get? b=some o')
    (tups:∀ b xs,H b=some (.tup xs)->H' b=some (.tup xs)) (frzs:∀ b o u,H b=some (.frz o u)->H' b=some (.frz o u)) (tbls:∀ b ps,H b=some (.tbl ps)->∃ more,H' b=some (.tbl (ps++more)))
    (ns:∀ m,s.heap.Ns X.env.locals m->h'.Ns X.env.locals m) (hok:HOk X.prog X.w H' h') (hg:AllBare g'):
    Inv X pins σ H' { s with heap:=h',gens:=g',drawn:=d',toks:=t' }:=by
  have neL:∀ b o,X.s₀.heap.get? b=some o->b≠X.env.locals:=λ b o e=>Nat.ne_of_lt (Nat.lt_of_lt_of_le (Heap.lt_size e) I.ok.above);have neC:∀ b o,X.s₀.heap.get? b=some o->b∉X.ex->b∉ch:=λ b o e hx hb=>by
    rcases (hch b hb).1 with z | z
    · exact hx z
    · exact absurd (Nat.lt_of_lt_of_le (Heap.lt_size e) z) (Nat.lt_irrefl _)
  have cellK:∀ x c,X.env.cells.lookup x=some c->∀ v,s.heap.IsCell c v->h'.IsCell c v:=λ x c e v ⟨o,ho,hd⟩=>by
    have nch:c∉ch:=λ z=>(hch c z).2.2.1 x c e rfl;by_cases hc:c∈X.fs
    · obtain ⟨sl,q⟩:=slot c o (I.cne x c e) hc nch ho (I.freeC x c e);exact ⟨_,q,hd⟩
    · exact ⟨o,keep c o (I.cne x c e) hc nch ho (I.freeC x c e),hd⟩
  refine ⟨I.ok,I.os,hg,⟨λ b o e n hb hx=> ?_,λ b o e n hb hx=> ?_,λ b o e n hx=> ?_,λ b o e hx=> ?_,λ b xs e=>tups b xs (I.base.tups b xs e),λ b o xs e=>frzs b o xs (I.base.frzs b o xs e),λ b ps e=> ?_⟩,?_,λ x c e=> ?_,?_,λ x c e=> ?_,λ p hp=> ?_,hok,I.len⟩
  · exact keep b o (neL b o e) hb (neC b o e hx) (I.base.keep b o e n hb hx) (I.base.free b o e n hx)
  · obtain ⟨sl,e1⟩:=I.base.slot b o e n hb hx;obtain ⟨sl',e2⟩:=slot b _ (neL b o e) hb (neC b o e hx) e1 (I.base.free b o e n hx);exact ⟨sl',e2⟩
  · obtain ⟨o',e1⟩:=I.base.there b o e hx;exact free b o' (neC b o e hx) e1 (I.base.free b o e n hx)
  · obtain ⟨o',e1⟩:=I.base.there b o e hx;exact there b o' (neC b o e hx) e1
  · obtain ⟨m1,e1⟩:=I.base.tbls b ps e;obtain ⟨m2,e2⟩:=tbls b _ e1;exact ⟨m1++m2,by rw [e2,Array.append_assoc]⟩
  · obtain ⟨m,hn,hl⟩:=I.loc;refine ⟨m,ns m hn,λ i x v e1 e2 e3=> ?_⟩;obtain ⟨u,r,l⟩:=hl i x v e1 e2 e3;refine ⟨u,r,?_⟩;rcases l with l | ⟨k,c,e,z⟩
    · exact .inl l
    · exact .inr ⟨k,c,e,cellK x c e _ z⟩
  · obtain ⟨v,z⟩:=I.cell x c e;exact ⟨v,cellK x c e v z⟩
  · obtain ⟨m,⟨o,_,_,ho,_⟩,_⟩:=I.loc;exact free _ o (λ z=>(hch _ z).2.1 rfl) ho I.free
  · obtain ⟨v,o,ho,hd⟩:=I.cell x c e;exact free c o (λ z=>(hch c z).2.2.1 x c e rfl) ho (I.freeC x c e)
  · obtain ⟨e,n,ne,nf,d⟩:=I.pin p hp;have nch:p.1∉ch:=λ z=>(hch p.1 z).2.2.2 p hp rfl;exact ⟨keep p.1 p.2 ne nf nch e n,free p.1 p.2 nch e n,ne,nf,d⟩
theorem Inv.un {t':Nat} (I:Inv X pins σ H s) (u:Un X.fs [] H H' s.heap h') (hok:HOk X.prog X.w H' h'):Inv X pins σ H' { s with heap:=h',toks:=t' }:=by
  obtain ⟨m,⟨o,es,ep,ho,r⟩,_⟩:=id I.loc;obtain ⟨sl,hL⟩:=u.any ho I.free (by simp);exact I.step (g':=s.gens) (d':=s.drawn) (ch:=[]) (λ _ z=>nomatch z) (λ b o _ hb _ e n=>u.keep b o e n hb (by simp)) (λ b o _ hb _ e n=>u.slot b o e n hb (by simp)) (λ b o _ e n=>u.free b o e n (by simp)) (λ b o _ e=>u.there b o e (by simp)) u.tups u.frzs u.tbls (λ m' hm=>by
    obtain ⟨o',es',ep',ho',r'⟩:=hm;rw [ho] at ho';cases ho';exact ⟨_,es',ep',hL,r'⟩) hok I.bare
theorem Inv.call {g':Array GenState} {t':Nat} {d':Drawn} {ch:List Addr} (I:Inv X pins σ H s) (u:Un (frs X.stack) ch H H' s.heap h') (hok:HOk X.prog X.w H' h') (hg:AllBare g')
    (hch:∀ b∈ch,(b∈X.ex\/X.s₀.heap.objs.size<=b)/\b≠X.env.locals/\(∀ x c,X.env.cells.lookup x=some c->c≠b)/\∀ p∈X.pn++pins,p.1≠b):
    Inv X pins σ H' { s with heap:=h',gens:=g',drawn:=d',toks:=t' }:=by
  obtain ⟨m,⟨o,es,ep,ho,r⟩,_⟩:=id I.loc;obtain ⟨sl,hL⟩:=u.any ho I.free λ z=>(hch _ z).2.1 rfl;exact I.step (ch:=ch) hch (λ b o hL hb hc e n=>u.keep b o e n (λ z=>(List.mem_cons.mp (I.stkSub b z)).elim hL hb) hc) (λ b o _ _ hc e n=>u.any e n hc) (λ b o hc e n=>u.free b o e n hc) (λ b o hc e=>u.there b o e hc) u.tups u.frzs u.tbls (λ m' hm=>by
    obtain ⟨o',es',ep',ho',r'⟩:=hm;rw [ho] at ho';cases ho';exact ⟨_,es',ep',hL,r'⟩) hok hg
theorem Inv.turned {t':Nat} {it:Addr} (I:Inv X pins σ H s) (k:∀ b o,b≠it->s.heap.get? b=some o->h'.get? b=some o) (hn:H it=none) (hL:it≠X.env.locals)
    (h1:it∈X.ex\/X.s₀.heap.objs.size<=it) (h2:∀ x c,X.env.cells.lookup x=some c->c≠it) (h3:∀ p∈X.pn++pins,p.1≠it):Inv X pins σ H { s with heap:=h',toks:=t' }:=by
  have nit:∀ b u,H b=some u->b≠it:=λ b u e z=>by rw [z,hn] at e;cases e
  refine I.step (g':=s.gens) (d':=s.drawn) (ch:=[it]) (λ b hb=> ?_) (λ b o _ _ hc e _=>k b o (λ z=>hc (by simp [z])) e) (λ b o _ _ hc e _=>⟨o.slots,k b o (λ z=>hc (by simp [z])) e⟩) (λ _ _ _ _ n=>n)
    (λ b o hc e=>⟨o,k b o (λ z=>hc (by simp [z])) e⟩) (λ _ _ e=>e) (λ _ _ _ e=>e) (λ b ps e=>⟨#[],by rw [e];simp⟩) (λ m hm=> ?_) (λ b u e=> ?_) I.bare
  · have e:b=it:=by simpa using hb
    subst e;exact ⟨h1,hL,h2,h3⟩
  · obtain ⟨o,es,ep,ho,r⟩:=hm;exact ⟨o,es,ep,k _ o (Ne.symm hL) ho,r⟩
  · refine (I.hok b u e).stay (λ c v hc q=>k c v ?_ q) (λ _ q=>q) λ _ _ q=>q;rcases hc with z | z
    · rw [z];exact nit b u e
    · exact nit c _ z
theorem Inv.tok (I:Inv X pins σ H s) (t:Nat):Inv X pins σ H { s with toks:=t }:=I.un (h':=s.heap) (t':=t) Un.refl I.hok
theorem Inv.kept {t':Nat} (I:Inv X pins σ H s) (k:∀ b u,s.heap.get? b=some u->h'.get? b=some u):Inv X pins σ H { s with heap:=h',toks:=t' }:=I.un (Un.kept k) (I.hok.kept k)
theorem Inv.laid {a:Addr} {o:HO} {t':Nat} (I:Inv X pins σ H s) (k:∀ b u,s.heap.get? b=some u->h'.get? b=some u) (hp:s.heap.objs.size<=a) (new:ObjOk X.prog X.w (upd H a o) h' a o):
    Inv X pins σ (upd H a o) { s with heap:=h',toks:=t' }:=I.un (Un.laid k hp (I.hok.fresh hp)) (I.hok.laid k hp new)
theorem Inv.write {x e:Addr} {o:HO} {t':Nat} (I:Inv X pins σ H s) (mu:Mut (H x)) (he:e=x\/H e=some (.own x)) (k:∀ b u,b≠e->s.heap.get? b=some u->h'.get? b=some u) (heo:∃ u,h'.get? e=some u)
    (new:ObjOk X.prog X.w (upd H x o) h' x o):Inv X pins σ (upd H x o) { s with heap:=h',toks:=t' }:=I.un (Un.write mu he k heo) (I.hok.write mu he k heo new)
theorem Inv.weak {σ':List (Option V)} (I:Inv X pins σ H s) (hl:σ'.length=σ.length) (w:∀ (i:Nat) v,σ'[i]?=some (some v)->σ[i]?=some (some v)):Inv X pins σ' H s:=
  ⟨I.ok,I.os,I.bare,I.base,let ⟨m,hn,hl'⟩:=I.loc;⟨m,hn,λ i x v e1 e2 e3=>hl' i x v e1 (w i v e2) e3⟩,I.cell,I.free,I.freeC,I.pin,I.hok,hl.trans I.len⟩
theorem Inv.pins_of {pins':List (Addr × Obj)} (I:Inv X pins σ H s) (h:∀ p∈pins',s.heap.get? p.1=some p.2/\H p.1=none/\p.1≠X.env.locals/\p.1∉X.fs/\∀ v,p.2.data≠ .cell v):Inv X pins' σ H s:=
  ⟨I.ok,I.os,I.bare,I.base,I.loc,I.cell,I.free,I.freeC,λ p hp=>(List.mem_append.mp hp).elim (λ z=>I.pin p (List.mem_append_left _ z)) (h p),I.hok,I.len⟩
theorem II {N:List Str} (hN:N.Nodup) {i j:Nat} {x:Str} (a:N[i]?=some x) (b:N[j]?=some x):i=j:=by
  obtain ⟨h1,e1⟩:=List.getElem?_eq_some_iff.mp a;obtain ⟨h2,e2⟩:=List.getElem?_eq_some_iff.mp b;exact (List.getElem_inj hN).mp (e1.trans e2.symm)
theorem Lz {M:Model} {A:Around} {E:Value->Shared->Prop} {i:Nat} {x:Str} {v:V} {u:Value} {Q:Unit->Shared->Prop} (I:Inv X pins σ H s) (hN:X.N.Nodup) (hi:X.N[i]?=some x) (hx:Loc X.env.scope x) (r:RelV v u)
    (h:∀ s',Inv X pins (σ.set i (some v)) H s'->(∃ a,Heap.SameBut a s.heap s'.heap/\(a=X.env.locals\/X.env.cells.lookup x=some a))->Q () s') (hf:X.fn x=true\/X.env.scope.names.lookup x=some .local:=by first | exact .inl rfl | exact .inr rfl | assumption):wpAny M A (storeName X.env x u) Q E s:=by
  obtain ⟨m,hn,hl⟩:=id I.loc;have hcls:(X.env.scope.kind == .class||(X.env.scope.kind == .module&&X.env.locals != X.env.globals))=false:=by rw [I.ok.kind];rfl
  have hiσ:i<σ.length:=by rw [I.len];exact (List.getElem?_eq_some_iff.mp hi).1
  have cne:=I.cne;have tracked:∀ {a:Addr} {h':Heap},(∃ o,s.heap.get? a=some o/\H a=none)->Heap.SameBut a s.heap h'->HOk X.prog X.w H h':=λ {a h'} ha hs b ob e=>by
    obtain ⟨_,_,hfree⟩:=ha;refine (I.hok b ob e).stay (λ c w' hc q=>(hs.2 c ?_).trans q) (λ _ q=>q) λ _ _ q=>q;rintro rfl;rcases hc with rfl | hc
    · rw [hfree] at e;cases e
    · rw [hfree] at hc;cases hc
  rcases hx with hk | hk
  · refine wpAny_storeName_local hk hn (λ h' hn' hs=> ?_) hcls;obtain ⟨oL,_,_,hoL,_⟩:=id hn;refine h _ ⟨I.ok,I.os,I.bare,⟨λ b o e n hb hx=> ?_,λ b o e n hb hx=> ?_,I.base.free,λ b o e hx=> ?_,I.base.tups,I.base.frzs,I.base.tbls⟩,⟨_,hn',λ j y v' e1 e2 e3=> ?_⟩,λ y c e=> ?_,I.free,I.freeC,λ p hp=> ?_,tracked ⟨oL,hoL,I.free⟩ hs,by simpa using I.len⟩ ⟨_,hs, .inl rfl⟩
    · exact (hs.2 b (Nat.ne_of_lt (Nat.lt_of_lt_of_le (Heap.lt_size e) I.ok.above))).trans (I.base.keep b o e n hb hx)
    · obtain ⟨sl,e1⟩:=I.base.slot b o e n hb hx;exact ⟨sl,(hs.2 b (Nat.ne_of_lt (Nat.lt_of_lt_of_le (Heap.lt_size e) I.ok.above))).trans e1⟩
    · obtain ⟨o',e1⟩:=I.base.there b o e hx;exact ⟨o',(hs.2 b (Nat.ne_of_lt (Nat.lt_of_lt_of_le (Heap.lt_size e) I.ok.above))).trans e1⟩
    · by_cases hj:j=i
      · subst hj;rw [hi] at e1;cases e1;rw [List.getElem?_set_self hiσ] at e2;cases e2;exact ⟨u,r, .inl ⟨hk,by simp⟩⟩
      · rw [List.getElem?_set_ne (Ne.symm hj)] at e2;obtain ⟨u',r',q⟩:=hl j y v' e1 e2 e3;refine ⟨u',r',?_⟩;rcases q with ⟨k,e⟩ | ⟨k,c,e,z⟩
        · refine .inl ⟨k,?_⟩;have:y≠x:=λ e=>hj (II hN e1 (e▸hi));simp [this,e]
        · exact .inr ⟨k,c,e,z.sameBut hs (cne y c e)⟩
    · obtain ⟨w',z⟩:=I.cell y c e;exact ⟨w',z.sameBut hs (cne y c e)⟩
    · obtain ⟨e,n,ne,nf,d⟩:=I.pin p hp;exact ⟨(hs.2 p.1 ne).trans e,n,ne,nf,d⟩
  · have hfn:X.fn x=true:=by
      rcases hf with z | z
      · exact z
      · rw [z] at hk;cases hk
    obtain ⟨c,hc⟩:=I.ok.has x (.inl hk);obtain ⟨w',z⟩:=I.cell x c hc;refine wpAny_storeName_cell I.ok.kind hk hc z (λ h' hc' hs=> ?_);obtain ⟨oc,hoc,hocd⟩:=id z;refine h { s with heap:=h' } ⟨I.ok,I.os,I.bare,⟨λ b o e n hb hx=> ?_,λ b o e n hb hx=> ?_,I.base.free,λ b o e hx=> ?_,I.base.tups,I.base.frzs,I.base.tbls⟩,⟨m,hn.sameBut hs (Ne.symm (cne x c hc)),λ j y v' e1 e2 e3=> ?_⟩,λ y c' e=> ?_,I.free,I.freeC,λ p hp=> ?_,tracked ⟨oc,hoc,I.freeC x c hc⟩ hs,by simpa using I.len⟩ ⟨c,hs, .inr hc⟩
    · exact (hs.2 b (Nat.ne_of_lt (Nat.lt_of_lt_of_le (Heap.lt_size e) (I.ok.cab x c hfn hc)))).trans (I.base.keep b o e n hb hx)
    · obtain ⟨sl,e1⟩:=I.base.slot b o e n hb hx;exact ⟨sl,(hs.2 b (Nat.ne_of_lt (Nat.lt_of_lt_of_le (Heap.lt_size e) (I.ok.cab x c hfn hc)))).trans e1⟩
    · obtain ⟨o',e1⟩:=I.base.there b o e hx;exact ⟨o',(hs.2 b (Nat.ne_of_lt (Nat.lt_of_lt_of_le (Heap.lt_size e) (I.ok.cab x c hfn hc)))).trans e1⟩
    · by_cases hj:j=i
      · subst hj;rw [hi] at e1;cases e1;rw [List.getElem?_set_self hiσ] at e2;cases e2;exact ⟨u,r, .inr ⟨.inl hk,c,hc,hc'⟩⟩
      · rw [List.getElem?_set_ne (Ne.symm hj)] at e2;obtain ⟨u',r',q⟩:=hl j y v' e1 e2 e3;refine ⟨u',r',?_⟩;rcases q with q | ⟨k,c',e,z'⟩
        · exact .inl q
        · refine .inr ⟨k,c',e,z'.sameBut hs ?_⟩;rintro rfl;exact hj (II hN e1 (I.ok.inj _ _ _ e hc▸hi))
    · by_cases hcc:c'=c
      · subst hcc;exact ⟨_,hc'⟩
      · obtain ⟨w2,z2⟩:=I.cell y c' e;exact ⟨w2,z2.sameBut hs hcc⟩
    · obtain ⟨e,n,ne,nf,d⟩:=I.pin p hp;refine ⟨(hs.2 p.1 ?_).trans e,n,ne,nf,d⟩;intro q;rw [q,hoc] at e;have q':oc=p.2:=Option.some.inj e;exact d w' (by rw [<-q'];exact hocd)
theorem CI {M:Model} {A:Around} {E:Value->Shared->Prop} {i:Nat} {x:Str} {v:V} {u:Value} {Q:Unit->Shared->Prop} (I:Inv X pins σ H s) (hN:X.N.Nodup) (hi:X.N[i]?=some x) (hx:Loc X.env.scope x) (r:RelV v u)
    (h:∀ s',Inv X pins (σ.set i (some v)) H s'->Q () s') (hf:X.fn x=true\/X.env.scope.names.lookup x=some .local:=by first | exact .inl rfl | exact .inr rfl | assumption):wpAny M A (storeName X.env x u) Q E s:=
  Lz I hN hi hx r (λ s' I' _=>h s' I') hf
theorem Inv.call' {s':Shared} {ch:List Addr} (I:Inv X pins σ H s) (ho:s'.os=s.os) (u:Un (frs X.stack) ch H H' s.heap s'.heap) (hok:HOk X.prog X.w H' s'.heap) (hg:AllBare s'.gens)
    (hch:∀ b∈ch,(b∈X.ex\/X.s₀.heap.objs.size<=b)/\b≠X.env.locals/\(∀ x c,X.env.cells.lookup x=some c->c≠b)/\∀ p∈X.pn++pins,p.1≠b):Inv X pins σ H' s':=by
  obtain ⟨h',g',d',t',o'⟩:=s';have e:o'=s.os:=ho;subst e;exact I.call (g':=g') (t':=t') (d':=d') u hok hg hch
end
abbrev XK:=Value->Option Addr->Hp->Prop
abbrev St:=List (Option V)
abbrev VK:=V->Hp->Prop
abbrev TE:=St->Hp->VK->Prop
abbrev TT:=St->Hp->(Bool->Hp->Prop)->Prop
abbrev TA:=St->Hp->(List V->Hp->Prop)->Prop
structure Ends where
  nx:St->Hp->Prop
  rt:VK
  bk:St->Hp->Prop:=λ _ _=>False
  ct:St->Hp->Prop:=λ _ _=>False
abbrev TS:=Ends->St->Hp->Prop
def EP (X:Cx) (pins:List (Addr × Obj)) (σ:St) (Q:VK) (u:Value) (s':Shared):Prop:=∃ v H',Inv X pins σ H' s'/\RelV v u/\Q v H'
def TP (X:Cx) (pins:List (Addr × Obj)) (σ:St) (Q:Bool->Hp->Prop) (b:Bool) (s':Shared):Prop:=∃ H',Inv X pins σ H' s'/\Q b H'
def AP (X:Cx) (pins:List (Addr × Obj)) (σ:St) (Q:List V->Hp->Prop) (us:List Value) (s':Shared):Prop:=∃ vs H',Inv X pins σ H' s'/\Vals vs us/\Q vs H'
def SP (X:Cx) (pins:List (Addr × Obj)) (D:Ends) (f:Flow) (s':Shared):Prop:=
  match f with
  | .next=>∃ σ' H',Inv X pins σ' H' s'/\D.nx σ' H'
  | .brk=>∃ σ' H',Inv X pins σ' H' s'/\D.bk σ' H'
  | .cont=>∃ σ' H',Inv X pins σ' H' s'/\D.ct σ' H'
  | .ret u=>∃ v σ' H',Inv X pins σ' H' s'/\RelV v u/\D.rt v H'
def PE (X:Cx) (e:Expr) (t:TE):Prop:=
  ∀ (pins:List (Addr × Obj)) (s:Shared) (σ:St) (H:Hp) (Q:VK),Inv X pins σ H s->t σ H Q->wpAny (model X.prog X.w) X.A (eval e X.env) (EP X pins σ Q) X.xe s
def PT (X:Cx) (e:Expr) (t:TT):Prop:=
  ∀ (pins:List (Addr × Obj)) (s:Shared) (σ:St) (H:Hp) (Q:Bool->Hp->Prop),Inv X pins σ H s->t σ H Q->wpAny (model X.prog X.w) X.A (isTrue e X.env (eval e X.env)) (TP X pins σ Q) X.xe s
def PW (X:Cx) (e:Expr) (t:TT):Prop:=
  ∀ (whole:Sem Value) (pins:List (Addr × Obj)) (s:Shared) (σ:St) (H:Hp) (Q:Bool->Hp->Prop),Inv X pins σ H s->t σ H Q->wpAny (model X.prog X.w) X.A (isTrue e X.env whole) (TP X pins σ Q) X.xe s
theorem PW.pt {X:Cx} {e:Expr} {t:TT} (h:PW X e t):PT X e t:=h _
def PA (X:Cx) (es:List Expr) (t:TA):Prop:=
  ∀ (pos:Pos) (pins:List (Addr × Obj)) (s:Shared) (σ:St) (H:Hp) (Q:List V->Hp->Prop),Inv X pins σ H s->t σ H Q->wpAny (model X.prog X.w) X.A (spliced (backTo pos (starEach es X.env))) (AP X pins σ Q) X.xe s
def PS (X:Cx) (st:Stmt) (t:TS):Prop:=
  ∀ (pins:List (Addr × Obj)) (s:Shared) (σ:St) (H:Hp) (D:Ends),Inv X pins σ H s->t D σ H->wpAny (model X.prog X.w) X.A (exec st X.env) (SP X pins D) X.xe s
def PSs (X:Cx) (st:List Stmt) (t:TS):Prop:=
  ∀ (pins:List (Addr × Obj)) (s:Shared) (σ:St) (H:Hp) (D:Ends),Inv X pins σ H s->t D σ H->wpAny (model X.prog X.w) X.A (execs st X.env) (SP X pins D) X.xe s
theorem thn {α:Type} {t:Sem α} {Q Q':α->Shared->Prop} {M:Model} {A:Around} {E:Value->Shared->Prop} {s:Shared} (h:wpAny M A t Q E s) (hQ:∀ a s,Q a s->Q' a s):wpAny M A t Q' E s:=wpAny_mono h hQ λ _ _ x=>x
section
variable {X:Cx}
theorem bin {a b:Expr} {ta tb:TE} (ha:PE X a ta) (hb:PE X b tb) {pins:List (Addr × Obj)} {s:Shared} {σ:St} {H:Hp} {R:V->V->Hp->Prop} (I:Inv X pins σ H s) (h:ta σ H λ x H1=>tb σ H1 λ y H2=>R x y H2)
    {α:Type} {Q:α->Shared->Prop} {f:Value->Value->Sem α}
    (hf:∀ v u s2 x y H2,Inv X pins σ H2 s2->RelV x v->RelV y u->R x y H2->wpAny (model X.prog X.w) X.A (f v u) Q X.xe s2):
    wpAny (model X.prog X.w) X.A (eval a X.env) (λ v s₁=>wpAny (model X.prog X.w) X.A (eval b X.env) (λ u s₂=>wpAny (model X.prog X.w) X.A (f v u) Q X.xe s₂) X.xe s₁) X.xe s:=by
  refine thn (ha pins s σ H _ I h) λ v s1 ⟨x,H1,I1,r1,q1⟩=> ?_;refine thn (hb pins s1 σ H1 _ I1 q1) λ u s2 ⟨y,H2,I2,r2,q2⟩=> ?_;exact hf v u s2 x y H2 I2 r1 r2 q2
def MR (i:Nat):TE:=λ σ H Q=>∃ v,σ[i]?=some (some v)/\Q v H
def tC (v:V):TE:=λ _ H Q=>Q v H
theorem RD {i:Nat} {x:Str} {pos:Pos} (hN:X.N[i]?=some x) (hv:Vis X.env.scope x) (hd:(x == ("__debug__":Str))=false:=by decide) (hcd:(x == ("__classdict__":Str))=false:=by decide):PE X (.Name x pos) (MR i):=by
  intro pins s σ H Q I h;obtain ⟨v,e,h⟩:=h;obtain ⟨m,hn,hl⟩:=I.loc;obtain ⟨u,r,l⟩:=hl i x v hN e hv;have fin:EP X pins σ Q u s:=⟨v,H,I,r,h⟩;rcases l with ⟨hk,hm⟩ | ⟨hk,c,hc,hcell⟩
  · exact wpAny_Name (wpAny_loadName_local I.ok.kind hk hn hm fin) hd
  · rcases hk with hk | hk
    · exact wpAny_Name (wpAny_loadName_cell I.ok.kind hk hc hcell fin) hd
    · exact wpAny_Name (wpAny_loadName_free I.ok.kind hk hc hcell fin hcd) hd
theorem Ac {i j pos}:PE X (.Constant (.int i) j pos) (tC (.int i)):=λ _ _ _ H _ I h=>wpAny_Constant_int ⟨.int i,H,I.tok _,⟨_,rfl⟩,h⟩
theorem Eg {b j pos}:PE X (.Constant (.bool b) j pos) (tC (.bl b)):=λ _ _ _ H _ I h=>Constant_bool ⟨.bl b,H,I,rfl,h⟩
theorem QV {j pos}:PE X (.Constant .none j pos) (tC .non):=λ _ _ _ H _ I h=>Constant_none ⟨.non,H,I,rfl,h⟩
theorem Fm {x j pos}:PE X (.Constant (.str x) j pos) (tC (.str x)):=λ _ _ _ H _ I h=>Calls.Constant_str ⟨.str x,H,I.tok _,⟨_,rfl⟩,h⟩
def Gl (X:Cx) (x:Str):Prop:=X.env.kindOf x=some .globalImplicit
theorem Io {E:Value->Shared->Prop} {pins:List (Addr × Obj)} {s:Shared} {σ:St} {H:Hp} {x:Str} {u:Value} {pos:Pos} {Q:Value->Shared->Prop} (I:Inv X pins σ H s) (hg:Gl X x) (hm:X.mg x=some u) (h:Q u s)
    (hd:(x == ("__debug__":Str))=false:=by decide):wpAny (model X.prog X.w) X.A (eval (.Name x pos) X.env) Q E s:=
  Calls.Name_function_global I.ok.kind hg (Calls.loadGlobal_global (by rw [I.ok.glob];exact I.mod.glob.keeps I.bk) hm h) hd
theorem CD {E:Value->Shared->Prop} {pins:List (Addr × Obj)} {s:Shared} {σ:St} {H:Hp} {x:Str} {u:Value} {pos:Pos} {Q:Value->Shared->Prop} (I:Inv X pins σ H s) (hg:Gl X x) (hm:X.mg x=none) (hv:bootBuiltins x=some u) (h:Q u s)
    (hn:x≠"__name__":=by decide) (hd:(x == ("__debug__":Str))=false:=by decide):wpAny (model X.prog X.w) X.A (eval (.Name x pos) X.env) Q E s:=by
  obtain ⟨mb,h1,h2⟩:=I.mod.blt;exact Calls.Name_function_global I.ok.kind hg (Calls.loadGlobal_builtin (by rw [I.ok.glob];exact I.mod.glob.keeps I.bk) hm (by rw [I.ok.blt];exact h1.keeps I.bk) ((h2 x hn).trans hv) h) hd
theorem KU {x:Str} {v:V} {u:Value} {pos:Pos} (hg:Gl X x) (hm:X.mg x=some u) (r:RelV v u) (hd:(x == ("__debug__":Str))=false:=by decide):PE X (.Name x pos) (tC v):=
  λ _ _ _ H _ I h=>Io I hg hm ⟨v,H,I,r,h⟩ hd
theorem O5 {x:Str} {v:V} {u:Value} {pos:Pos} (hg:Gl X x) (hm:X.mg x=none) (hv:bootBuiltins x=some u) (r:RelV v u) (hn:x≠"__name__":=by decide) (hd:(x == ("__debug__":Str))=false:=by decide):PE X (.Name x pos) (tC v):=
  λ _ _ _ H _ I h=>CD I hg hm hv ⟨v,H,I,r,h⟩ hn hd
variable {a b:Expr} {ta tb:TE} {pos:Pos}
def PC (X:Cx) (op:CmpOp) (a b:Expr) (t:TE):Prop:=
  ∀ (pins:List (Addr × Obj)) (s:Shared) (σ:St) (H:Hp) (Q:VK),Inv X pins σ H s->t σ H Q->
    wpAny (model X.prog X.w) X.A (eval a X.env) (λ v s₁=>wpAny (model X.prog X.w) X.A (eval b X.env) (λ u s₂=>wpAny (model X.prog X.w) X.A (compareOp op v u) (EP X pins σ Q) X.xe s₂) X.xe s₁) X.xe s
theorem Nk (b:Expr) {op:CmpOp} (h:op≠ .In) (h2:op≠ .NotIn):behindInMarks op b=false:=by
  have e1:(op == CmpOp.In)=false:=by cases op <;> first | rfl | exact absurd rfl h
  have e2:(op == CmpOp.NotIn)=false:=by cases op <;> first | rfl | exact absurd rfl h2
  cases b <;> simp [behindInMarks,e1,e2]
def tB (t:TE):TT:=λ σ H Q=>t σ H λ x H1=>∃ c,x= .bl c/\Q c H1
theorem NB {op:CmpOp} {t:TE} (h:PC X op a b t) (h1:behindInMarks op b=false:=by first | exact Nk _ (by decide) (by decide) | rfl):PT X (.Compare a [op] [b] pos) (tB t):=by
  intro pins s σ H Q I hw;refine wpAny_isTrue_Compare1 (thn (h pins s σ H _ I hw) λ v s1 h1=>thn h1 λ u s2 h2=>thn h2 λ c s3 ⟨x,H1,I1,r1,q1⟩=> ?_) h1;obtain ⟨d,rfl,q⟩:=q1;cases r1;exact wpAny_truthy_bool ⟨H1,I1,q⟩
theorem AZ {e:Expr} {t:TE} (h:PE X e t) (he:∀ whole,isTrue e X.env whole=(do let v <-whole;standAt e.pos;holding [v] (truthy v)):=by intro _;rfl):PT X e (tB t):=by
  intro pins s σ H Q I hw;refine isTrue_plain (thn (h pins s σ H _ I hw) λ v s1 ⟨x,H1,I1,r1,q1⟩=> ?_) (he _);obtain ⟨d,rfl,q⟩:=q1;cases r1;exact wpAny_truthy_bool ⟨H1,I1,q⟩
variable {tA tB':TT} {BH:List Expr}
def Vd (t u:TT):TT:=λ σ H Q=>t σ H λ c H1=>if c=true then u σ H1 Q else Q false H1
def tOr (t u:TT):TT:=λ σ H Q=>t σ H λ c H1=>if c=true then Q true H1 else u σ H1 Q
def UK (t:TT):TT:=λ σ H Q=>t σ H λ c H1=>Q (!c) H1
theorem Ld (ha:PT X a tA):PW X (.BoolOp .And [a] pos) tA:=by
  intro wh pins s σ H Q I h;refine isTrue_and (thn (ha pins s σ H Q I h) λ c s1 e=> ?_);cases c with
  | true=>exact isTrue_and_nil e
  | false=>exact e
theorem DJ (ha:PT X a tA):PW X (.BoolOp .Or [a] pos) tA:=by
  intro wh pins s σ H Q I h;refine isTrue_or (thn (ha pins s σ H Q I h) λ c s1 e=> ?_);cases c with
  | false=>exact isTrue_or_nil e
  | true=>exact e
theorem MS (ha:PT X a tA) (hb:PW X (.BoolOp .And (b::BH) pos) tB'):PW X (.BoolOp .And (a::b::BH) pos) (Vd tA tB'):=by
  intro wh pins s σ H Q I h;refine isTrue_and (thn (ha pins s σ H _ I h) λ c s1 ⟨H1,I1,q1⟩=> ?_);cases c with
  | true=>exact hb wh pins s1 σ H1 Q I1 q1
  | false=>exact ⟨H1,I1,q1⟩
theorem Ft (ha:PT X a tA) (hb:PW X (.BoolOp .Or (b::BH) pos) tB'):PW X (.BoolOp .Or (a::b::BH) pos) (tOr tA tB'):=by
  intro wh pins s σ H Q I h;refine isTrue_or (thn (ha pins s σ H _ I h) λ c s1 ⟨H1,I1,q1⟩=> ?_);cases c with
  | true=>exact ⟨H1,I1,q1⟩
  | false=>exact hb wh pins s1 σ H1 Q I1 q1
theorem BA (ha:PT X a tA):PT X (.UnaryOp .Not a pos) (UK tA):=by
  intro pins s σ H Q I h;exact isTrue_not (ha pins s σ H (λ c H1=>Q (!c) H1) I h)
def PY (ta tb:TE):TE:=λ σ H Q=>ta σ H λ x H1=>∃ c,x= .bl c/\if c=true then tb σ H1 Q else Q (.bl false) H1
def P8 (ta:TE):TE:=λ σ H Q=>ta σ H λ x H1=>∃ c,x= .bl c/\Q (.bl (!c)) H1
theorem GH {op} {t:TE} (h:PE X a t):PE X (.BoolOp op [a] pos) t:=λ pins s σ H Q I hw=>BoolOp_one (h pins s σ H Q I hw)
theorem GK (ha:PE X a ta) (hb:PE X (.BoolOp .And (b::BH) pos) tb):PE X (.BoolOp .And (a::b::BH) pos) (PY ta tb):=by
  intro pins s σ H Q I h;refine BoolOp_and (thn (ha pins s σ H _ I h) λ v s1 ⟨x,H1,I1,r1,q1⟩=> ?_);obtain ⟨c,rfl,q1⟩:=q1;cases r1;refine wpAny_truthy_bool ?_;cases c with
  | true=>exact hb pins s1 σ H1 Q I1 q1
  | false=>exact ⟨.bl false,H1,I1,rfl,q1⟩
theorem Qt (ha:PE X a ta):PE X (.UnaryOp .Not a pos) (P8 ta):=by
  intro pins s σ H Q I h;refine UnaryOp_ (thn (ha pins s σ H _ I h) λ v s1 ⟨x,H1,I1,r1,q1⟩=> ?_);obtain ⟨c,rfl,q1⟩:=q1;cases r1;exact not_of (wpAny_truthy_bool ⟨.bl (!c),H1,I1,rfl,q1⟩)
def tIf (t:TT) (ta tb:TE):TE:=λ σ H Q=>t σ H λ c H1=>if c=true then ta σ H1 Q else tb σ H1 Q
theorem NG {c:Expr} (hc:PT X c tA) (ha:PE X a ta) (hb:PE X b tb):PE X (.IfExp c a b pos) (tIf tA ta tb):=by
  intro pins s σ H Q I h;refine wpAny_IfExp (thn (hc pins s σ H _ I h) λ d s1 ⟨H1,I1,q1⟩=> ?_);cases d with
  | true=>exact ha pins s1 σ H1 Q I1 q1
  | false=>exact hb pins s1 σ H1 Q I1 q1
end
def SqL (K:PySem.W.Frag) (H:Hp) (a:Addr) (xs:List V):Prop:=
  Rd H a (.lst xs)\/
    ∃ (o:Obj) (its:Array Value) (n:Nat),K.lookup a=some o/\o.cls= .type "list"/\o.dict=none/\o.data= .seq its n/\its.size<=sizeLine/\Vals xs its.toList
def SqT (K:PySem.W.Frag) (H:Hp) (a:Addr) (xs:List V):Prop:=
  Rd H a (.tup xs)\/
    ∃ (o:Obj) (its:Array Value) (n:Nat),K.lookup a=some o/\o.cls= .type "tuple"/\o.data= .seq its n/\its.size<=sizeLine/\Vals xs its.toList
def Wn:Value->Option V
  | .none=>some .non
  | .bool b=>some (.bl b)
  | .int i _=>some (.int i)
  | .str x _=>some (.str x)
  | .bytes b _=>some (.byt b)
  | .float b _=>some (.flt b)
  | .ref a=>some (.ref a)
  | .type n=>some (.ty n)
  | _=>none
theorem RelV.abs {x:V} {u:Value} (r:RelV x u):Wn u=some x:=by
  cases x with
  | non=>cases r;rfl
  | bl _=>cases r;rfl
  | int _=>obtain ⟨t,rfl⟩:=r;rfl
  | str _=>obtain ⟨t,rfl⟩:=r;rfl
  | byt _=>obtain ⟨t,rfl⟩:=r;rfl
  | flt _=>obtain ⟨t,rfl⟩:=r;rfl
  | ref _=>cases r;rfl
  | ty _=>cases r;rfl
theorem RelV.inj {x y:V} {u:Value} (r:RelV x u) (q:RelV y u):x=y:=Option.some.inj (r.abs.symm.trans q.abs)
theorem Vals.inj:∀ {xs ys:List V} {us:List Value},Vals xs us->Vals ys us->xs=ys
  | _,_,_, .nil, .nil=>rfl
  | _,_,_, .cons r t, .cons r' t'=>by rw [r.inj r',Vals.inj t t']
section
variable {X:Cx} {pins:List (Addr × Obj)} {σ:St} {H:Hp} {s:Shared} {a:Addr} {xs ys:List V}
theorem SqL.of {K:PySem.W.Frag} (h:H a=some (.lst xs)):SqL K H a xs:= .inl (.inl h)
theorem SqT.of {K:PySem.W.Frag} (h:H a=some (.tup xs)):SqT K H a xs:= .inl (.inl h)
theorem Inv.list (I:Inv X pins σ H s) (h:SqL X.K H a xs):∃ its:List Value,Vals xs its/\PlainL s.heap a its.toArray/\xs.length<=sizeLine:=by
  rcases h with h | ⟨o,its,n,hk,hc,hd,hs,hz,r⟩
  · obtain ⟨z,its,n,r,e⟩:=h.ok I.hok;exact ⟨its,r,⟨_,n,e,rfl,rfl,rfl⟩,z⟩
  · refine ⟨its.toList,r,⟨o,n,I.kIn a o hk,hc,hd,by simpa using hs⟩,?_⟩;have e:=r.length;simp only [Array.length_toList] at e;omega
theorem Inv.tuple (I:Inv X pins σ H s) (h:SqT X.K H a xs):∃ its:List Value,Vals xs its/\IsTup s.heap a its.toArray/\xs.length<=sizeLine:=by
  rcases h with h | ⟨o,its,n,hk,hc,hs,hz,r⟩
  · obtain ⟨z,its,r,p⟩:=h.ok I.hok;exact ⟨its,r,p,z⟩
  · refine ⟨its.toList,r,⟨o,I.kIn a o hk,hc,n,by simpa using hs⟩,?_⟩;have e:=r.length;simp only [Array.length_toList] at e;omega
theorem Inv.list_inj (I:Inv X pins σ H s) (h:SqL X.K H a xs) (h':SqL X.K H a ys):xs=ys:=by
  obtain ⟨its,r,⟨o,n,e,_,_,d⟩,_⟩:=I.list h;obtain ⟨its',r',⟨o',n',e',_,_,d'⟩,_⟩:=I.list h';rw [e] at e';cases e';rw [d] at d';injection d' with d1 _;have:its=its':=by simpa using congrArg Array.toList d1
  subst this;exact r.inj r'
theorem Inv.tuple_inj (I:Inv X pins σ H s) (h:SqT X.K H a xs) (h':SqT X.K H a ys):xs=ys:=by
  obtain ⟨its,r,⟨o,e,_,n,d⟩,_⟩:=I.tuple h;obtain ⟨its',r',⟨o',e',_,n',d'⟩,_⟩:=I.tuple h';rw [e] at e';cases e';rw [d] at d';injection d' with d1 _;have:its=its':=by simpa using congrArg Array.toList d1
  subst this;exact r.inj r'
end
abbrev Cx.wish (X:Cx) (E:Value->Shared->Prop):Cx:={ X with xe:=E }
abbrev Cx.nox (X:Cx):Cx:=X.wish λ _ _=>False
theorem Cx.Ok.wish {X:Cx} (ok:X.Ok) (E:Value->Shared->Prop):(X.wish E).Ok:=
  ⟨ok.mod,ok.kind,ok.glob,ok.blt,ok.above,ok.inj,ok.has,ok.cab,ok.hd,ok.frames,ok.stk,ok.exf,ok.bs,ok.bsz,ok.noex,ok.exfs,ok.funs,ok.frf⟩
theorem Cx.Ok.unwish {X:Cx} {E:Value->Shared->Prop} (ok:(X.wish E).Ok):X.Ok:=
  ⟨ok.mod,ok.kind,ok.glob,ok.blt,ok.above,ok.inj,ok.has,ok.cab,ok.hd,ok.frames,ok.stk,ok.exf,ok.bs,ok.bsz,ok.noex,ok.exfs,ok.funs,ok.frf⟩
section
variable {X:Cx} {pins:List (Addr × Obj)} {σ:St} {H:Hp} {s:Shared} {E:Value->Shared->Prop}
theorem Inv.wish (I:Inv X pins σ H s) (E:Value->Shared->Prop):Inv (X.wish E) pins σ H s:=⟨I.ok.wish E,I.os,I.bare,I.base,I.loc,I.cell,I.free,I.freeC,I.pin,I.hok,I.len⟩
theorem Inv.unwish (I:Inv (X.wish E) pins σ H s):Inv X pins σ H s:=⟨I.ok.unwish,I.os,I.bare,I.base,I.loc,I.cell,I.free,I.freeC,I.pin,I.hok,I.len⟩
theorem SP.unwish {D:Ends} {f:Flow} {s':Shared} (h:SP (X.wish E) pins D f s'):SP X pins D f s':=by
  cases f with
  | next=>obtain ⟨σ',H',I,q⟩:=h;exact ⟨σ',H',I.unwish,q⟩
  | brk=>obtain ⟨σ',H',I,q⟩:=h;exact ⟨σ',H',I.unwish,q⟩
  | cont=>obtain ⟨σ',H',I,q⟩:=h;exact ⟨σ',H',I.unwish,q⟩
  | ret u=>obtain ⟨v,σ',H',I,r,q⟩:=h;exact ⟨v,σ',H',I.unwish,r,q⟩
theorem PSs.nox {st:List Stmt} {t:TS} (h:PSs X.nox st t):PSs X st t:=λ pins s σ H D I hw=>
  wpAny_mono (h pins s σ H D (I.wish _) hw) (λ _ _ q=>q.unwish) λ _ _ z=>False.elim z
end
section
variable {X:Cx} {st:Stmt} {BH:List Stmt} {t u:TS} {e:Expr} {te:TE} {pos:Pos}
def Mm:TS:=λ D σ H=>D.nx σ H
def Ss (t u:TS):TS:=λ D σ H=>t { D with nx:=u D } σ H
theorem AF:PSs X [] Mm:=λ _ _ σ H _ I h=>wpAny_execs_nil ⟨σ,H,I,h⟩
theorem Ad (h1:PS X st t) (h2:PSs X BH u):PSs X (st::BH) (Ss t u):=by
  intro pins s σ H D I h;refine wpAny_execs_cons (thn (h1 pins s σ H { D with nx:=u D } I h) λ f s1 q=> ?_);cases f with
  | next=>
    obtain ⟨σ',H',I',q⟩:=q;exact h2 pins s1 σ' H' D I' q
  | ret v=>exact q
  | brk=>exact q
  | cont=>exact q
theorem Ag (h1:PS X st t):PSs X [st] t:=by
  intro pins s σ H D I h;refine wpAny_execs_cons (thn (h1 pins s σ H D I h) λ f s1 q=> ?_);cases f with
  | next=>exact wpAny_execs_nil q
  | ret v=>exact q
  | brk=>exact q
  | cont=>exact q
theorem Inv.quiet {pins:List (Addr × Obj)} {σ:St} {H:Hp} {s:Shared} (I:Inv X pins σ H s):interactive X.env=false:=by simp [interactive,I.ok.kind]
def Nx (te:TE):TS:=λ D σ H=>te σ H λ _ H1=>D.nx σ H1
theorem BC (he:PE X e te) (hs:swapsWith e none pos.line X.env=pure false:=by rfl):PS X (.Expr e pos) (Nx te):=by
  intro pins s σ H D I h;exact wpAny_Expr_any (thn (he pins s σ H _ I h) λ v s1 ⟨x,H1,I1,r1,q1⟩=>⟨σ,H1,I1,q1⟩) I.quiet hs
def Tn (te:TE):TS:=λ D σ H=>te σ H D.rt
theorem Ap (he:PE X e te):PS X (.Return (some e) pos) (Tn te):=by
  intro pins s σ H D I h;exact wpAny_Return_some (thn (he pins s σ H _ I h) λ v s1 ⟨x,H1,I1,r1,q1⟩=>⟨x,σ,H1,I1,r1,q1⟩)
def Qc (c:TT) (t u:TS):TS:=λ D σ H=>c σ H λ b H1=>if b=true then t D σ H1 else u D σ H1
theorem Bh {c:Expr} {a b:List Stmt} {tc:TT} (hc:PT X c tc) (ha:PSs X a t) (hb:PSs X b u):PS X (.If c a b pos) (Qc tc t u):=by
  intro pins s σ H D I h;refine wpAny_If (thn (hc pins s σ H _ I h) λ d s1 ⟨H1,I1,q1⟩=> ?_);cases d with
  | true=>exact ha pins s1 σ H1 D I1 q1
  | false=>exact hb pins s1 σ H1 D I1 q1
def QY:TS:=λ _ _ _=>False
theorem F4:PS X st QY:=λ _ _ _ _ _ _ h=>h.elim
end
abbrev TG:=V->St->Hp->(St->Hp->Prop)->Prop
abbrev TGs:=List V->St->Hp->(St->Hp->Prop)->Prop
def PG (X:Cx) (target:Expr) (t:TG):Prop:=
  ∀ (pins:List (Addr × Obj)) (s:Shared) (σ:St) (H:Hp) (v:V) (u:Value) (Q:St->Hp->Prop),Inv X pins σ H s->RelV v u->t v σ H Q->
    wpAny (model X.prog X.w) X.A (assign target X.env u) (λ _ s'=>∃ σ' H',Inv X pins σ' H' s'/\Q σ' H') X.xe s
def PGs (X:Cx) (ts:List Expr) (t:TGs):Prop:=
  ∀ (pins:List (Addr × Obj)) (s:Shared) (σ:St) (H:Hp) (vs:List V) (us:List Value) (Q:St->Hp->Prop),Inv X pins σ H s->Vals vs us->t vs σ H Q->
    wpAny (model X.prog X.w) X.A (assignInOrder ((assignEach ts X.env).map (·.2)) us) (λ _ s'=>∃ σ' H',Inv X pins σ' H' s'/\Q σ' H') X.xe s
abbrev Pf:=V->V->V->Hp->(Hp->Prop)->Prop
def To (X:Cx) (t:Pf):Prop:=
  ∀ (pins:List (Addr × Obj)) (s:Shared) (σ:St) (H:Hp) (o i v:V) (ov iv u:Value) (Q:Hp->Prop),Inv X pins σ H s->RelV o ov->RelV i iv->RelV v u->t o i v H Q->
    wpAny (model X.prog X.w) X.A (setItem ov iv u) (λ _ s'=>∃ H',Inv X pins σ H' s'/\Q H') X.xe s
abbrev TIp:=V->V->Hp->VK->Prop
def PIp (X:Cx) (op:Operator) (t:TIp):Prop:=
  ∀ (pins:List (Addr × Obj)) (s:Shared) (σ:St) (H:Hp) (x y:V) (v u:Value) (Q:VK),Inv X pins σ H s->RelV x v->RelV y u->t x y H Q->
    wpAny (model X.prog X.w) X.A (inplaceOp op v u) (EP X pins σ Q) X.xe s
section
variable {X:Cx} {pos:Pos}
def AG (i:Nat):TG:=λ v σ H Q=>Q (σ.set i (some v)) H
theorem As {i:Nat} {x:Str} (hN:X.N.Nodup) (hi:X.N[i]?=some x) (hx:Loc X.env.scope x) (hf:X.fn x=true\/X.env.scope.names.lookup x=some .local:=by first | exact .inl rfl | exact .inr rfl | assumption):PG X (.Name x pos) (AG i):=by
  intro pins s σ H v u Q I r h;exact wpAny_assign_Name (CI I hN hi hx r (λ s' I'=>⟨_,H,I',h⟩) hf)
def G3:TGs:=λ vs σ H Q=>vs=[]/\Q σ H
def BE (t:TG) (u:TGs):TGs:=λ vs σ H Q=>∃ v r,vs=v::r/\t v σ H λ σ' H'=>u r σ' H' Q
theorem DU:PGs X [] G3:=by
  intro pins s σ H vs us Q I r h;obtain ⟨e,h⟩:=h;subst e;cases r;exact assignInOrder_nil ⟨σ,H,I,h⟩
theorem A3 {e:Expr} {es:List Expr} {t:TG} {u:TGs} (h1:PG X e t) (h2:PGs X es u)
    (hs:(assignEach (e::es) X.env).map (·.2)=assign e X.env::(assignEach es X.env).map (·.2):=by rfl):PGs X (e::es) (BE t u):=by
  intro pins s σ H vs us Q I r h;obtain ⟨v,vr,e1,h⟩:=h;subst e1;cases r with
  | cons r rr=>
    rw [hs];refine assignInOrder_cons (thn (h1 pins s σ H _ _ _ I r h) λ _ s1 ⟨σ1,H1,I1,q1⟩=> ?_);exact h2 pins s1 σ1 H1 _ _ Q I1 rr q1
def GE (K:PySem.W.Frag) (n:Nat) (t:TGs):TG:=λ v σ H Q=>∃ a xs,v= .ref a/\SqT K H a xs/\xs.length=n/\t xs σ H Q
theorem M0 {es:List Expr} {k:Nat} {t:TGs} {n:Nat} (hc:X.calm=true) (h:PGs X es t)
    (hn:(assignEach es X.env).length=n:=by rfl) (hst:(assignEach es X.env).findIdx? (·.1)=none:=by rfl):PG X (.Tuple es k pos) (GE X.K n t):=by
  intro pins s σ H v u Q I r hw;obtain ⟨a,xs,e1,hq,hl,hw⟩:=hw;subst e1;cases r;obtain ⟨its,rv,ht,hz⟩:=I.tuple hq;refine assign_Tuple_tuple (I.ok.hd hc) ht (by simp [hn, <-hl,rv.length]) hst λ h' hx=> ?_;have I1:Inv X pins σ H { s with heap:=h' }:=I.kept (t':=s.toks) λ b o e=>hx b o (Nat.ne_of_lt (Heap.lt_size e)) e;exact h pins _ σ H xs _ Q I1 (by simpa using rv) hw
def Tw (to ti:TE) (t:Pf):TG:=λ v σ H Q=>to σ H λ o H1=>ti σ H1 λ i H2=>t o i v H2 λ H3=>Q σ H3
theorem Rb {o i:Expr} {to ti:TE} {t:Pf} (ho:PE X o to) (hi:PE X i ti) (hs:To X t)
    (ha:∀ v,assign (.Subscript o i pos) X.env v=(do
      let ov <-holding [v] (eval o X.env);let iv <-holding [v,ov] (eval i X.env)
      standAt pos
      holding [v,ov,iv] (setItem ov iv v)
      release [v,ov,iv] []):=by intro _;rfl):PG X (.Subscript o i pos) (Tw to ti t):=by
  intro pins s σ H v u Q I r h;rw [ha];refine wpAny_bind (wpAny_holding (thn (ho pins s σ H _ I h) λ ov s1 ⟨x,H1,I1,r1,q1⟩=> ?_));refine wpAny_bind (wpAny_holding (thn (hi pins s1 σ H1 _ I1 q1) λ iv s2 ⟨y,H2,I2,r2,q2⟩=> ?_));refine wpAny_bind (wpAny_standAt (wpAny_bind (wpAny_holding (thn (hs pins s2 σ H2 x y v ov iv u _ I2 r1 r2 r q2) λ _ s3 ⟨H3,I3,q3⟩=> ?_))));exact wpAny_release ⟨σ,H3,I3,q3⟩
def Ln (te:TE) (g:TG):TS:=λ D σ H=>te σ H λ x H1=>g x σ H1 D.nx
theorem Gg {tg e:Expr} {te:TE} {g:TG} (he:PE X e te) (hg:PG X tg g) (hs:swapsWithSole [tg] e pos.line X.env=pure false:=by rfl) (hw:swappedStores [tg] e X.env=pure none:=by rfl)
    (h1:(assignEach [tg] X.env).map (·.2)=[assign tg X.env]:=by rfl):PS X (.Assign [tg] e pos) (Ln te g):=by
  intro pins s σ H D I h;refine wpAny_Assign_stores (thn (he pins s σ H _ I h) λ v s1 ⟨x,H1,I1,r1,q1⟩=> ?_) hs hw;rw [h1];exact thn (hg pins s1 σ H1 x v _ I1 r1 q1) λ _ s2 q=>q
theorem Ao {i:Nat} {x:Str} {e:Expr} {te:TE} {pos':Pos} (hN:X.N.Nodup) (hi:X.N[i]?=some x) (hx:Loc X.env.scope x) (he:PE X e te) (hs:swapsWith e (some (.Name x pos')) pos.line X.env=pure false:=by rfl) (hf:X.fn x=true\/X.env.scope.names.lookup x=some .local:=by first | exact .inl rfl | exact .inr rfl | assumption):
    PS X (.Assign [.Name x pos'] e pos) (Ln te (AG i)):=by
  intro pins s σ H D I h;refine wpAny_Assign_Name (thn (he pins s σ H _ I h) λ v s1 ⟨y,H1,I1,r1,q1⟩=> ?_) hs;exact CI I1 hN hi hx r1 (λ s2 I2=>⟨_,H1,I2,q1⟩) hf
def VW (i j:Nat) (ta:TA):TS:=λ D σ H=>ta σ H λ vs H1=>∃ v w,vs=[v,w]/\D.nx ((σ.set i (some v)).set j (some w)) H1
theorem RM {i j:Nat} {x y:Str} {a b:Expr} {ta:TA} {px py pt:Pos} {kt k2 pt2} (hc:X.calm=true) (hN:X.N.Nodup) (hi:X.N[i]?=some x) (hj:X.N[j]?=some y) (hij:i≠j)
    (hx:X.env.scope.names.lookup x=some .local) (hy:X.env.scope.names.lookup y=some .local) (ha:PA X [a,b] ta)
    (hw:swappedStores [.Tuple [.Name x px, .Name y py] kt pt] (.Tuple [a,b] k2 pt2) X.env=pure (some [x,y]))
    (hs:swapsWithSole [.Tuple [.Name x px, .Name y py] kt pt] (.Tuple [a,b] k2 pt2) pos.line X.env=pure false:=by rfl):
    PS X (.Assign [.Tuple [.Name x px, .Name y py] kt pt] (.Tuple [a,b] k2 pt2) pos) (VW i j ta):=by
  intro pins s σ H D I h;rw [exec_Assign_arm];refine wpAny_bind (wpAny_standAt ?_);rw [hs];refine wpAny_bind (wpAny_pure ?_);rw [if_neg (by decide)];refine wpAny_bind (Tuple_ (thn (ha _ pins s σ H _ I h) λ us s1 ⟨vs,H1,I1,r1,q1⟩=> ?_));obtain ⟨v,w,e1,q1⟩:=q1;subst e1;obtain ⟨u1,u2,rfl,rv,rw'⟩:∃ u1 u2,us=[u1,u2]/\RelV v u1/\RelV w u2:=by
    cases r1 with
    | cons p q=>
      cases q with
      | cons p' q'=>
        cases q';exact ⟨_,_,rfl,p,p'⟩
  refine wpAny_newObj_type ?_ (by show 2<=sizeLine;decide);have I2:Inv X pins σ H1 { s1 with heap:=s1.heap.push { cls:= .type "tuple",data:= .seq [u1,u2].toArray } }:=I1.kept (t':=s1.toks) λ b o e=>Heap.get?_push_of_some _ e;rw [hw];refine wpAny_bind (wpAny_pure ?_);show wpAny (model X.prog X.w) X.A (do rule "assign.swapped-stores";let items <-unpackItems (.ref s1.heap.objs.size) 2 none;assignInOrder [λ v=>bindName X.env y v,λ v=>bindName X.env x v] items.reverse;pure Flow.next) _ _ _;refine wpAny_bind (wpAny_rule (wpAny_bind (unpackItems_tuple (items:= #[u1,u2]) (I.ok.hd hc) (IsTup.new s1.heap _) λ h' hx'=> ?_)));have I3:=I2.kept (h':=h') (t':=s1.toks) λ b o e=>hx' b o (Nat.ne_of_lt (Heap.lt_size e)) e;show wpAny _ _ (assignInOrder [λ v=>bindName X.env y v,λ v=>bindName X.env x v] [u2,u1] >>= λ _=>pure Flow.next) _ _ _;refine wpAny_bind (assignInOrder_cons (wpAny_bindName (CI I3 hN hj (.inl hy) rw' (λ s2 I4=> ?_) (.inr hy))));refine assignInOrder_cons (wpAny_bindName (CI I4 hN hi (.inl hx) rv (λ s3 I5=>assignInOrder_nil (wpAny_pure ?_)) (.inr hx)));rw [List.set_comm _ _ (Ne.symm hij)] at I5;exact ⟨_,H1,I5,q1⟩
def UQ (i:Nat) (te:TE) (ti:TIp):TS:=λ D σ H=>∃ x,σ[i]?=some (some x)/\te σ H λ y H1=>ti x y H1 λ z H2=>D.nx (σ.set i (some z)) H2
theorem N5 {i:Nat} {x:Str} {e:Expr} {te:TE} {op:Operator} {ti:TIp} {pos':Pos} (hN:X.N.Nodup) (hi:X.N[i]?=some x) (hx:Loc X.env.scope x) (he:PE X e te) (ho:PIp X op ti) (hf:X.fn x=true\/X.env.scope.names.lookup x=some .local:=by first | exact .inl rfl | exact .inr rfl | assumption):
    PS X (.AugAssign (.Name x pos') op e pos) (UQ i te ti):=by
  intro pins s σ H D I h;obtain ⟨v,e1,h⟩:=h;obtain ⟨m,hn,hl⟩:=I.loc;have vis:Vis X.env.scope x:=by rcases hx with k | k;exact .inl k;exact .inr (.inl k)
  obtain ⟨u,r,l⟩:=hl i x v hi e1 vis;refine wpAny_AugAssign_Name ?_;have go:wpAny (model X.prog X.w) X.A (eval e X.env) (λ w s₂=>wpAny (model X.prog X.w) X.A (inplaceOp op u w) (λ r s₃=>wpAny (model X.prog X.w) X.A (storeName X.env x r) (λ _=>SP X pins D .next) X.xe s₃) X.xe s₂) X.xe s:=by
    refine thn (he pins s σ H _ I h) λ w s1 ⟨y,H1,I1,r1,q1⟩=> ?_;refine thn (ho pins s1 σ H1 v y u w _ I1 r r1 q1) λ z s2 ⟨zv,H2,I2,r2,q2⟩=> ?_;exact CI I2 hN hi hx r2 (λ s3 I3=>⟨_,H2,I3,q2⟩) hf
  rcases l with ⟨hk,hm⟩ | ⟨hk,c,hc,hcell⟩
  · exact wpAny_loadName_local I.ok.kind hk hn hm go
  · rcases hk with hk | hk
    · exact wpAny_loadName_cell I.ok.kind hk hc hcell go
    · rcases hx with k | k
      · have:X.env.scope.names.lookup x=some .free:=hk;rw [k] at this;cases this
      · have:X.env.scope.names.lookup x=some .free:=hk;rw [k] at this;cases this
end
section
variable {X:Cx} {pos:Pos}
def RG (c:TT) (tb:TS):TS:=λ D σ H=>∃ W:Nat->St->Hp->Prop,(∃ m,W m σ H)/\∀ m σ H,W m σ H->
  c σ H λ b H1=>if b=true then ∃ N:St->Hp->Prop,(∀ σ' H',N σ' H'->∃ m',m'<m/\W m' σ' H')/\tb { D with nx:=N,ct:=N,bk:=D.nx } σ H1 else D.nx σ H1
theorem EJ {c:Expr} {body:List Stmt} {tc:TT} {tb:TS} (hp:PassesOwn (model X.prog X.w) X.A X.env X.xe) (hc:PT X c tc) (hb:PSs X body tb):PS X (.While c body [] pos) (RG tc tb):=by
  intro pins s σ H D I h;obtain ⟨W,⟨m0,w0⟩,turn⟩:=h;refine wpAny_While (codeAny_whileLoop (λ n s'=>∃ σ' H',Inv X pins σ' H' s'/\W n σ' H') ?_ m0 ⟨σ,H,I,w0⟩);rintro n s1 ⟨σ1,H1,I1,w1⟩;refine wpAny_passesOwn hp (thn (hc pins s1 σ1 H1 _ I1 (turn n σ1 H1 w1)) λ b s2 ⟨H2,I2,q2⟩=> ?_);cases b with
  | true=>
    obtain ⟨N,hN,q2⟩:=q2;rw [if_pos rfl];refine wpAny_passesOwn hp (thn (hb pins s2 σ1 H2 _ I2 q2) λ f s3 q3=> ?_);cases f with
    | next=>
      obtain ⟨σ3,H3,I3,n3⟩:=q3;obtain ⟨m',hm,w3⟩:=hN σ3 H3 n3;exact ⟨m',hm,σ3,H3,I3,w3⟩
    | cont=>
      obtain ⟨σ3,H3,I3,n3⟩:=q3;obtain ⟨m',hm,w3⟩:=hN σ3 H3 n3;exact ⟨m',hm,σ3,H3,I3,w3⟩
    | brk=>exact q3
    | ret v=>exact q3
  | false=>
    rw [if_neg Bool.false_ne_true];exact wpAny_execs_nil ⟨σ1,H2,I2,q2⟩
end
structure It where
  go:Nat->Hp->Prop
  yld:Nat->Hp->V->Hp->Prop
  stop:Nat->Hp->Prop
def B7 (X:Cx) (pins:List (Addr × Obj)) (H:Hp) (b:Addr):Prop:=
  H b=none/\b≠X.env.locals/\b∉X.fs/\(b∈X.ex\/X.s₀.heap.objs.size<=b)/\(∀ x c,X.env.cells.lookup x=some c->c≠b)/\∀ p∈X.pn++pins,p.1≠b
theorem Inv.fpOk {X:Cx} {pins:List (Addr × Obj)} {σ:St} {H H':Hp} {s:Shared} {b:Addr} (I:Inv X pins σ H s) (hb:s.heap.objs.size<=b) (hn:H' b=none):B7 X pins H' b:=by
  refine ⟨hn,Nat.ne_of_gt (Nat.lt_of_lt_of_le I.lt hb),I.nofs hb, .inr (Nat.le_trans I.sz hb),λ x c e z=> ?_,λ p hp z=> ?_⟩
  · obtain ⟨v,q⟩:=I.cell x c e;exact absurd (Nat.lt_of_lt_of_le q.lt (by rw [z];exact hb)) (Nat.lt_irrefl _)
  · exact absurd (Nat.lt_of_lt_of_le (Heap.lt_size (I.pin p hp).1) (by rw [z];exact hb)) (Nat.lt_irrefl _)
structure Turn (P:Program) (w:World) (K:PySem.W.Frag) (tg:Expr) (J:It) (fp:List Addr) (it:Addr) (tn:Nat->Heap->Prop):Prop where
  mem:it∈fp
  obj:∀ i h,tn i h->∀ b∈fp,∃ o,h.get? b=some o/\∀ v,o.data≠ .cell v
  keep:∀ i h h',tn i h->(∀ b∈fp,∀ o,h.get? b=some o->h'.get? b=some o)->tn i h'
  item:∀ (X:Cx),X.prog=P->X.w=w->X.K=K->X.calm=true->∀ (i:Nat) (pins:List (Addr × Obj)) (s:Shared) (σ:St) (H:Hp) (E:Value->Shared->Prop),Inv X pins σ H s->(∀ b∈fp,B7 X pins H b)->tn i s.heap->J.go i H->
    wpAny (model P w) X.A (pyNext (.ref it)) (λ r s1=>∃ u,r=some u/\
      wpAny (model P w) X.A (letOwnedTupleGo tg (.ref it) u) (λ _ s2=>∃ x H',Inv X pins σ H' s2/\RelV x u/\J.yld i H x H'/\tn (i+1) s2.heap/\∀ b∈fp,H' b=none) E s1) E s
  done:∀ (X:Cx),X.prog=P->X.w=w->X.K=K->X.calm=true->∀ (i:Nat) (pins:List (Addr × Obj)) (s:Shared) (σ:St) (H:Hp) (E:Value->Shared->Prop),Inv X pins σ H s->(∀ b∈fp,B7 X pins H b)->tn i s.heap->J.stop i H->
    wpAny (model P w) X.A (pyNext (.ref it)) (λ r s1=>r=none/\Inv X pins σ H s1) E s
  self:∀ (A:Around) (i:Nat) (s:Shared) (Q:Value->Shared->Prop) (E:Value->Shared->Prop),tn i s.heap->Q (.ref it) s->wpAny (model P w) A (pyIter (.ref it)) Q E s
abbrev TI:=St->Hp->(It->Hp->Prop)->Prop
def PIE (X:Cx) (pins:List (Addr × Obj)) (σ:St) (tg:Expr) (R:It->Hp->Prop) (itv:Value) (s2:Shared):Prop:=
  ∃ (it:Addr) (fp:List Addr) (tn:Nat->Heap->Prop) (J:It) (H':Hp),itv= .ref it/\Inv X pins σ H' s2/\Turn X.prog X.w X.K tg J fp it tn/\tn 0 s2.heap/\(∀ b∈fp,B7 X pins H' b)/\R J H'
def PI (X:Cx) (tg iter:Expr) (wi:TI):Prop:=
  ∀ (pins:List (Addr × Obj)) (s:Shared) (σ:St) (H:Hp) (R:It->Hp->Prop),Inv X pins σ H s->wi σ H R->
    wpAny (model X.prog X.w) X.A (eval iter X.env) (λ v s1=>wpAny (model X.prog X.w) X.A (pyIter v) (PIE X pins σ tg R) X.xe s1) X.xe s
theorem MX {M:Model} {A:Around} {E:Value->Shared->Prop} {s:Shared} {tg:Expr} {it:Addr} {u:Value} {o:Obj} {n:String} {vs:Array Value} {Q:Unit->Shared->Prop} (ho:s.heap.get? it=some o) (hc:o.cls= .type n) (hd:o.data= .fields vs)
    (hn:["enumerate","zip","dict_itemiterator","dict_reverseitemiterator","odict_iterator","itertools.zip_longest","itertools.pairwise"].contains n=false) (hQ:Q () s):wpAny M A (letOwnedTupleGo tg (.ref it) u) Q E s:=by
  unfold letOwnedTupleGo;cases tg <;> first
    | exact wpAny_pure hQ
    | (cases u <;> first
        | exact wpAny_pure hQ
        | (refine wpAny_bind (wpAny_load ho ?_)
           rw [hc,hd];show wpAny M A (if (["enumerate","zip","dict_itemiterator","dict_reverseitemiterator","odict_iterator","itertools.zip_longest","itertools.pairwise"].contains n&&vs[0]? == some (rawInt _))=true then _ else _) Q E s;rw [if_neg (by intro h;rw [hn,Bool.false_and] at h;cases h)];exact wpAny_pure hQ))
def Itl (K:PySem.W.Frag) (a:Addr):It:=
  ⟨λ i H=>∃ xs x,SqL K H a xs/\xs[i]?=some x,λ i H x H'=>H'=H/\∀ xs,SqL K H a xs->xs[i]?=some x,λ i H=>∃ xs,SqL K H a xs/\xs.length<=i⟩
def Itt (K:PySem.W.Frag) (a:Addr):It:=
  ⟨λ i H=>∃ xs x,SqT K H a xs/\xs[i]?=some x,λ i H x H'=>H'=H/\∀ xs,SqT K H a xs->xs[i]?=some x,λ i H=>∃ xs,SqT K H a xs/\xs.length<=i⟩
def Itr (lo:Int) (n:Nat):It:=⟨λ i _=>i<n,λ i H x H'=>H'=H/\x= .int (lo+i),λ i _=>n<=i⟩
theorem Hs {P:Program} {w:World} {K:PySem.W.Frag} {tg:Expr} (a it:Addr):Turn P w K tg (Itl K a) [it] it (λ i h=>h.IsListIter it a i) where
  mem:=by simp
  obj:=λ i h st b hb=>by
    have e:b=it:=by simpa using hb
    subst e;obtain ⟨o,e,c,d⟩:=st;exact ⟨o,e,λ v z=>by rw [d] at z;cases z⟩
  keep:=λ i h h' st k=>st.at λ o e=>k it (by simp) o e
  item:=by
    intro X hP hw hK hc i pins s σ H E I hf st hg;subst hP hw hK;obtain ⟨xs,x,hq,hx⟩:=hg;obtain ⟨its,rv,p,hz⟩:=I.list hq;obtain ⟨u,hu,ru⟩:=rv.get hx;obtain ⟨f0,f1,f2,f3,f4,f5⟩:=hf it (by simp);refine wpAny_pyNext_list_item st p.isList (x:=u) (by simpa using hu) λ h' st' sb=> ?_;have I1:Inv X pins σ H { s with heap:=h' }:=I.turned (t':=s.toks) (λ b o hb e=>(sb.2 b hb).trans e) f0 f1 f3 f4 f5;obtain ⟨o,e,c,d⟩:=id st';exact ⟨u,rfl,MX (s:={ s with heap:=h' }) e c d (by decide) ⟨x,H,I1,ru,⟨rfl,λ ys hy=>by rw [I.list_inj hy hq];exact hx⟩,st',λ b hb=>(hf b hb).1⟩⟩
  done:=by
    intro X hP hw hK hc i pins s σ H E I hf st hg;subst hP hw hK;obtain ⟨xs,hq,hx⟩:=hg;obtain ⟨its,rv,p,hz⟩:=I.list hq;obtain ⟨f0,f1,f2,f3,f4,f5⟩:=hf it (by simp);have hl:=rv.length;exact wpAny_pyNext_list_end (I.ok.hd hc) st p.isList (by simp;omega) λ h' eb=>⟨rfl,I.turned (t':=s.toks) (λ b o hb e=>eb b o hb e) f0 f1 f3 f4 f5⟩
  self:=λ _ _ _ _ _ st h=>wpAny_pyIter_listiter st h
theorem Gc {P:Program} {w:World} {K:PySem.W.Frag} {tg:Expr} (a it:Addr):Turn P w K tg (Itt K a) [it] it (λ i h=>h.IsTupleIter it a i) where
  mem:=by simp
  obj:=λ i h st b hb=>by
    have e:b=it:=by simpa using hb
    subst e;obtain ⟨o,e,c,d⟩:=st;exact ⟨o,e,λ v z=>by rw [d] at z;cases z⟩
  keep:=λ i h h' st k=>st.at λ o e=>k it (by simp) o e
  item:=by
    intro X hP hw hK hc i pins s σ H E I hf st hg;subst hP hw hK;obtain ⟨xs,x,hq,hx⟩:=hg;obtain ⟨its,rv,p,hz⟩:=I.tuple hq;obtain ⟨u,hu,ru⟩:=rv.get hx;obtain ⟨f0,f1,f2,f3,f4,f5⟩:=hf it (by simp);refine wpAny_pyNext_tuple_item st (show s.heap.IsTuple a its.toArray from p) (x:=u) (by simpa using hu) λ h' st' sb=> ?_;have I1:Inv X pins σ H { s with heap:=h' }:=I.turned (t':=s.toks) (λ b o hb e=>(sb.2 b hb).trans e) f0 f1 f3 f4 f5;obtain ⟨o,e,c,d⟩:=id st';exact ⟨u,rfl,MX (s:={ s with heap:=h' }) e c d (by decide) ⟨x,H,I1,ru,⟨rfl,λ ys hy=>by rw [I.tuple_inj hy hq];exact hx⟩,st',λ b hb=>(hf b hb).1⟩⟩
  done:=by
    intro X hP hw hK hc i pins s σ H E I hf st hg;subst hP hw hK;obtain ⟨xs,hq,hx⟩:=hg;obtain ⟨its,rv,p,hz⟩:=I.tuple hq;obtain ⟨f0,f1,f2,f3,f4,f5⟩:=hf it (by simp);have hl:=rv.length;exact wpAny_pyNext_tuple_end (I.ok.hd hc) st (show s.heap.IsTuple a its.toArray from p) (by simp;omega) λ h' eb=>⟨rfl,I.turned (t':=s.toks) (λ b o hb e=>eb b o hb e) f0 f1 f3 f4 f5⟩
  self:=λ _ _ _ _ _ st h=>wpAny_pyIter_tupleiter st h
theorem JG {P:Program} {w:World} {K:PySem.W.Frag} {tg:Expr} (it:Addr) (lo:Int) (n:Nat):Turn P w K tg (Itr lo n) [it] it (λ i h=>IsRangeIter h it (lo+(i:Nat)*1) ((n:Int) - (i:Nat)) 1) where
  mem:=by simp
  obj:=λ i h st b hb=>by
    have e:b=it:=by simpa using hb
    subst e;exact ⟨_,st,λ v z=>by
      have z':Data.fields _=Data.cell v:=z;cases z'⟩
  keep:=λ i h h' st k=>k it (by simp) _ st
  item:=by
    intro X hP hw hK hc i pins s σ H E I hf st hg;subst hP hw hK;obtain ⟨f0,f1,f2,f3,f4,f5⟩:=hf it (by simp);have W:=Walks.range (prog:=X.prog) (w:=X.w) (I.ok.hd hc) it lo 1 n;refine W.item i s _ _ hg st λ v h' tk hv st' kk=> ?_;obtain ⟨t,rfl⟩:=hv;have I1:Inv X pins σ H { s with heap:=h',toks:=tk }:=I.turned (λ b o hb e=>kk b o (by simpa using hb) e) f0 f1 f3 f4 f5;refine ⟨_,rfl,MX (s:={ s with heap:=h',toks:=tk }) (n:="range_iterator") st' rfl rfl (by decide) ⟨.int (lo+i),H,I1,⟨t,?_⟩,⟨rfl,rfl⟩,st',λ b hb=>(hf b hb).1⟩⟩;rw [Int.mul_one]
  done:=by
    intro X hP hw hK hc i pins s σ H E I hf st hg;subst hP hw hK;obtain ⟨f0,f1,f2,f3,f4,f5⟩:=hf it (by simp);exact wpAny_pyNext_range_end (I.ok.hd hc) st (by have:n<=i:=hg;omega) λ h' eb=>⟨rfl,I.turned (t':=s.toks) (λ b o hb e=>eb b o hb e) f0 f1 f3 f4 f5⟩
  self:=λ _ _ _ _ _ st h=>wpAny_pyIter_rangeiter st h
section
variable {X:Cx} {tg:Expr}
def Ny (K:PySem.W.Frag) (tl:TE):TI:=λ σ H R=>tl σ H λ x H1=>∃ a,x= .ref a/\(∃ xs,SqL K H1 a xs)/\R (Itl K a) H1
def Q5 (K:PySem.W.Frag) (tl:TE):TI:=λ σ H R=>tl σ H λ x H1=>∃ a,x= .ref a/\(∃ xs,SqT K H1 a xs)/\R (Itt K a) H1
theorem OW {l:Expr} {tl:TE} (hl:PE X l tl):PI X tg l (Ny X.K tl):=by
  intro pins s σ H R I h;refine thn (hl pins s σ H _ I h) λ v s1 ⟨x,H1,I1,r1,q1⟩=> ?_;obtain ⟨a,e,⟨xs,hq⟩,q⟩:=q1;subst e;cases r1;obtain ⟨its,rv,p,hz⟩:=I1.list hq;refine wpAny_pyIter_list p.isList ?_;refine ⟨s1.heap.objs.size,[s1.heap.objs.size],_,_,H1,rfl,I1.kept (t':=s1.toks) λ b o e=>Heap.get?_push_of_some _ e,Hs a _,⟨_,Heap.get?_push_size _ rfl,rfl,rfl⟩,λ b hb=> ?_,q⟩;have e:b=s1.heap.objs.size:=by simpa using hb
  subst e;exact I1.fpOk (Nat.le_refl _) (I1.hok.fresh (Nat.le_refl _))
theorem QM {l:Expr} {tl:TE} (hl:PE X l tl):PI X tg l (Q5 X.K tl):=by
  intro pins s σ H R I h;refine thn (hl pins s σ H _ I h) λ v s1 ⟨x,H1,I1,r1,q1⟩=> ?_;obtain ⟨a,e,⟨xs,hq⟩,q⟩:=q1;subst e;cases r1;obtain ⟨its,rv,p,hz⟩:=I1.tuple hq;refine wpAny_pyIter_tuple (show s1.heap.IsTuple a its.toArray from p) ?_;refine ⟨s1.heap.objs.size,[s1.heap.objs.size],_,_,H1,rfl,I1.kept (t':=s1.toks) λ b o e=>Heap.get?_push_of_some _ e,Gc a _,⟨_,Heap.get?_push_size _ rfl,rfl,rfl⟩,λ b hb=> ?_,q⟩;have e:b=s1.heap.objs.size:=by simpa using hb
  subst e;exact I1.fpOk (Nat.le_refl _) (I1.hok.fresh (Nat.le_refl _))
theorem JD {pins:List (Addr × Obj)} {σ:St} {H:Hp} {s:Shared} {R:It->Hp->Prop} {E:Value->Shared->Prop} {lo hi:Int} {t u v:Tok} {tk:Nat} (I:Inv X pins σ H s) (h1: -(2 ^ 62)<=lo) (h2:lo<2 ^ 62) (h3: -(2 ^ 62)<=hi) (h4:hi<2 ^ 62)
    (q:R (Itr lo (hi - lo).toNat) H):wpAny (model X.prog X.w) X.A (pyIter (.ref s.heap.objs.size)) (PIE X pins σ tg R) E { s with heap:=s.heap.push { cls:= .type "range",data:= .fields #[.int lo t, .int hi u, .int 1 v] },toks:=tk }:=by
  refine wpAny_pyIter_range (IsRange.new ..) (small_one h1 h2 h3 h4) ?_;have I1:Inv X pins σ H { s with heap:=s.heap.push { cls:= .type "range",data:= .fields #[.int lo t, .int hi u, .int 1 v] },toks:=tk }:=I.kept λ b o e=>Heap.get?_push_of_some _ e;refine ⟨(s.heap.push { cls:= .type "range",data:= .fields #[.int lo t, .int hi u, .int 1 v] }).objs.size,[(s.heap.push { cls:= .type "range",data:= .fields #[.int lo t, .int hi u, .int 1 v] }).objs.size],_,_,H,rfl,
    I1.kept (t':=tk) λ b o e=>Heap.get?_push_of_some _ e,JG _ lo (hi - lo).toNat,?_,λ b hb=> ?_,q⟩
  · have e1:lo+((0:Nat):Int)*1=lo:=by simp
    have e2:(((hi - lo).toNat:Nat):Int) - ((0:Nat):Int)=Builtin.Range.rangeSize lo hi 1:=by rw [rangeSize_one];split <;> omega
    show IsRangeIter _ _ (lo+((0:Nat):Int)*1) ((((hi - lo).toNat:Nat):Int) - ((0:Nat):Int)) 1;rw [e1,e2];exact Heap.get?_push_size _ rfl
  · have e:b=(s.heap.push { cls:= .type "range",data:= .fields #[.int lo t, .int hi u, .int 1 v] }).objs.size:=by simpa using hb
    subst e;exact I1.fpOk (Nat.le_refl _) (I1.hok.fresh (Nat.le_refl _))
def P9 (ta:TA):TI:=λ σ H R=>ta σ H λ vs H1=>∃ j:Int,vs=[.int j]/\ -(2 ^ 62)<=j/\j<2 ^ 62/\R (Itr 0 j.toNat) H1
def PQ (ta:TA):TI:=λ σ H R=>ta σ H λ vs H1=>∃ i j:Int,vs=[.int i, .int j]/\(-(2 ^ 62)<=i/\i<2 ^ 62/\ -(2 ^ 62)<=j/\j<2 ^ 62)/\R (Itr i (j - i).toNat) H1
theorem AL {a:Expr} {ta:TA} {p pos:Pos} (hg:Gl X "range") (hm:X.mg "range"=none) (ha:PA X [a] ta) (hs:starEach [a] X.env=[(false,eval a X.env)]:=by rfl):PI X tg (.Call (.Name "range" p) [a] [] pos) (P9 ta):=by
  intro pins s σ H R I h;refine Call_ (CD I hg hm boot_range (PyProof.Rows.callWith_type1 (thn (ha pos pins s σ H _ I h) λ us s1 ⟨vs,H1,I1,r1,q1⟩=> ?_) hs rfl));obtain ⟨j,e,q1,q2,q⟩:=q1;subst e;cases r1 with
  | cons r rr=>
    cases rr;obtain ⟨t,rfl⟩:=r;exact call_range_1 (JD I1 (by omega) (by omega) q1 q2 (by simpa using q))
theorem Fc {a b:Expr} {ta:TA} {p pos:Pos} (hg:Gl X "range") (hm:X.mg "range"=none) (ha:PA X [a,b] ta) (hs:starEach [a,b] X.env=[(false,eval a X.env),(false,eval b X.env)]:=by rfl) (hs2:starEach [b] X.env=[(false,eval b X.env)]:=by rfl):
    PI X tg (.Call (.Name "range" p) [a,b] [] pos) (PQ ta):=by
  intro pins s σ H R I h;refine Call_ (CD I hg hm boot_range (PyProof.Rows.callWith_type1 (thn (ha pos pins s σ H _ I h) λ us s1 ⟨vs,H1,I1,r1,q1⟩=> ?_) (by rw [hs,hs2]) (by rw [hs2];rfl)));obtain ⟨i,j,e,⟨q1,q2,q3,q4⟩,q⟩:=q1;subst e;cases r1 with
  | cons r rr=>
    cases rr with
    | cons r' rr=>
      cases rr;obtain ⟨t,rfl⟩:=r;obtain ⟨t',rfl⟩:=r';exact call_range_2 (JD I1 q1 q2 q3 q4 q)
def UO (wi:TI) (g:TG) (tb:TS):TS:=λ D σ H=>wi σ H λ J H1=>∃ W:Nat->Nat->St->Hp->Prop,(∃ m,W 0 m σ H1)/\∀ i m σ H,W i m σ H->
  (J.stop i H/\D.nx σ H)\/(J.go i H/\∃ N:St->Hp->Prop,(∀ σ' H',N σ' H'->∃ m',m'<m/\W (i+1) m' σ' H')/\∀ x H',J.yld i H x H'->g x σ H' λ σ2 H2=>tb { D with nx:=N,ct:=N,bk:=D.nx } σ2 H2)
def Fo (fp:List Addr) (h:Heap):List (Addr × Obj):=fp.filterMap λ b=>(h.get? b).map λ o=>(b,o)
theorem BG {fp:List Addr} {h:Heap} {b:Addr} {o:Obj} (hb:b∈fp) (e:h.get? b=some o):(b,o)∈Fo fp h:=List.mem_filterMap.mpr ⟨b,hb,by rw [e];rfl⟩
theorem LU {fp:List Addr} {h:Heap} {p:Addr × Obj} (hp:p∈Fo fp h):p.1∈fp/\h.get? p.1=some p.2:=by
  obtain ⟨b,hb,e⟩:=List.mem_filterMap.mp hp;cases q:h.get? b with
  | none=>rw [q] at e;cases e
  | some o=>
    rw [q] at e;have e':(b,o)=p:=Option.some.inj e;subst e';exact ⟨hb,q⟩
theorem Inv.pinned {pins:List (Addr × Obj)} {σ:St} {H:Hp} {s:Shared} {fp:List Addr} (I:Inv X pins σ H s) (hf:∀ b∈fp,B7 X pins H b) (ho:∀ b∈fp,∃ o,s.heap.get? b=some o/\∀ v,o.data≠ .cell v):Inv X (pins++Fo fp s.heap) σ H s:=
  I.pins_of λ p hp=>(List.mem_append.mp hp).elim (λ z=>I.pin p (List.mem_append_right _ z)) λ z=>by
    obtain ⟨hb,e⟩:=LU z;obtain ⟨f0,f1,f2,_⟩:=hf p.1 hb;obtain ⟨o,e',d⟩:=ho p.1 hb;rw [e] at e';cases e';exact ⟨e,f0,f1,f2,d⟩
theorem Inv.unpinned {pins pl:List (Addr × Obj)} {σ:St} {H:Hp} {s:Shared} (I:Inv X (pins++pl) σ H s):Inv X pins σ H s:=I.pins_of λ p hp=>I.pin p (List.mem_append_right _ (List.mem_append_left _ hp))
theorem A0 {iter:Expr} {body:List Stmt} {wi:TI} {g:TG} {tb:TS} {pos:Pos} (hp:PassesOwn (model X.prog X.w) X.A X.env X.xe) (hc:X.calm=true) (hi:PI X tg iter wi) (hg:PG X tg g) (hb:PSs X body tb)
    (hs:∀ x,foldedSetIterable iter X.env x=pure x:=by intro _;rfl):PS X (.For tg iter body [] pos) (UO wi g tb):=by
  intro pins s σ H D I h;refine wpAny_For (thn (hi pins s σ H _ I h) λ v s1 h1=>thn h1 λ itv s2 h2=> ?_) hs;obtain ⟨it,fp,tn,J,H2,e,I2,T,st2,f2,W,⟨m0,w0⟩,turn⟩:=h2;subst e;have stat:∀ {H':Hp},(∀ b∈fp,H' b=none)->∀ b∈fp,B7 X pins H' b:=λ hn b hb=>⟨hn b hb,(f2 b hb).2⟩;refine codeAny_forLoop_any (λ n s'=>∃ i σ' H',Inv X pins σ' H' s'/\tn i s'.heap/\(∀ b∈fp,H' b=none)/\W i n σ' H') ?_ m0 ⟨0,σ,H2,I2,st2,λ b hb=>(f2 b hb).1,w0⟩;rintro n s3 ⟨i,σ3,H3,I3,st3,fr3,w3⟩;rcases turn i n σ3 H3 w3 with ⟨stop,qn⟩ | ⟨go,N,hN,step⟩
  · refine wpAny_passesOwn hp (thn (T.done X rfl rfl rfl hc i pins s3 σ3 H3 X.xe I3 (stat fr3) st3 stop) λ r s4 ⟨hr,I4⟩=> ?_);subst hr;exact wpAny_execs_nil ⟨σ3,H3,I4,qn⟩
  · refine wpAny_passesOwn hp (thn (T.item X rfl rfl rfl hc i pins s3 σ3 H3 X.xe I3 (stat fr3) st3 go) λ r s4 ⟨u,hr,h4⟩=> ?_);subst hr;refine wpAny_passesOwn hp (thn h4 λ _ s5 ⟨x,H5,I5,r5,y5,st5,fr5⟩=> ?_);have I5':=I5.pinned (stat fr5) (T.obj _ _ st5);refine wpAny_passesOwn hp (thn (hg _ s5 σ3 H5 x u _ I5' r5 (step x H5 y5)) λ _ s6 ⟨σ6,H6,I6,q6⟩=> ?_);refine wpAny_passesOwn hp (thn (hb _ s6 σ6 H6 _ I6 q6) λ f s7 q7=> ?_);have again:∀ {σ7:St} {H7:Hp},Inv X (pins++Fo fp s5.heap) σ7 H7 s7->N σ7 H7->∃ m,m<n/\∃ i σ' H',Inv X pins σ' H' s7/\tn i s7.heap/\(∀ b∈fp,H' b=none)/\W i m σ' H':=λ {σ7 H7} I7 n7=>by
      obtain ⟨m',hm,w7⟩:=hN σ7 H7 n7;refine ⟨m',hm,i+1,σ7,H7,I7.unpinned,T.keep _ _ _ st5 λ b hb o e=>(I7.pin (b,o) (List.mem_append_right _ (List.mem_append_right _ (BG hb e)))).1,λ b hb=> ?_,w7⟩;obtain ⟨o,e,d⟩:=T.obj _ _ st5 b hb;exact (I7.pin (b,o) (List.mem_append_right _ (List.mem_append_right _ (BG hb e)))).2.1
    cases f with
    | next=>obtain ⟨σ7,H7,I7,n7⟩:=q7;exact again I7 n7
    | cont=>obtain ⟨σ7,H7,I7,n7⟩:=q7;exact again I7 n7
    | brk=>obtain ⟨σ7,H7,I7,q7⟩:=q7;exact ⟨σ7,H7,I7.unpinned,q7⟩
    | ret v=>obtain ⟨x7,σ7,H7,I7,r7,q7⟩:=q7;exact ⟨x7,σ7,H7,I7.unpinned,r7,q7⟩
end
abbrev R2:=V->V->Hp->VK->Prop
def OpR (X:Cx) (f:Value->Value->Sem Value) (r:R2):Prop:=
  ∀ (pins:List (Addr × Obj)) (s:Shared) (σ:St) (H:Hp) (x y:V) (v u:Value) (Q:VK),Inv X pins σ H s->RelV x v->RelV y u->r x y H Q->
    wpAny (model X.prog X.w) X.A (f v u) (EP X pins σ Q) X.xe s
def UnR (X:Cx) (f:Value->Sem Value) (r:V->Hp->VK->Prop):Prop:=
  ∀ (pins:List (Addr × Obj)) (s:Shared) (σ:St) (H:Hp) (x:V) (v:Value) (Q:VK),Inv X pins σ H s->RelV x v->r x H Q->
    wpAny (model X.prog X.w) X.A (f v) (EP X pins σ Q) X.xe s
def A7 (X:Cx) (f:Value) (r:List V->Hp->VK->Prop):Prop:=
  ∀ (pins:List (Addr × Obj)) (s:Shared) (σ:St) (H:Hp) (xs:List V) (us:List Value) (Q:VK),Inv X pins σ H s->Vals xs us->r xs H Q->
    wpAny (model X.prog X.w) X.A (call f us) (EP X pins σ Q) X.xe s
def WA (X:Cx) (r:V->Hp->(Bool->Hp->Prop)->Prop):Prop:=
  ∀ (pins:List (Addr × Obj)) (s:Shared) (σ:St) (H:Hp) (x:V) (v:Value) (Q:Bool->Hp->Prop),Inv X pins σ H s->RelV x v->r x H Q->
    wpAny (model X.prog X.w) X.A (truthy v) (TP X pins σ Q) X.xe s
def tOp (r:R2) (ta tb:TE):TE:=λ σ H Q=>ta σ H λ x H1=>tb σ H1 λ y H2=>r x y H2 Q
def tUn (r:V->Hp->VK->Prop) (ta:TE):TE:=λ σ H Q=>ta σ H λ x H1=>r x H1 Q
def rI (C:Int->Int->Prop) (g:Int->Int->V):R2:=λ x y H Q=>∃ i j,x= .int i/\y= .int j/\C i j/\Q (g i j) H
def rI0 (g:Int->Int->V):R2:=λ x y H Q=>∃ i j,x= .int i/\y= .int j/\Q (g i j) H
def rU (g:Int->V):V->Hp->VK->Prop:=λ x H Q=>∃ i,x= .int i/\Q (g i) H
section
variable {X:Cx} {a b c:Expr} {ta tb tc:TE} {pos:Pos}
theorem QU (ha:PE X a ta) (hb:PE X b tb) {pins:List (Addr × Obj)} {s:Shared} {σ:St} {H:Hp} {R:V->V->Hp->Prop} (I:Inv X pins σ H s)
    (h:ta σ H λ x H1=>tb σ H1 λ y H2=>R x y H2) {Q:Value->Shared->Prop} {f:Value->Value->Sem Value}
    (hf:∀ v u s2 x y H2,Inv X pins σ H2 s2->RelV x v->RelV y u->R x y H2->wpAny (model X.prog X.w) X.A (f v u) Q X.xe s2):
    wpAny (model X.prog X.w) X.A (eval a X.env) (λ v s₁=>wpAny (model X.prog X.w) X.A (eval b X.env) (λ u s₂=>wpAny (model X.prog X.w) X.A (f v u) Q X.xe s₂) X.xe s₁) X.xe s:=by
  refine thn (ha pins s σ H _ I h) λ v s1 ⟨x,H1,I1,r1,q1⟩=> ?_;refine thn (hb pins s1 σ H1 _ I1 q1) λ u s2 ⟨y,H2,I2,r2,q2⟩=> ?_;exact hf v u s2 x y H2 I2 r1 r2 q2
theorem Af {op:Operator} {r:R2} (ho:OpR X (binaryOp op) r) (ha:PE X a ta) (hb:PE X b tb):PE X (.BinOp a op b pos) (tOp r ta tb):=by
  intro pins s σ H Q I h;exact wpAny_BinOp (QU ha hb I h λ v u s2 x y H2 I2 rx ry q=>ho pins s2 σ H2 x y v u Q I2 rx ry q)
theorem KN {op:UnaryOp} {r:V->Hp->VK->Prop} (ho:UnR X (unaryOp op) r) (ha:PE X a ta):PE X (.UnaryOp op a pos) (tUn r ta):=by
  intro pins s σ H Q I h;exact UnaryOp_ (thn (ha pins s σ H _ I h) λ v s1 ⟨x,H1,I1,r1,q1⟩=>ho pins s1 σ H1 x v Q I1 r1 q1)
theorem opI {f:Value->Value->Sem Value} {C:Int->Int->Prop} {g:Int->Int->Int}
    (rule:∀ (i j:Int) (t u:Tok) (s:Shared) (Q:Value->Shared->Prop) (E:Value->Shared->Prop),C i j->Q (.int (g i j) s.toks) { s with toks:=s.toks+1 }->wpAny (model X.prog X.w) X.A (f (.int i t) (.int j u)) Q E s):
    OpR X f (rI C λ i j=> .int (g i j)):=by
  intro pins s σ H x y v u Q I rx ry h;obtain ⟨i,j,rfl,rfl,hc,q⟩:=h;obtain ⟨t,rfl⟩:=rx;obtain ⟨t',rfl⟩:=ry;exact rule i j t t' s _ _ hc ⟨.int (g i j),H,I.tok _,⟨_,rfl⟩,q⟩
theorem JT {f:Value->Value->Sem Value} {g:Int->Int->Int}
    (rule:∀ (i j:Int) (t u:Tok) (s:Shared) (Q:Value->Shared->Prop) (E:Value->Shared->Prop),Q (.int (g i j) s.toks) { s with toks:=s.toks+1 }->wpAny (model X.prog X.w) X.A (f (.int i t) (.int j u)) Q E s):
    OpR X f (rI0 λ i j=> .int (g i j)):=by
  intro pins s σ H x y v u Q I rx ry h;obtain ⟨i,j,rfl,rfl,q⟩:=h;obtain ⟨t,rfl⟩:=rx;obtain ⟨t',rfl⟩:=ry;exact rule i j t t' s _ _ ⟨.int (g i j),H,I.tok _,⟨_,rfl⟩,q⟩
theorem Qb {f:Value->Value->Sem Value} {g:Int->Int->Bool}
    (rule:∀ (i j:Int) (t u:Tok) (s:Shared) (Q:Value->Shared->Prop) (E:Value->Shared->Prop),Q (.bool (g i j)) s->wpAny (model X.prog X.w) X.A (f (.int i t) (.int j u)) Q E s):
    OpR X f (rI0 λ i j=> .bl (g i j)):=by
  intro pins s σ H x y v u Q I rx ry h;obtain ⟨i,j,rfl,rfl,q⟩:=h;obtain ⟨t,rfl⟩:=rx;obtain ⟨t',rfl⟩:=ry;exact rule i j t t' s _ _ ⟨.bl (g i j),H,I,rfl,q⟩
def Si (i j:Int):Prop:=0<=j/\j<=1000000/\i.natAbs<2 ^ 64
def CMul (i j:Int):Prop:=(-(2 ^ 64)<i/\i<2 ^ 64)\/(-(2 ^ 64)<j/\j<2 ^ 64)
theorem CMul.ok {i j:Int} (h:CMul i j):IntMulOk i j:=by
  rcases h with ⟨h1,h2⟩ | ⟨h1,h2⟩
  · exact .of_left (intBits_le_64 h1 h2)
  · exact .of_right (intBits_le_64 h1 h2)
theorem JU (k:Nat):(0:Int)<=2 ^ k:=by
  rw [two_pow_cast];exact Int.natCast_nonneg _
theorem AA:OpR X (binaryOp .Add) (rI0 λ i j=> .int (i+j)):=JT λ _ _ _ _ _ _ _ q=>add_int q
theorem BD:OpR X (binaryOp .Sub) (rI0 λ i j=> .int (i - j)):=JT λ _ _ _ _ _ _ _ q=>sub_int q
theorem Cg:OpR X (binaryOp .Mult) (rI CMul λ i j=> .int (i*j)):=opI λ _ _ _ _ _ _ _ hc q=>mul_int q hc.ok
theorem Az:OpR X (binaryOp .Mod) (rI (λ _ j=>0<j) λ i j=> .int (i%j)):=opI λ i j _ _ _ _ _ hc q=>by
  have h1:(0:Int)<j:=hc;exact mod_int' (by omega) (by rw [Int.fmod_eq_emod_of_nonneg i (by omega)];exact q)
theorem Iv:OpR X (binaryOp .Pow) (rI Si λ i j=> .int (i ^ j.toNat)):=opI λ _ _ _ _ _ _ _ hc q=>pow_int_small hc.1 hc.2.1 hc.2.2 q
theorem Be:OpR X (binaryOp .LShift) (rI Si λ i j=> .int (i*2 ^ j.toNat)):=opI λ _ _ _ _ _ _ _ hc q=>lshift_int_small hc.1 hc.2.1 hc.2.2 q
theorem DK:OpR X (binaryOp .RShift) (rI (λ _ j=>0<=j) λ i j=> .int (i / 2 ^ j.toNat)):=opI λ i j _ _ _ _ _ hc q=>
  rshift_int hc (by rw [Int.fdiv_eq_ediv_of_nonneg i (JU _)];exact q)
theorem BN:OpR X (binaryOp .BitAnd) (rI0 λ i j=> .int (Builtin.bitAnd i j)):=JT λ _ _ _ _ _ _ _ q=>and_int q
theorem Jk:OpR X (binaryOp .BitOr) (rI0 λ i j=> .int (Builtin.bitOr i j)):=JT λ _ _ _ _ _ _ _ q=>or_int q
theorem QQ:OpR X (binaryOp .BitXor) (rI0 λ i j=> .int (Builtin.bitXor i j)):=JT λ _ _ _ _ _ _ _ q=>xor_int q
theorem On:OpR X (inplaceOp .Add) (rI0 λ i j=> .int (i+j)):=JT λ _ _ _ _ _ _ _ q=>iadd_int q
theorem QJ:OpR X (inplaceOp .BitOr) (rI0 λ i j=> .int (Builtin.bitOr i j)):=JT λ _ _ _ _ _ _ _ q=>ior_int q
theorem unI {f:Value->Sem Value} {g:Int->Int}
    (rule:∀ (i:Int) (t:Tok) (s:Shared) (Q:Value->Shared->Prop) (E:Value->Shared->Prop),Q (.int (g i) s.toks) { s with toks:=s.toks+1 }->wpAny (model X.prog X.w) X.A (f (.int i t)) Q E s):
    UnR X f (rU λ i=> .int (g i)):=by
  intro pins s σ H x v Q I rx h;obtain ⟨i,rfl,q⟩:=h;obtain ⟨t,rfl⟩:=rx;exact rule i t s _ _ ⟨.int (g i),H,I.tok _,⟨_,rfl⟩,q⟩
theorem N0:UnR X (unaryOp .USub) (rU λ i=> .int (-i)):=unI λ _ _ _ _ _ q=>neg_int q
theorem N9:UnR X (unaryOp .Invert) (rU λ i=> .int (Builtin.bitNot i)):=unI λ _ _ _ _ _ q=>invert_int q
end
def Q0:V->V->Bool
  | .non, .non=>true | .non, .int _=>true | .int _, .non=>true | .non, .bl _=>true | .bl _, .non=>true | .non, .str _=>true | .str _, .non=>true
  | .int _, .int _=>true | .bl _, .bl _=>true | .str _, .str _=>true | .byt _, .byt _=>true
  | .int _, .str _=>true | .str _, .int _=>true | .bl _, .str _=>true | .str _, .bl _=>true
  | _,_=>false
def rEq:R2:=λ x y H Q=>Q0 x y=true/\Q (.bl (decide (x=y))) H
def rNe:R2:=λ x y H Q=>Q0 x y=true/\Q (.bl (!decide (x=y))) H
theorem KY {i j:Int}:decide (V.int i=V.int j)=(i == j):=by
  rw [Bool.eq_iff_iff];simp
theorem MJ {i j:Bool}:decide (V.bl i=V.bl j)=(i == j):=by
  rw [Bool.eq_iff_iff];simp
theorem Kw {i j:Str}:decide (V.str i=V.str j)=(i == j):=by
  rw [Bool.eq_iff_iff];simp
theorem Kn {i j:Array UInt8}:decide (V.byt i=V.byt j)=(i.toList == j.toList):=by
  rw [Bool.eq_iff_iff];cases i;cases j;simp
section
variable {X:Cx} {a b c:Expr} {ta tb tc:TE} {pos:Pos}
theorem AC {pins:List (Addr × Obj)} {σ:St} {H:Hp} {s:Shared} {Q:VK} {k k':Bool} (I:Inv X pins σ H s) (q:Q (.bl k) H) (e:k=k'):EP X pins σ Q (.bool k') s:=by
  subst e;exact ⟨.bl k,H,I,rfl,q⟩
theorem Bg:OpR X (compareOp .Eq) rEq:=by
  intro pins s σ H x y v u Q I rx ry h;obtain ⟨hs,q⟩:=h;cases x with
  | non=>
    cases rx;cases y with
    | non=>cases ry;exact PySem.EqNone.eq_none_none (AC I q (by simp))
    | bl j=>cases ry;exact PySem.EqNone.eq_none_bool (AC I q (by simp))
    | int j=>obtain ⟨t',rfl⟩:=ry;exact PySem.EqNone.eq_none_int (AC I q (by simp))
    | str j=>obtain ⟨t',rfl⟩:=ry;exact PySem.EqNone.eq_none_str (AC I q (by simp))
    | _=>exact absurd (show false=true from hs) Bool.false_ne_true
  | bl i=>
    cases rx;cases y with
    | non=>cases ry;exact PySem.EqNone.eq_bool_none (AC I q (by simp))
    | bl j=>cases ry;exact eq_bool (AC I q MJ)
    | str j=>obtain ⟨t',rfl⟩:=ry;exact PySem.EqMixed.eq_bool_str (AC I q (by simp))
    | _=>exact absurd (show false=true from hs) Bool.false_ne_true
  | int i=>
    obtain ⟨t,rfl⟩:=rx;cases y with
    | non=>cases ry;exact PySem.EqNone.eq_int_none (AC I q (by simp))
    | int j=>obtain ⟨t',rfl⟩:=ry;exact eq_int (AC I q KY)
    | str j=>obtain ⟨t',rfl⟩:=ry;exact PySem.EqMixed.eq_int_str (AC I q (by simp))
    | _=>exact absurd (show false=true from hs) Bool.false_ne_true
  | str i=>
    obtain ⟨t,rfl⟩:=rx;cases y with
    | non=>cases ry;exact PySem.EqNone.eq_str_none (AC I q (by simp))
    | bl j=>cases ry;exact PySem.EqMixed.eq_str_bool (AC I q (by simp))
    | int j=>obtain ⟨t',rfl⟩:=ry;exact PySem.EqMixed.eq_str_int (AC I q (by simp))
    | str j=>obtain ⟨t',rfl⟩:=ry;exact eq_str (AC I q Kw)
    | _=>exact absurd (show false=true from hs) Bool.false_ne_true
  | byt i=>
    obtain ⟨t,rfl⟩:=rx;cases y with
    | byt j=>obtain ⟨t',rfl⟩:=ry;exact PySem.W.eq_bytes (AC I q Kn)
    | _=>exact absurd (show false=true from hs) Bool.false_ne_true
  | _=>cases y <;> exact absurd (show false=true from hs) Bool.false_ne_true
theorem Jw:OpR X (compareOp .NotEq) rNe:=by
  intro pins s σ H x y v u Q I rx ry h;obtain ⟨hs,q⟩:=h;cases x with
  | non=>
    cases rx;cases y with
    | non=>cases ry;exact PySem.EqNone.ne_none_none (AC I q (by simp))
    | bl j=>cases ry;exact PySem.EqNone.ne_none_bool (AC I q (by simp))
    | int j=>obtain ⟨t',rfl⟩:=ry;exact PySem.EqNone.ne_none_int (AC I q (by simp))
    | str j=>obtain ⟨t',rfl⟩:=ry;exact PySem.EqNone.ne_none_str (AC I q (by simp))
    | _=>exact absurd (show false=true from hs) Bool.false_ne_true
  | bl i=>
    cases rx;cases y with
    | non=>cases ry;exact PySem.EqNone.ne_bool_none (AC I q (by simp))
    | bl j=>cases ry;exact ne_bool (AC I q (congrArg not MJ))
    | str j=>obtain ⟨t',rfl⟩:=ry;exact PySem.EqMixed.ne_bool_str (AC I q (by simp))
    | _=>exact absurd (show false=true from hs) Bool.false_ne_true
  | int i=>
    obtain ⟨t,rfl⟩:=rx;cases y with
    | non=>cases ry;exact PySem.EqNone.ne_int_none (AC I q (by simp))
    | int j=>obtain ⟨t',rfl⟩:=ry;exact ne_int (AC I q (congrArg not KY))
    | str j=>obtain ⟨t',rfl⟩:=ry;exact PySem.EqMixed.ne_int_str (AC I q (by simp))
    | _=>exact absurd (show false=true from hs) Bool.false_ne_true
  | str i=>
    obtain ⟨t,rfl⟩:=rx;cases y with
    | non=>cases ry;exact PySem.EqNone.ne_str_none (AC I q (by simp))
    | bl j=>cases ry;exact PySem.EqMixed.ne_str_bool (AC I q (by simp))
    | int j=>obtain ⟨t',rfl⟩:=ry;exact PySem.EqMixed.ne_str_int (AC I q (by simp))
    | str j=>obtain ⟨t',rfl⟩:=ry;exact ne_str (AC I q (congrArg not Kw))
    | _=>exact absurd (show false=true from hs) Bool.false_ne_true
  | byt i=>
    obtain ⟨t,rfl⟩:=rx;cases y with
    | byt j=>obtain ⟨t',rfl⟩:=ry;exact PySem.W.ne_bytes (AC I q (congrArg not Kn))
    | _=>exact absurd (show false=true from hs) Bool.false_ne_true
  | _=>cases y <;> exact absurd (show false=true from hs) Bool.false_ne_true
theorem PL:OpR X (compareOp .Lt) (rI0 λ i j=> .bl (decide (i<j))):=Qb λ _ _ _ _ _ _ _ q=>lt_int q
theorem PN:OpR X (compareOp .LtE) (rI0 λ i j=> .bl (decide (i<=j))):=Qb λ _ _ _ _ _ _ _ q=>le_int q
theorem P1:OpR X (compareOp .Gt) (rI0 λ i j=> .bl (decide (j<i))):=Qb λ _ _ _ _ _ _ _ q=>gt_int q
theorem At (b:Expr) {op:CmpOp} (h:op≠ .In:=by decide) (h2:op≠ .NotIn:=by decide):behindInMarks op b=false:=by
  have e1:(op == CmpOp.In)=false:=by cases op <;> first | rfl | exact absurd rfl h
  have e2:(op == CmpOp.NotIn)=false:=by cases op <;> first | rfl | exact absurd rfl h2
  cases b <;> simp [behindInMarks,e1,e2]
theorem Bj {op:CmpOp} {r:R2} (ho:OpR X (compareOp op) r) (ha:PE X a ta) (hb:PE X b tb) (hm:behindInMarks op b=false):PE X (.Compare a [op] [b] pos) (tOp r ta tb):=by
  intro pins s σ H Q I h;exact wpAny_Compare1 (QU ha hb I h λ v u s2 x y H2 I2 rx ry q=>ho pins s2 σ H2 x y v u Q I2 rx ry q) hm
def P0 (t:TE):TT:=λ σ H Q=>t σ H λ x H'=>∃ k,x= .bl k/\Q k H'
theorem AE {op:CmpOp} {r:R2} (ho:OpR X (compareOp op) r) (ha:PE X a ta) (hb:PE X b tb) (hm:behindInMarks op b=false):PT X (.Compare a [op] [b] pos) (P0 (tOp r ta tb)):=by
  intro pins s σ H Q I h;refine wpAny_isTrue_Compare1 (thn (ha pins s σ H _ I h) λ v s1 ⟨x,H1,I1,r1,q1⟩=>thn (hb pins s1 σ H1 _ I1 q1) λ u s2 ⟨y,H2,I2,r2,q2⟩=>
    thn (ho pins s2 σ H2 x y v u _ I2 r1 r2 q2) λ c s3 ⟨z,H3,I3,r3,k,e,q3⟩=> ?_) hm
  subst e;cases r3;exact wpAny_truthy_bool ⟨H3,I3,q3⟩
def MQ (r r':R2) (ta tb tc:TE):TE:=λ σ H Q=>ta σ H λ x H1=>tb σ H1 λ y H2=>r x y H2 λ z H3=>∃ k,z= .bl k/\
  (if k=true then tc σ H3 λ w' H4=>r' y w' H4 Q else Q (.bl false) H3)
theorem MU {op op':CmpOp} {r r':R2} (ho:OpR X (compareOp op) r) (ho':OpR X (compareOp op') r') (ha:PE X a ta) (hb:PE X b tb) (hc:PE X c tc)
    (hm:lastMarks [op,op'] [b,c]=false:=by with_unfolding_all rfl):PE X (.Compare a [op,op'] [b,c] pos) (MQ r r' ta tb tc):=by
  intro pins s σ H Q I h;refine Compare_chain (thn (ha pins s σ H _ I h) λ v s1 ⟨x,H1,I1,r1,q1⟩=>chain_link (thn (hb pins s1 σ H1 _ I1 q1) λ u s2 ⟨y,H2,I2,r2,q2⟩=>
    thn (ho pins s2 σ H2 x y v u _ I2 r1 r2 q2) λ d s3 ⟨z,H3,I3,r3,k,e,q3⟩=> ?_)) hm
  subst e;cases r3;refine wpAny_truthy_bool ?_;cases k with
  | false=>exact ite_ff ⟨.bl false,H3,I3,rfl,q3⟩
  | true=>exact ite_tt (chain_last (thn (hc pins s3 σ H3 _ I3 q3) λ w' s4 ⟨z',H4,I4,r4,q4⟩=>ho' pins s4 σ H4 y z' u w' Q I4 r2 r4 q4))
def Wy (K:PySem.W.Frag) (x:V) (H:Hp) (k:Bool):Prop:=
  match x with
  | .non=>k=false
  | .bl b=>k=b
  | .int i=>k=(i != 0)
  | .str y=>y.length<=sizeLine/\k=((y.length:Int) != 0)
  | .byt y=>y.size<=sizeLine/\k=((y.size:Int) != 0)
  | .ref p=>(∃ xs,SqL K H p xs/\k= !xs.isEmpty)\/(∃ xs,SqT K H p xs/\k= !xs.isEmpty)\/∃ kvs,H p=some (.dK kvs)/\k= !kvs.isEmpty
  | _=>False
theorem Kc {κ:Type} {kvs:List (κ × V)} {vs:List (κ × Value)} (r:KV kvs vs):(!vs.isEmpty)= !kvs.isEmpty:=by
  cases r <;> rfl
theorem Gu {xs:List V} {its:List Value} (r:Vals xs its):(!its.toArray.isEmpty)= !xs.isEmpty:=by
  cases r <;> simp
theorem GO:(sizeLine:Nat)<2 ^ 63:=by rw [sizeLine_eq];decide
theorem Wv:WA X (λ x H Q=>∃ k,Wy X.K x H k/\Q k H):=by
  intro pins s σ H x v Q I rx h;obtain ⟨k,e,q⟩:=h;have hl:=GO;have hs:sizeLine=16777216:=sizeLine_eq;cases x with
  | non=>
    cases rx;have e':k=false:=e;subst e';exact truthy_none ⟨H,I,q⟩
  | bl b=>
    cases rx;have e':k=b:=e;subst e';exact wpAny_truthy_bool ⟨H,I,q⟩
  | int i=>
    obtain ⟨t,rfl⟩:=rx;have e':k=(i != 0):=e;subst e';exact PySem.P.truthy_int ⟨H,I,q⟩
  | str y=>
    obtain ⟨t,rfl⟩:=rx;obtain ⟨hy,e'⟩:y.length<=sizeLine/\k=((y.length:Int) != 0):=e;subst e';exact PySem.P.truthy_str (by omega) ⟨H,I.tok _,q⟩
  | byt y=>
    obtain ⟨t,rfl⟩:=rx;obtain ⟨hy,e'⟩:y.size<=sizeLine/\k=((y.size:Int) != 0):=e;subst e';exact PySem.W.truthy_bytes (by omega) ⟨H,I.tok _,q⟩
  | ref p=>
    cases rx;have e':(∃ xs,SqL X.K H p xs/\k= !xs.isEmpty)\/(∃ xs,SqT X.K H p xs/\k= !xs.isEmpty)\/∃ kvs,H p=some (.dK kvs)/\k= !kvs.isEmpty:=e;rcases e' with ⟨xs,hx,e'⟩ | ⟨xs,hx,e'⟩ | ⟨kvs,hx,e'⟩
    · subst e';obtain ⟨its,r,pl,hz⟩:=I.list hx;have hlen:=r.length;exact wpAny_truthy_list pl.isList (by simp only [List.size_toArray];omega) ⟨H,I.tok _,by rw [Gu r];exact q⟩
    · subst e';obtain ⟨its,r,pl,hz⟩:=I.tuple hx;have hlen:=r.length;exact truthy_tuple pl (by simp only [List.size_toArray];omega) ⟨H,I.tok _,by rw [Gu r];exact q⟩
    · subst e';obtain ⟨hz,hS,vs,r,m⟩:kvs.length<=sizeLine/\(p == sysModules)=false/\∃ vs,KV kvs vs/\s.heap.DictOf (AJ X.prog X.w) p vs:=I.hok p _ hx;have hlen:kvs.length=vs.length:=Paired.length r;exact wpAny_truthy_dict hS m (by omega) ⟨H,I.tok _,by rw [Kc r];exact q⟩
  | _=>exact (show False from e).elim
theorem DF {x:V} {us:List Value} (r:Vals [x] us):∃ u,us=[u]/\RelV x u:=by
  cases r with
  | cons r1 r2=>cases r2;exact ⟨_,rfl,r1⟩
theorem KW {x y:V} {us:List Value} (r:Vals [x,y] us):∃ u w',us=[u,w']/\RelV x u/\RelV y w':=by
  cases r with
  | cons r1 r2=>
    cases r2 with
    | cons r3 r4=>cases r4;exact ⟨_,_,rfl,r1,r3⟩
theorem L8 (hc:X.calm=true):A7 X (.builtin "max") (λ xs H Q=>∃ i j,xs=[.int i, .int j]/\Q (.int (if j>i then j else i)) H):=by
  intro pins s σ H xs us Q I r h;obtain ⟨i,j,rfl,q⟩:=h;obtain ⟨u,w',rfl,⟨t,rfl⟩,⟨t',rfl⟩⟩:=KW r;refine max_two_ints (I.ok.hd hc) λ h' tk k=>⟨_,H,I.kept k,?_,q⟩;by_cases hj:j>i
  · rw [if_pos hj,if_pos hj];exact ⟨_,rfl⟩
  · rw [if_neg hj,if_neg hj];exact ⟨_,rfl⟩
theorem Me (hc:X.calm=true):A7 X (.builtin "min") (λ xs H Q=>∃ i j,xs=[.int i, .int j]/\Q (.int (if j<i then j else i)) H):=by
  intro pins s σ H xs us Q I r h;obtain ⟨i,j,rfl,q⟩:=h;obtain ⟨u,w',rfl,⟨t,rfl⟩,⟨t',rfl⟩⟩:=KW r;refine min_two_ints (I.ok.hd hc) λ h' tk k=>⟨_,H,I.kept k,?_,q⟩;by_cases hj:j<i
  · rw [if_pos hj,if_pos hj];exact ⟨_,rfl⟩
  · rw [if_neg hj,if_neg hj];exact ⟨_,rfl⟩
theorem LM:A7 X (.type "int") (λ xs H Q=>(∃ i,xs=[.int i]/\Q (.int i) H)\/∃ k,xs=[.bl k]/\Q (.int (if k then 1 else 0)) H):=by
  intro pins s σ H xs us Q I r h;rcases h with ⟨i,rfl,q⟩ | ⟨k,rfl,q⟩
  · obtain ⟨u,rfl,t,rfl⟩:=DF r;exact call_int_int ⟨.int i,H,I,⟨_,rfl⟩,q⟩
  · obtain ⟨u,rfl,r1⟩:=DF r;cases r1;exact call_int_bool ⟨.int (if k then 1 else 0),H,I.tok _,⟨_,rfl⟩,q⟩
def Vi (K:PySem.W.Frag) (x:V) (H:Hp) (n:Nat):Prop:=
  match x with
  | .str y=>y.length<=sizeLine/\n=y.length
  | .byt y=>y.size<=sizeLine/\n=y.size
  | .ref p=>(∃ xs,SqL K H p xs/\n=xs.length)\/∃ xs,SqT K H p xs/\n=xs.length
  | _=>False
theorem M7:A7 X (.builtin "len") (λ xs H Q=>∃ x n,xs=[x]/\Vi X.K x H n/\Q (.int n) H):=by
  intro pins s σ H xs us Q I r h;obtain ⟨x,n,rfl,e,q⟩:=h;obtain ⟨u,rfl,rx⟩:=DF r;have hl:=GO;have hs:sizeLine=16777216:=sizeLine_eq;cases x with
  | str y=>
    obtain ⟨t,rfl⟩:=rx;obtain ⟨hy,e'⟩:y.length<=sizeLine/\n=y.length:=e;subst e';exact len_str (by omega) ⟨.int _,H,I.tok _,⟨_,rfl⟩,q⟩
  | byt y=>
    obtain ⟨t,rfl⟩:=rx;obtain ⟨hy,e'⟩:y.size<=sizeLine/\n=y.size:=e;subst e';exact PySem.W.len_bytes (by omega) ⟨.int _,H,I.tok _,⟨_,rfl⟩,q⟩
  | ref p=>
    cases rx;have e':(∃ xs,SqL X.K H p xs/\n=xs.length)\/∃ xs,SqT X.K H p xs/\n=xs.length:=e;rcases e' with ⟨xs,hx,e'⟩ | ⟨xs,hx,e'⟩
    · subst e';obtain ⟨its,r',pl,hz⟩:=I.list hx;have hlen:=r'.length;exact Calls.call_len_list pl.isList (by simp only [List.size_toArray];omega) ⟨.int xs.length,H,I.tok _,⟨_,by simp only [List.size_toArray];rw [hlen]⟩,q⟩
    · subst e';obtain ⟨its,r',pl,hz⟩:=I.tuple hx;have hlen:=r'.length;exact len_tuple pl (by simp only [List.size_toArray];omega) ⟨.int xs.length,H,I.tok _,⟨_,by simp only [List.size_toArray];rw [hlen]⟩,q⟩
  | _=>exact (show False from e).elim
end
structure ObjM (h:Heap) (x dx C:Addr) (mA:Str->Option Value):Prop where
  obj:h.get? x=some (PySem.W.instObj C dx)
  ns:h.Ns1 dx mA
  ne:dx≠x
theorem LD {h:Heap} {dx:Addr} {mA:Str->Option Value} (n:h.Ns1 dx mA):∃ od,h.get? dx=some od/\∀ name,PySem.W.lookIn name od=some (mA name):=by
  obtain ⟨o,es,ep,ho,hd,hk,_,hm⟩:=n;refine ⟨o,ho,λ name=> ?_⟩;have e:=hm name;unfold nsFind findBy at e;rw [<-Array.find?_toList] at e;unfold PySem.W.lookIn;rw [hd];dsimp only;split
  · rename_i y q
    rw [q] at e;exact congrArg some e
  · rename_i q
    rw [q] at e;have a:es.toList.any (·.refKey)=false:=by
      rw [List.any_eq_false];intro y hy;obtain ⟨z,t,hkey⟩:=hk y (Array.mem_toList_iff.mp hy);simp [DictEntry.refKey,hkey]
    have a':¬ es.toList.any (·.refKey)=true:=by rw [a];exact Bool.false_ne_true
    rw [if_neg a'];exact congrArg some e
theorem ObjM.look {h:Heap} {x dx C:Addr} {mA:Str->Option Value} (I:ObjM h x dx C mA):∃ od,PySem.W.InstAt h x (PySem.W.instObj C dx) C (some od)/\∀ name,PySem.W.lookIn name od=some (mA name):=
  let ⟨od,ho,hl⟩:=LD I.ns
  ⟨od,⟨I.obj,rfl,rfl,ho⟩,hl⟩
section
variable {prog:Program} {w:World} {A:Around} {E:Value->Shared->Prop} {s:Shared} {K:PySem.W.Frag} {x dx C f:Addr} {mA:Str->Option Value} {name:Str} {v:Value}
theorem Pb {expr:Bool} {Q:Value->Shared->Prop} (X:K.In s.heap) (I:ObjM s.heap x dx C mA) (hg:PySem.W.plainGet K C name=true) (hh:PySem.W.hasDictIn K C=true)
    (ha:PySem.W.findIn K (.ref C) name=some none) (hv:mA name=some v) (hv':PySem.W.handedIn v=true) (h:Q v { s with toks:=s.toks+1 }):
    wpAny (model prog w) A (getAttr (.ref x) name expr) Q E s:=by
  obtain ⟨od,J,hl⟩:=I.look;exact PySem.W.get_value X J (PySem.W.plainGet_of hg).1 (PySem.W.findObj_own hh ha rfl (by rw [hl,hv])) hv' h
theorem Ni {pl:Sem Bool} {Q:Value × List Value->Shared->Prop} (X:K.In s.heap) (I:ObjM s.heap x dx C mA) (hg:PySem.W.plainGet K C name=true)
    (hf:PySem.W.findIn K (.ref C) name=some (some (.ref f))) (ht:PySem.W.isFn K (.ref f)=true) (hv:mA name=none) (h:Q (.ref f,[.ref x]) s):
    wpAny (model prog w) A (getMethod (.ref x) name pl) Q E s:=by
  obtain ⟨od,J,hl⟩:=I.look;exact PySem.W.method_fn X J (PySem.W.plainGet_of hg).1 (PySem.W.plainGet_of hg).2 hf (beq_iff_eq.mp ht) (by show (PySem.W.lookIn name od).map (·.isSome)=some false;rw [hl,hv];rfl) h
theorem OZ {ns:List Str} {Q:Unit->Shared->Prop} (X:K.In s.heap) (I:ObjM s.heap x dx C mA)
    (hs:PySem.W.findIn K (.ref C) "__setattr__"=some (some (.builtin "object.__setattr__"))) (hp:PySem.W.plainOver K C=true) (ht:PySem.W.takerIn K C name=some none) (hh:PySem.W.hasDictIn K C=true)
    (hw:PySem.Within mA ns) (hsz:ns.length<=sizeLine)
    (h:∀ h',ObjM h' x dx C (λ y=>if y=name then some v else mA y)->Heap.SameBut dx s.heap h'->Q () { s with heap:=h',toks:=s.toks+2 }):
    wpAny (model prog w) A (setAttr (.ref x) name v) Q E s:=by
  obtain ⟨od,J,hl⟩:=I.look;refine PySem.W.set_plain X J hs (PySem.W.osa_open (s:={ s with toks:=s.toks+1 }) (r:=none) X J hp ht λ b=> ?_);obtain ⟨cd,hc,hd'⟩:=PySem.W.any_some hh;have hx:s.heap.get? x=some ⟨.ref C,some dx, .plain, #[]⟩:=I.obj;refine wpAny_bind (wpAny_pure (wpAny_bind (wpAny_bind (wpAny_loadPart hx (wpAny_bind (PySem.W.Looks.here (s:={ s with toks:=s.toks+1 }) (PySem.W.looks_clsIn X hc) ?_))))));rw [hd'];refine wpAny_pure (a:=some dx) (wpAny_bind (wpAny_pure (wpAny_bind ?_)));refine wpAny_nsSet1 (s:={ s with toks:=s.toks+1 }) I.ns λ h' hn2 hs2=> ?_;obtain ⟨oD,esD,epD,hoD,hdD,hcD⟩:=hn2.count (PySem.Within.cons name v hw);refine wpAny_bind (wpAny_lookBehind hoD (by rw [hdD];exact pastItsLine_dict (Nat.le_trans hcD (by rw [List.length_cons];omega))) ?_);exact wpAny_pure (h _ ⟨(hs2.2 _ (Ne.symm I.ne)).trans I.obj,hn2,I.ne⟩ hs2)
theorem Nb {R:Result->Shared->Prop} {vs:List Value} {kw:List (Str × Value)} (X:K.In s.heap) (hm:PySem.W.makesIn K C=true)
    (hi:PySem.W.findIn K (.ref C) "__init__"=some (some (.ref f))) (hf:PySem.W.typeIn K (.ref f)=some (.type "function"))
    (h:codeAny (model prog w) (A.under (.builtin "type.__call__" ⟨.ref C::vs,kw⟩)) (.call (.ref f) ⟨.ref (s.heap.objs.size+1)::vs,kw⟩) (PySem.W.InitBack (s.heap.objs.size+1) R)
      { s with heap:=(s.heap.push PySem.W.emptyDict).push (PySem.W.instObj C s.heap.objs.size) }):
    codeAny (model prog w) A (.call (.ref C) ⟨vs,kw⟩) R s:=by
  obtain ⟨hh,g,d,t,os⟩:=s;exact PySem.W.make_core (PySem.W.makes_of X hm) (PySem.W.looks_findIn X hi) (λ self=>PySem.W.bind_fn X self hf) (.inl rfl) h
end
def C8 (f:Str) (v:V):List (Str × V)->List (Str × V)
  | []=>[(f,v)]
  | (g,x)::r=>if g=f then (g,v)::r else (g,x)::C8 f v r
theorem Fu (f g:Str) (v:V):∀ fs:List (Str × V),(C8 f v fs).lookup g=if g=f then some v else fs.lookup g
  | []=>by
    show List.lookup g [(f,v)]=_;by_cases h:g=f
    · have hb:(g == f)=true:=beq_iff_eq.mpr h;simp only [List.lookup,hb,if_pos h]
    · have hb:(g == f)=false:=beq_eq_false_iff_ne.mpr h;simp only [List.lookup,hb,if_neg h]
  | (k,x)::r=>by
    have ih:=Fu f g v r;rw [show C8 f v ((k,x)::r)=(if k=f then (k,v)::r else (k,x)::C8 f v r) from rfl];by_cases hk:k=f
    · rw [if_pos hk];by_cases h:g=k
      · have hb:(g == k)=true:=beq_iff_eq.mpr h;simp only [List.lookup,hb,if_pos (h.trans hk)]
      · have hb:(g == k)=false:=beq_eq_false_iff_ne.mpr h;simp only [List.lookup,hb,if_neg (λ e:g=f=>h (e.trans hk.symm))]
    · rw [if_neg hk];by_cases h:g=k
      · have hb:(g == k)=true:=beq_iff_eq.mpr h;simp only [List.lookup,hb,if_neg (λ e:g=f=>hk (h.symm.trans e))]
      · have hb:(g == k)=false:=beq_eq_false_iff_ne.mpr h;simp only [List.lookup,hb];exact ih
theorem Ff (f:Str) (v:V):∀ fs:List (Str × V),f∈(C8 f v fs).map (·.1)/\∀ g,g∈fs.map (·.1)->g∈(C8 f v fs).map (·.1)
  | []=>⟨by simp [C8],λ g h=>by simp at h⟩
  | (k,x)::r=>by
    obtain ⟨i1,i2⟩:=Ff f v r;rw [show C8 f v ((k,x)::r)=(if k=f then (k,v)::r else (k,x)::C8 f v r) from rfl];by_cases hk:k=f
    · rw [if_pos hk];subst hk;exact ⟨by simp,λ g h=>by simpa using h⟩
    · rw [if_neg hk];refine ⟨?_,λ g h=> ?_⟩
      · rw [List.map_cons];exact List.mem_cons_of_mem _ i1
      · rw [List.map_cons] at h ⊢;rcases List.mem_cons.mp h with e | e
        · exact List.mem_cons.mpr (.inl e)
        · exact List.mem_cons_of_mem _ (i2 g e)
theorem Fy (f:Str) (v:V):∀ fs:List (Str × V),(C8 f v fs).length<=fs.length+1
  | []=>by simp [C8]
  | (k,x)::r=>by
    have ih:=Fy f v r;rw [show C8 f v ((k,x)::r)=(if k=f then (k,v)::r else (k,x)::C8 f v r) from rfl];by_cases hk:k=f
    · rw [if_pos hk,List.length_cons,List.length_cons];omega
    · rw [if_neg hk,List.length_cons,List.length_cons];omega
theorem RelO.some_of {v:V} {o:Option Value} (r:RelO (some v) o):∃ u,o=some u/\RelV v u:=by
  cases o with
  | none=>exact (show False from r).elim
  | some u=>exact ⟨u,rfl,r⟩
theorem RelO.none_of {o:Option Value} (r:RelO none o):o=none:=by
  cases o with
  | none=>rfl
  | some u=>exact (show False from r).elim
theorem Lm {v:V} {u:Value} (r:RelV v u):PySem.W.handedIn u=true:=by
  cases v with
  | non=>cases (show u=Value.none from r);rfl
  | bl b=>cases (show u=Value.bool b from r);rfl
  | int i=>obtain ⟨t,e⟩:=(show ∃ t,u=Value.int i t from r);cases e;rfl
  | str x=>obtain ⟨t,e⟩:=(show ∃ t,u=Value.str x t from r);cases e;rfl
  | byt b=>obtain ⟨t,e⟩:=(show ∃ t,u=Value.bytes b t from r);cases e;rfl
  | flt b=>obtain ⟨t,e⟩:=(show ∃ t,u=Value.float b t from r);cases e;rfl
  | ref a=>cases (show u=Value.ref a from r);rfl
  | ty n=>cases (show u=Value.type n from r);rfl
section
variable {P:Program} {w:World} {H H':Hp} {h h':Heap} {a C dx:Addr} {fs fs':List (Str × V)}
theorem EX (hok:HOk P w H h) (e:H a=some (.ins C dx fs)):∃ mA,ObjM h a dx C mA/\(∀ f,RelO (fs.lookup f) (mA f))/\PySem.Within mA (fs.map (·.1))/\fs.length<=1000/\H dx=some (.own a):=by
  obtain ⟨d,z,ne,ob,mA,n,r,q⟩:=(show ObjOk P w H h a (.ins C dx fs) from hok a _ e);exact ⟨mA,⟨ob,n,ne⟩,r,q,z,d⟩
end
structure Cls (K:PySem.W.Frag) (C:Addr):Prop where
  pg:PySem.W.plainGet K C Str.empty=true
  hd:PySem.W.hasDictIn K C=true
  po:PySem.W.plainOver K C=true
  sa:PySem.W.findIn K (.ref C) "__setattr__"=some (some (.builtin "object.__setattr__"))
theorem Cls.get {K:PySem.W.Frag} {C:Addr} (c:Cls K C) (f:Str):PySem.W.plainGet K C f=true:=c.pg
def NoAttr (K:PySem.W.Frag) (C:Addr) (f:Str):Prop:=PySem.W.findIn K (.ref C) f=some none
theorem NoAttr.taker {K:PySem.W.Frag} {C:Addr} {f:Str} (n:NoAttr K C f):PySem.W.takerIn K C f=some none:=by
  unfold PySem.W.takerIn;rw [show PySem.W.findIn K (.ref C) f=some none from n];rfl
structure Con (K:PySem.W.Frag) (C:Addr) (f:Str) (v:V) (u:Value):Prop where
  at_:PySem.W.findIn K (.ref C) f=some (some u)
  rel:RelV v u
  get:PySem.W.specialIn K u "__get__"=some none
  cp:PySem.W.copiedNames.contains f=false
structure Meth (K:PySem.W.Frag) (C:Addr) (m:Str) (f:Addr):Prop where
  at_:PySem.W.findIn K (.ref C) m=some (some (.ref f))
  fn:PySem.W.isFn K (.ref f)=true
  kp:PySem.W.keepIn K (.ref f)=true
section
variable {X:Cx} {pins:List (Addr × Obj)} {σ:St} {H:Hp} {s:Shared} {a C dx:Addr} {fs:List (Str × V)} {f:Str} {v:V} {A:Around} {E:Value->Shared->Prop}
theorem JZ {b:Bool} {Q:Value->Shared->Prop} (I:Inv X pins σ H s) (e:H a=some (.ins C dx fs)) (c:Cls X.K C) (n:NoAttr X.K C f) (l:fs.lookup f=some v)
    (h:∀ u s',Inv X pins σ H s'->RelV v u->Q u s'):wpAny (model X.prog X.w) A (getAttr (.ref a) f b) Q E s:=by
  obtain ⟨mA,O,r,_,_,_⟩:=EX I.hok e;obtain ⟨u,hu,ru⟩:=RelO.some_of (v:=v) (o:=mA f) (by rw [<-l];exact r f);exact Pb I.kIn O (c.get f) c.hd n hu (Lm ru) (h u _ (I.tok _) ru)
theorem Ep {m:Str} {g:Addr} {pl:Sem Bool} {Q:Value × List Value->Shared->Prop} (I:Inv X pins σ H s) (e:H a=some (.ins C dx fs)) (c:Cls X.K C) (k:Meth X.K C m g) (l:fs.lookup m=none)
    (h:Q (.ref g,[.ref a]) s):wpAny (model X.prog X.w) A (getMethod (.ref a) m pl) Q E s:=by
  obtain ⟨mA,O,r,_,_,_⟩:=EX I.hok e;have hn:mA m=none:=RelO.none_of (by rw [<-l];exact r m);exact Ni I.kIn O (c.get m) k.at_ k.fn hn h
theorem JO {y:V} {u:Value} {Q:Unit->Shared->Prop} (I:Inv X pins σ H s) (e:H a=some (.ins C dx fs)) (c:Cls X.K C) (n:NoAttr X.K C f) (hl:fs.length<1000) (ry:RelV y u)
    (h:∀ s',Inv X pins σ (upd H a (.ins C dx (C8 f y fs))) s'->Q () s'):wpAny (model X.prog X.w) A (setAttr (.ref a) f u) Q E s:=by
  obtain ⟨mA,O,r,wi,_,ho⟩:=EX I.hok e;have hz:(fs.map (·.1)).length<=sizeLine:=by rw [List.length_map,sizeLine_eq];omega
  refine OZ I.kIn O c.sa c.po n.taker c.hd wi hz λ h' O' sb=>h _ ?_;have hd:∃ o,h'.get? dx=some o:=let ⟨o,_,_,e',_⟩:=O'.ns;⟨o,e'⟩;refine I.write (x:=a) (e:=dx) (by rw [e];exact True.intro) (.inr ho) (λ b q hb z=>(sb.2 b hb).trans z) hd ?_;refine ⟨by rw [Am O.ne];exact ho,?_,O.ne,O'.obj,_,O'.ns,λ g=> ?_,λ g hg=> ?_⟩
  · have:=Fy f y fs;omega
  · show RelO ((C8 f y fs).lookup g) (if g=f then some u else mA g);rw [Fu];by_cases q:g=f
    · rw [if_pos q,if_pos q];exact ry
    · rw [if_neg q,if_neg q];exact r g
  · by_cases q:g=f
    · rw [q];exact (Ff f y fs).1
    · refine (Ff f y fs).2 g (wi g λ z=>hg ?_);show (if g=f then some u else mA g)=none;rw [if_neg q];exact z
theorem Inv.made (I:Inv X pins σ H s):Inv X pins σ (upd (upd H s.heap.objs.size (.own (s.heap.objs.size+1))) (s.heap.objs.size+1) (.ins C s.heap.objs.size []))
    { s with heap:=(s.heap.push PySem.W.emptyDict).push (PySem.W.instObj C s.heap.objs.size) }:=by
  have e1:(s.heap.push PySem.W.emptyDict).get? s.heap.objs.size=some PySem.W.emptyDict:=Heap.get?_push_size s.heap rfl;have e2:((s.heap.push PySem.W.emptyDict).push (PySem.W.instObj C s.heap.objs.size)).get? (s.heap.objs.size+1)=some (PySem.W.instObj C s.heap.objs.size):=by
    have:=Heap.get?_push_size (s.heap.push PySem.W.emptyDict) (o:=PySem.W.instObj C s.heap.objs.size) rfl
    rwa [Heap.size_push] at this
  have e3:(s.heap.push PySem.W.emptyDict).Ns s.heap.objs.size (λ _=>none):=⟨PySem.W.emptyDict, #[],_,e1,rfl,(λ e he=>absurd he (by simp)),λ _=>rfl⟩;have I1:=I.laid (a:=s.heap.objs.size) (o:= .own (s.heap.objs.size+1)) (h':=s.heap.push PySem.W.emptyDict) (t':=s.toks) (λ b u q=>Heap.get?_push_of_some _ q) (Nat.le_refl _) ⟨_,e1⟩;refine I1.laid (a:=s.heap.objs.size+1) (o:= .ins C s.heap.objs.size []) (t':=s.toks) (λ b u q=>Heap.get?_push_of_some _ q) (Nat.le_of_eq (Heap.size_push _ _)) ?_;have ne:s.heap.objs.size≠s.heap.objs.size+1:=Nat.ne_of_lt (Nat.lt_succ_self _);refine ⟨by rw [Am ne,Ae],Nat.zero_le _,ne,e2,λ _=>none,(Heap.Ns1.of_empty e3).at λ o q=>Heap.get?_push_of_some _ q,λ _=>True.intro,λ y hy=>absurd rfl hy⟩
theorem OP {prog:Program} {w:World} {env:Env} {e:Expr} {f:Str} {pos:Pos} {s:Shared} {Q:Value->Shared->Prop} (hb:attributeBase e f env (eval e env)=eval e env)
    (h:wpAny (model prog w) A (eval e env) (λ o s₁=>wpAny (model prog w) A (getAttr o f true) Q E s₁) E s):wpAny (model prog w) A (eval (.Attribute e f pos) env) Q E s:=
  Attribute_any_ h (by rw [arm_eval_Attribute,hb])
end
def QB (K:PySem.W.Frag) (ta:TE) (f:Str):TE:=λ σ H Q=>ta σ H λ x H1=>∃ a C dx fs v,x= .ref a/\H1 a=some (.ins C dx fs)/\Cls K C/\NoAttr K C f/\fs.lookup f=some v/\Q v H1
def V7 (K:PySem.W.Frag) (ta tv:TE) (f:Str):TS:=λ D σ H=>tv σ H λ y H1=>ta σ H1 λ x H2=>∃ a C dx fs,x= .ref a/\H2 a=some (.ins C dx fs)/\Cls K C/\NoAttr K C f/\fs.length<1000/\
  D.nx σ (upd H2 a (.ins C dx (C8 f y fs)))
section
variable {X:Cx} {o e value:Expr} {f:Str} {pos pos' tpos:Pos} {ta tv:TE}
theorem RW (he:PE X e ta) (hb:attributeBase e f X.env (eval e X.env)=eval e X.env):PE X (.Attribute e f pos) (QB X.K ta f):=by
  intro pins s σ H Q I h;refine OP hb (thn (he pins s σ H _ I h) λ u s1 ⟨x,H1,I1,rx,a,C,dx,fs,v,ex,ea,c,n,l,q⟩=> ?_);subst ex;obtain rfl:u=Value.ref a:=rx;exact JZ I1 ea c n l λ u' s2 I2 ru=>⟨v,H1,I2,ru,q⟩
theorem Nu (ha:PE X o ta) (hv:PE X value tv) (hs:swapsWith value (some (.Attribute o f pos')) pos.line X.env=pure false):PS X (.Assign [.Attribute o f pos'] value pos) (V7 X.K ta tv f):=by
  intro pins s σ H D I h;refine plainObj_wpAny_Assign_Attribute (thn (hv pins s σ H _ I h) λ u s1 ⟨y,H1,I1,ry,q⟩=>thn (ha pins s1 σ H1 _ I1 q) λ ov s2 ⟨x,H2,I2,rx,a,C,dx,fs,ex,ea,c,n,l,q2⟩=> ?_) hs;subst ex;obtain rfl:ov=Value.ref a:=rx;exact JO I2 ea c n l ry λ s3 I3=>⟨σ,_,I3,q2⟩
theorem PM {pl:Sem Bool} {m:Str} {apos:Pos} {args:List Expr} {pins:List (Addr × Obj)} {s:Shared} {σ:St} {H:Hp} {Q:Value->Shared->Prop} {te:TE} (he:PE X e te) (I:Inv X pins σ H s)
    (h:te σ H λ x H1=>∃ a C dx fs g,x= .ref a/\H1 a=some (.ins C dx fs)/\Cls X.K C/\Meth X.K C m g/\fs.lookup m=none/\
      ∀ s1,Inv X pins σ H1 s1->wpAny (model X.prog X.w) X.A (callWith pos (.ref g) [.ref a] (backTo pos (starEach args X.env)) (backToKw pos (keywordEach [] X.env))) Q X.xe s1)
    (ht:eval (.Call (.Attribute e m apos) args [] pos) X.env=(do
      let ov <-eval e X.env
      standAt apos.atName
      let (f,first) <-holding [ov] (getMethod ov m pl)
      callWith pos f first (backTo pos (starEach args X.env)) (backToKw pos (keywordEach [] X.env)))):
    wpAny (model X.prog X.w) X.A (eval (.Call (.Attribute e m apos) args [] pos) X.env) Q X.xe s:=by
  refine PySem.W.methodCall_KW (pl:=pl) (thn (he pins s σ H _ I h) λ u s1 ⟨x,H1,I1,rx,a,C,dx,fs,g,ex,ea,c,k,l,q⟩=> ?_) ht;subst ex;obtain rfl:u=Value.ref a:=rx;exact Ep I1 ea c k l (q s1 I1)
end
section
variable {X:Cx} {pins:List (Addr × Obj)} {σ:St} {H:Hp} {s:Shared} {A:Around} {E:Value->Shared->Prop} {Q:Value->Shared->Prop} {c:Value} {b:Bool}
inductive TyOf (K:PySem.W.Frag) (H:Hp):V->Value->Prop where
  | non:TyOf K H .non (.type "NoneType")
  | bl (x:Bool):TyOf K H (.bl x) (.type "bool")
  | int (i:Int):TyOf K H (.int i) (.type "int")
  | str (x:Str):TyOf K H (.str x) (.type "str")
  | flt (x:UInt64):TyOf K H (.flt x) (.type "float")
  | lst {a:Addr} {xs:List V} (e:H a=some (.lst xs)):TyOf K H (.ref a) (.type "list")
  | frz {a:Addr} {o:Obj} {xs:List V} (e:H a=some (.frz o (.lst xs))):TyOf K H (.ref a) (.type "list")
  | tup {a:Addr} {xs:List V} (e:H a=some (.tup xs)):TyOf K H (.ref a) (.type "tuple")
  | dK {a:Addr} {kvs:List (Key × V)} (e:H a=some (.dK kvs)):TyOf K H (.ref a) (.type "dict")
  | dT {a:Addr} {kvs:List (List Key × V)} (e:H a=some (.dT kvs)):TyOf K H (.ref a) (.type "dict")
  | ins {a C dx:Addr} {fs:List (Str × V)} (e:H a=some (.ins C dx fs)) (cl:Cls K C) (ha:PySem.W.findIn K (.ref C) "__class__"=some (some (.builtin "object.__class__")))
      (hn:PySem.W.specialIn K (.builtin "object.__class__") "__get__"=some (some (.builtin "getset_descriptor.__get__"))) (htk:PySem.W.takesIn K (.builtin "object.__class__")=some true)
      (hm:PySem.W.mroIn K C (.type "object")=some true):TyOf K H (.ref a) (.ref C)
theorem LH {x:V} {u t:Value} (I:Inv X pins σ H s) (rx:RelV x u) (ty:TyOf X.K H x t) (e:PySem.W.kitOne X.K t c=some b) (h:∀ tk,Q (.bool b) { s with toks:=tk }):
    wpAny (model X.prog X.w) A (call (.builtin "isinstance") [u,c]) Q E s:=by
  cases ty with
  | non=>cases (show u=Value.none from rx);exact PySem.W.kia_one PySem.W.kitx_none I.kIn True.intro e (λ z=>nomatch z) h
  | bl y=>cases (show u=Value.bool y from rx);exact PySem.W.kia_one PySem.W.kitx_bool I.kIn True.intro e (λ z=>nomatch z) h
  | int i=>obtain ⟨t,q⟩:=(show ∃ t,u=Value.int i t from rx);cases q;exact PySem.W.kia_one PySem.W.kitx_int I.kIn True.intro e (λ z=>nomatch z) h
  | str y=>obtain ⟨t,q⟩:=(show ∃ t,u=Value.str y t from rx);cases q;exact PySem.W.kia_one PySem.W.kitx_str I.kIn True.intro e (λ z=>nomatch z) h
  | flt y=>obtain ⟨t,q⟩:=(show ∃ t,u=Value.float y t from rx);cases q;exact PySem.W.kia_one PySem.W.kitx_float I.kIn True.intro e (λ z=>nomatch z) h
  | @lst a xs ea=>
    cases (show u=Value.ref a from rx);obtain ⟨_,_,n,_,h1⟩:=(show ObjOk X.prog X.w H s.heap a (.lst xs) from I.hok a _ ea);exact PySem.W.kia_one PySem.W.kitx_list I.kIn ⟨_,h1,rfl⟩ e (λ z=>nomatch z) h
  | @frz a ob xs ea=>
    cases (show u=Value.ref a from rx);obtain ⟨_,_,_,n,_,h1⟩:=(show ObjOk X.prog X.w H s.heap a (.frz ob (.lst xs)) from I.hok a _ ea);exact PySem.W.kia_one PySem.W.kitx_list I.kIn ⟨_,h1,rfl⟩ e (λ z=>nomatch z) h
  | @tup a xs ea=>
    cases (show u=Value.ref a from rx);obtain ⟨_,_,_,p⟩:=(show ObjOk X.prog X.w H s.heap a (.tup xs) from I.hok a _ ea);obtain ⟨o,h1,h2,_⟩:=p;exact PySem.W.kia_one PySem.W.kitx_tuple I.kIn ⟨o,h1,h2⟩ e (λ z=>nomatch z) h
  | @dK a kvs ea=>
    cases (show u=Value.ref a from rx);obtain ⟨_,_,vs,_,p⟩:=(show ObjOk X.prog X.w H s.heap a (.dK kvs) from I.hok a _ ea);obtain ⟨o,es,ep,h1,h2,_⟩:=p;exact PySem.W.kia_one PySem.W.kitx_dict I.kIn ⟨o,h1,h2.1⟩ e (λ z=>nomatch z) h
  | @dT a kvs ea=>
    cases (show u=Value.ref a from rx);obtain ⟨_,_,xs,_,o,es,ep,h1,h2,_⟩:=(show ObjOk X.prog X.w H s.heap a (.dT kvs) from I.hok a _ ea);exact PySem.W.kia_one PySem.W.kitx_dict I.kIn ⟨o,h1,h2.1⟩ e (λ z=>nomatch z) h
  | @ins a C dx fs ea cl ha hn htk hm=>
    cases (show u=Value.ref a from rx);obtain ⟨mA,O,_⟩:=EX I.hok ea;obtain ⟨od,J,_⟩:=O.look;exact PySem.W.kia_one (PySem.W.kitx_own (cl.get _) cl.hd ha hn htk hm) I.kIn J e (λ z=>nomatch z) h
end
structure Room (k:Nat) (A:Around):Prop where
  hd:A.handled=none
  dp:A.depth+3*k+5<recursionLimit
  un:A.units+16*k+200<cLine
theorem Room.mono {j k:Nat} {A:Around} (r:Room k A) (h:j<=k):Room j A:=⟨r.hd,by have:=r.dp;omega,by have:=r.un;omega⟩
theorem Room.deeper {k:Nat} {A:Around} (r:Room (k+1) A) (env:Env):Room k (A.deeper env):=
  ⟨r.hd,by have:=r.dp;show A.depth+1+3*k+5<_;omega,by have:=r.un;show A.units+3+16*k+200<_;omega⟩
theorem JV {A:Around} {C:Addr} {us:List Value} {kw:List (Str × Value)}:(A.under (.builtin "type.__call__" ⟨.ref C::us,kw⟩)).depth=A.depth+1:=by
  first | rfl | simp [Around.under,Code.weight,Code.isCreation,Code.isGuard,Code.isCaller,Code.frames,Code.isFrame,guardIds]
theorem J5 {A:Around} {C:Addr} {us:List Value} {kw:List (Str × Value)}:(A.under (.builtin "type.__call__" ⟨.ref C::us,kw⟩)).units=A.units+1:=by
  first | rfl | simp [Around.under,Code.cUnits,Code.frames,Code.isFrame]
theorem Room.make {k:Nat} {A:Around} (r:Room (k+1) A) (C:Addr) (us:List Value) (kw:List (Str × Value)):Room k (A.under (.builtin "type.__call__" ⟨.ref C::us,kw⟩)):=
  ⟨r.hd,by have:=r.dp;rw [JV];omega,by have:=r.un;rw [J5];omega⟩
theorem Room.depth {k:Nat} {A:Around} (r:Room k A):A.depth<recursionLimit:=by have:=r.dp;omega
theorem Room.units {k:Nat} {A:Around} (r:Room k A):A.units+64<cLine:=by have:=r.un;omega
theorem Room.units0 {k:Nat} {A:Around} (r:Room k A):A.units<cLine:=by have:=r.un;omega
def Ll:TA:=λ _ H Q=>Q [] H
def IZ (ta:TE) (tr:TA):TA:=λ σ H Q=>ta σ H λ x H1=>tr σ H1 λ xs H2=>Q (x::xs) H2
section
variable {X:Cx} {e:Expr} {es:List Expr} {te:TE} {t:TA} {pos:Pos}
theorem Ab:PA X [] Ll:=λ _ _ _ _ H Q I h=>Calls.spliced_nil ⟨[],H,I, .nil,h⟩
theorem Aa (ha:PE X e te) (hr:PA X es t) (hs:starEach (e::es) X.env=(false,eval e X.env)::starEach es X.env:=by rfl):PA X (e::es) (IZ te t):=by
  intro pos pins s σ H Q I h;rw [hs];show wpAny _ _ (spliced ((false,eval e X.env)::backTo pos (starEach es X.env))) _ _ s;refine Calls.spliced_cons (thn (ha pins s σ H _ I h) λ u s1 ⟨x,H1,I1,r1,q1⟩=> ?_);exact thn (hr pos pins s1 σ H1 _ I1 q1) λ us s2 ⟨xs,H2,I2,r2,q2⟩=>⟨x::xs,H2,I2, .cons r1 r2,q2⟩
def Tq (t:TA):TE:=λ σ H Q=>t σ H λ xs H1=>xs.length<=sizeLine/\∀ p,H1 p=none->Q (.ref p) (upd H1 p (.tup xs))
def VN (t:TA):TE:=λ σ H Q=>t σ H λ xs H1=>xs.length<=sizeLine/\∀ p,H1 p=none->Q (.ref p) (upd H1 p (.lst xs))
theorem A5 {x1} (h:PA X es t):PE X (.Tuple es x1 pos) (Tq t):=by
  intro pins s σ H Q I hq;refine wpAny_Tuple_spliced (thn (h pos pins s σ H _ I hq) λ us s1 ⟨xs,H1,I1,r,z,q⟩=>⟨by rw [<-r.length];exact z,?_⟩);have hf:H1 s1.heap.objs.size=none:=I1.hok.fresh (Nat.le_refl _);refine ⟨.ref s1.heap.objs.size,upd H1 s1.heap.objs.size (.tup xs),I1.laid (t':=s1.toks) (λ b u e=>Heap.get?_push_of_some _ e) (Nat.le_refl _) ?_,rfl,q _ hf⟩;exact ⟨z,us,r,⟨_,Heap.get?_push_size _ rfl,rfl,_,rfl⟩⟩
theorem AT (h:PA X es t):PE X (.List es pos) (VN t):=by
  intro pins s σ H Q I hq;refine wpAny_List_spliced (thn (h pos pins s σ H _ I hq) λ us s1 ⟨xs,H1,I1,r,z,q⟩=>⟨by rw [<-r.length];exact z,?_⟩);have hf:H1 s1.heap.objs.size=none:=I1.hok.fresh (Nat.le_refl _);refine ⟨.ref s1.heap.objs.size,upd H1 s1.heap.objs.size (.lst xs),I1.laid (t':=s1.toks) (λ b u e=>Heap.get?_push_of_some _ e) (Nat.le_refl _) ?_,rfl,q _ hf⟩;exact ⟨z,us,0,r,Heap.get?_push_size _ rfl⟩
end
abbrev Sp:=List V->Hp->VK->XK->Prop
abbrev CXT:=List Env->Hp->Shared->XK->Value->Shared->Prop
structure Env0 (P:Program) (w:World) (K:PySem.W.Frag) (mg:Str->Option Value) (base:Heap) (A:Around) (outer:List Env) (s:Shared) (H:Hp):Prop where
  frames:A.frames=some outer
  mod:Mod K mg base
  bs:∀ b o,base.get? b=some o->s.heap.get? b=some o/\H b=none
  bsz:base.objs.size<=s.heap.objs.size
  funs:s.heap.FunFrames base outer
  frf:∀ b∈frs outer,H b=none
  hok:HOk P w H s.heap
  bare:AllBare s.gens
def CE (outer:List Env) (P:Program) (w:World) (H:Hp) (s:Shared) (Q:VK) (u:Value) (s':Shared):Prop:=
  ∃ v H',s'.os=s.os/\AllBare s'.gens/\Un (frs outer) [] H H' s.heap s'.heap/\HOk P w H' s'.heap/\RelV v u/\Q v H'
def CR (CX:CXT) (outer:List Env) (P:Program) (w:World) (H:Hp) (s:Shared) (Q:VK) (E:XK) (r:Result) (s':Shared):Prop:=
  match r with
  | .ok (.ret u)=>CE outer P w H s Q u s'
  | .ok _=>False
  | .error e=>CX outer H s E e s'
structure FnOk (P:Program) (w:World) (K:PySem.W.Frag) (mg:Str->Option Value) (base:Heap) (CX:CXT) (k:Nat) (f:Addr) (fd:FuncData) (ps:List Str) (sp:Sp):Prop where
  len:∀ vs H Q E,sp vs H Q E->vs.length=ps.length
  run:∀ (A:Around) (outer:List Env) (s:Shared) (H:Hp) (args:Args) (us:List Value) (vs:List V) (Q:VK) (E:XK),Room k A->Env0 P w K mg base A outer s H->BindsTo s fd args (ps.zip us)->Vals vs us->sp vs H Q E->
    codeAny (model P w) A (.call (.ref f) args) (CR CX outer P w H s Q E) s
theorem Env0.make {P:Program} {w:World} {K:PySem.W.Frag} {mg:Str->Option Value} {base:Heap} {A:Around} {outer:List Env} {s:Shared} {H:Hp} (e:Env0 P w K mg base A outer s H) (C:Addr) (us:List Value) (kw:List (Str × Value)):
    Env0 P w K mg base (A.under (.builtin "type.__call__" ⟨.ref C::us,kw⟩)) outer s H:=⟨by first | exact e.frames | (simpa [Around.under,Code.envs,Code.isFrame,pushEnvs] using e.frames),e.mod,e.bs,e.bsz,e.funs,e.frf,e.hok,e.bare⟩
section
variable {X:Cx} {pins:List (Addr × Obj)} {σ:St} {H:Hp} {s s':Shared}
theorem Inv.env0 (I:Inv X pins σ H s):Env0 X.prog X.w X.K X.mg X.base X.A X.stack s H:=
  ⟨I.ok.frames,I.ok.mod,I.bs,Nat.le_trans I.ok.bsz I.sz,I.stack,I.stkFree,I.hok,I.bare⟩
theorem Inv.after {Q:VK} {u:Value} (I:Inv X pins σ H s) (h:CE X.stack X.prog X.w H s Q u s'):EP X pins σ Q u s':=by
  obtain ⟨v,H',os,bare,un,hok,r,q⟩:=h;obtain ⟨hh,g,d,t,os'⟩:=s';obtain rfl:os'=s.os:=os;exact ⟨v,H',I.call (h':=hh) (g':=g) (d':=d) (t':=t) (ch:=[]) un hok bare (λ b z=>absurd z (by simp)),r,q⟩
end
def Ks (sp:Sp) (dvs:List V) (E:XK) (t:TA):TE:=λ σ H Q=>t σ H λ vs H1=>sp (vs++dvs) H1 Q E
def Ht (C:Addr) (m:Str) (sp:Sp) (dvs:List V) (E:XK) (ta:TE) (t:TA):TE:=λ σ H Q=>ta σ H λ x H1=>∃ a dx fs,x= .ref a/\H1 a=some (.ins C dx fs)/\fs.lookup m=none/\
  t σ H1 λ vs H2=>sp (x::(vs++dvs)) H2 Q E
def KJ (C:Addr) (sp:Sp) (dvs:List V) (E:XK) (t:TA):TE:=λ σ H Q=>t σ H λ vs H1=>∀ x dx,H1 x=none->H1 dx=none->dx≠x->
  sp (.ref x::(vs++dvs)) (upd (upd H1 dx (.own x)) x (.ins C dx [])) (λ v H2=>v= .non/\Q (.ref x) H2) E
def Binds (K:PySem.W.Frag) (fd:FuncData) (ps:List Str) (ds:List Value):Prop:=
  ∀ (s:Shared) (us:List Value),K.In s.heap->(us++ds).length=ps.length->BindsTo s fd ⟨us,[]⟩ (ps.zip (us++ds))
theorem Binds.all {K:PySem.W.Frag} {fd:FuncData} {ps:List Str} (h:∀ us:List Value,us.length=ps.length->bindArgs fd ⟨us,[]⟩=pure (ps.zip us)):Binds K fd ps []:=λ s us _ hl=>by
  rw [List.append_nil] at hl ⊢;exact .of_eq (h us hl)
def EB (CX:CXT) (X:Cx) (E:XK):Prop:=∀ (pins:List (Addr × Obj)) (σ:St) (H:Hp) (s:Shared) (e:Value) (s':Shared),Inv X pins σ H s->CX X.stack H s E e s'->X.xe e s'
section
variable {X:Cx} {CX:CXT} {k:Nat} {f C:Addr} {fd:FuncData} {ps:List Str} {sp:Sp} {dvs:List V} {ds:List Value} {E:XK} {x m:Str} {p pos apos:Pos} {e o:Expr} {es:List Expr} {ta:TE} {t:TA}
theorem JP {pins:List (Addr × Obj)} {σ:St} {H:Hp} {s:Shared} {Q:VK} {us:List Value} {vs:List V} (F:FnOk X.prog X.w X.K X.mg X.base CX k f fd ps sp) (hr:Room k X.A) (hb:Binds X.K fd ps ds) (hd:Vals dvs ds) (hx:EB CX X E)
    (I:Inv X pins σ H s) (r:Vals vs us) (h:sp (vs++dvs) H Q E):wpAny (model X.prog X.w) X.A (call (.ref f) us) (EP X pins σ Q) X.xe s:=by
  have r2:Vals (vs++dvs) (us++ds):=r.append hd;have hl:(us++ds).length=ps.length:=by rw [<-r2.length];exact F.len _ _ _ _ h
  refine wpAny_call (codeAny_mono (F.run X.A X.stack s H ⟨us,[]⟩ (us++ds) (vs++dvs) Q E hr I.env0 (hb s us I.kIn hl) r2 h) λ r s' hq=> ?_);cases r with
  | error e=>exact hx pins σ H s e s' I hq
  | ok fl=>
    cases fl with
    | ret u=>exact I.after hq
    | next=>exact False.elim hq
    | brk=>exact False.elim hq
    | cont=>exact False.elim hq
theorem OT (F:FnOk X.prog X.w X.K X.mg X.base CX k f fd ps sp) (hr:Room k X.A) (hg:Gl X x) (hm:X.mg x=some (.ref f)) (hk:PySem.W.keepIn X.K (.ref f)=true) (hb:Binds X.K fd ps ds) (hd:Vals dvs ds) (hx:EB CX X E)
    (ha:PA X (e::es) t) (hdb:(x == ("__debug__":Str))=false:=by decide) (he:starEach (e::es) X.env=(false,eval e X.env)::starEach es X.env:=by rfl) (hpl:(backTo pos (starEach es X.env)).any (·.1)=false:=by rfl):
    PE X (.Call (.Name x p) (e::es) [] pos) (Ks sp dvs E t):=by
  intro pins s σ H Q I h;refine wpAny_Call_Name_kw (Io I hg hm ?_ hdb);refine PySem.W.callWith_K (h₀:=X.base) I.ok.mod.kin hk (thn (ha pos pins s σ H _ I h) λ us s1 ⟨vs,H1,I1,r,q⟩=>⟨I1.kIn,?_⟩) he hpl;exact JP F hr hb hd hx I1 r q
theorem Ol {pl:Sem Bool} (he:PE X o ta) (c:Cls X.K C) (hm:Meth X.K C m f) (F:FnOk X.prog X.w X.K X.mg X.base CX k f fd ps sp) (hr:Room k X.A) (hb:Binds X.K fd ps ds) (hd:Vals dvs ds) (hx:EB CX X E) (ha:PA X (e::es) t)
    (hst:starEach (e::es) X.env=(false,eval e X.env)::starEach es X.env:=by rfl) (hpl:(backTo pos (starEach es X.env)).any (·.1)=false:=by rfl)
    (ht:eval (.Call (.Attribute o m apos) (e::es) [] pos) X.env=(do
      let ov <-eval o X.env
      standAt apos.atName
      let (f,first) <-holding [ov] (getMethod ov m pl)
      callWith pos f first (backTo pos (starEach (e::es) X.env)) (backToKw pos (keywordEach [] X.env))):=by rfl):
    PE X (.Call (.Attribute o m apos) (e::es) [] pos) (Ht C m sp dvs E ta t):=by
  intro pins s σ H Q I h;refine PySem.W.methodCall_KW (pl:=pl) (thn (he pins s σ H _ I h) λ u s1 ⟨x,H1,I1,rx,a,dx,fs,ex,ea,l,q⟩=> ?_) ht;subst ex;obtain rfl:u=Value.ref a:=rx;refine Ep I1 ea c hm l ?_;refine PySem.W.callWith_K (first:=[.ref a]) (h₀:=X.base) I.ok.mod.kin hm.kp (thn (ha pos pins s1 σ H1 _ I1 q) λ us s2 ⟨vs,H2,I2,r,q2⟩=>⟨I2.kIn,?_⟩) hst hpl;exact JP (us:= .ref a::us) (vs:= .ref a::vs) F hr hb hd hx I2 (.cons rfl r) q2
theorem Ng {pl:Sem Bool} (he:PE X o ta) (c:Cls X.K C) (hm:Meth X.K C m f) (F:FnOk X.prog X.w X.K X.mg X.base CX k f fd ps sp) (hr:Room k X.A) (hb:Binds X.K fd ps ds) (hd:Vals dvs ds) (hx:EB CX X E)
    (ht:eval (.Call (.Attribute o m apos) [] [] pos) X.env=(do
      let ov <-eval o X.env
      standAt apos.atName
      let (f,first) <-holding [ov] (getMethod ov m pl)
      callWith pos f first (backTo pos (starEach [] X.env)) (backToKw pos (keywordEach [] X.env))):=by rfl):
    PE X (.Call (.Attribute o m apos) [] [] pos) (Ht C m sp dvs E ta Ll):=by
  intro pins s σ H Q I h;refine PySem.W.methodCall_KW (pl:=pl) (thn (he pins s σ H _ I h) λ u s1 ⟨x,H1,I1,rx,a,dx,fs,ex,ea,l,q⟩=> ?_) ht;subst ex;obtain rfl:u=Value.ref a:=rx;refine Ep I1 ea c hm l ?_;exact PySem.W.callWith_K0 (first:=[.ref a]) I1.kIn hm.kp (JP (us:=[.ref a]) (vs:=[.ref a]) F hr hb hd hx I1 (.cons rfl .nil) q)
structure Mk (K:PySem.W.Frag) (C f:Addr):Prop where
  makes:PySem.W.makesIn K C=true
  init:PySem.W.findIn K (.ref C) "__init__"=some (some (.ref f))
  fn:PySem.W.isFn K (.ref f)=true
  kp:PySem.W.keepIn K (.ref C)=true
theorem Ml {pins:List (Addr × Obj)} {σ:St} {H:Hp} {s:Shared} {Q:VK} {us:List Value} {vs:List V} (M:Mk X.K C f) (F:FnOk X.prog X.w X.K X.mg X.base CX k f fd ps sp) (hr:Room (k+1) X.A) (hb:Binds X.K fd ps ds) (hd:Vals dvs ds)
    (hx:EB CX X E) (I:Inv X pins σ H s) (r:Vals vs us)
    (h:∀ x dx,H x=none->H dx=none->dx≠x->sp (.ref x::(vs++dvs)) (upd (upd H dx (.own x)) x (.ins C dx [])) (λ v H2=>v= .non/\Q (.ref x) H2) E):
    wpAny (model X.prog X.w) X.A (call (.ref C) us) (EP X pins σ Q) X.xe s:=by
  have hq:=h (s.heap.objs.size+1) s.heap.objs.size (I.hok.fresh (Nat.le_succ _)) (I.hok.fresh (Nat.le_refl _)) (Nat.ne_of_lt (Nat.lt_succ_self _));have I2:=Inv.made (C:=C) I;have r2:Vals (V.ref (s.heap.objs.size+1)::(vs++dvs)) (Value.ref (s.heap.objs.size+1)::(us++ds)):= .cons rfl (r.append hd);have hl:(Value.ref (s.heap.objs.size+1)::us++ds).length=ps.length:=by
    have e:=r2.length;rw [F.len _ _ _ _ hq] at e;exact e.symm
  refine wpAny_call (Nb (f:=f) I.kIn M.makes M.init (beq_iff_eq.mp M.fn) (codeAny_mono (F.run _ X.stack _ _ ⟨Value.ref (s.heap.objs.size+1)::us,[]⟩ (Value.ref (s.heap.objs.size+1)::(us++ds)) _ _ E (hr.make C us [])
    (I2.env0.make C us []) (hb _ (Value.ref (s.heap.objs.size+1)::us) I2.kIn hl) r2 hq) λ r s' hq'=> ?_))
  cases r with
  | error e=>exact hx pins σ _ _ e s' I2 hq'
  | ok fl=>
    cases fl with
    | ret u=>
      obtain ⟨v,H',I3,rv,ev,q3⟩:=I2.after hq';subst ev;exact ⟨rv,⟨V.ref (s.heap.objs.size+1),H',I3,rfl,q3⟩⟩
    | next=>exact False.elim hq'
    | brk=>exact False.elim hq'
    | cont=>exact False.elim hq'
theorem Pu (M:Mk X.K C f) (F:FnOk X.prog X.w X.K X.mg X.base CX k f fd ps sp) (hr:Room (k+1) X.A) (hg:Gl X x) (hm:X.mg x=some (.ref C)) (hb:Binds X.K fd ps ds) (hd:Vals dvs ds) (hx:EB CX X E)
    (ha:PA X (e::es) t) (hdb:(x == ("__debug__":Str))=false:=by decide) (he:starEach (e::es) X.env=(false,eval e X.env)::starEach es X.env:=by rfl) (hpl:(backTo pos (starEach es X.env)).any (·.1)=false:=by rfl):
    PE X (.Call (.Name x p) (e::es) [] pos) (KJ C sp dvs E t):=by
  intro pins s σ H Q I h;refine wpAny_Call_Name_kw (Io I hg hm ?_ hdb);refine PySem.W.callWith_K (h₀:=X.base) I.ok.mod.kin M.kp (thn (ha pos pins s σ H _ I h) λ us s1 ⟨vs,H1,I1,r,q⟩=>⟨I1.kIn,?_⟩) he hpl;exact Ml M F hr hb hd hx I1 r q
end
section
variable {X:Cx} {CX:CXT} {k:Nat} {f C:Addr} {fd:FuncData} {ps ks:List Str} {sp:Sp} {E:XK} {x m:Str} {p pos apos kpos:Pos} {e o:Expr} {es:List Expr} {kws:List Keyword} {te ta:TE} {t tk:TA} {nm:Option Str}
structure KBinds (K:PySem.W.Frag) (fd:FuncData) (ps ks:List Str) (g:List Value->List Value->List Value) (gV:List V->List V->List V):Prop where
  to:∀ (s:Shared) (us ws:List Value),K.In s.heap->(g us ws).length=ps.length->BindsTo s fd ⟨us,ks.zip ws⟩ (ps.zip (g us ws))
  rel:∀ {vs:List V} {us:List Value} {zs:List V} {ws:List Value},Vals vs us->Vals zs ws->Vals (gV vs zs) (g us ws)
variable {g:List Value->List Value->List Value} {gV:List V->List V->List V}
end
structure FnScope (N P:List Str) (sc:Scope):Prop where
  kind:sc.kind= .function
  co:sc.isCoroutine=false
  gen:sc.isGenerator=false
  nd:N.Nodup
  pre:N.take P.length=P
  par:∀ x∈P,sc.names.lookup x=some .local\/sc.names.lookup x=some .cell
  nofree:∀ y∈sc.names,y.2≠ .free
theorem Hr {kindOf:Str->Option NameKind} {x:Str}:∀ {binds:List (Str × Value)} {m:Str->Option Value},(∀ v,(x,v)∉binds)->bindL kindOf binds m x=m x
  | [],_,_=>rfl
  | (n,v)::r,m,h=>by
    unfold bindL;rw [Hr λ w hw=>h w (List.mem_cons_of_mem _ hw)];split
    · have:x≠n:=by rintro rfl;exact h v List.mem_cons_self
      simp [this]
    · rfl
theorem Hy {kindOf:Str->Option NameKind} {x:Str}:∀ {binds:List (Str × Value)} {m:Str->Option Value},(∀ v,(x,v)∉binds)->bindC kindOf binds m x=m x
  | [],_,_=>rfl
  | (n,v)::r,m,h=>by
    unfold bindC;rw [Hy λ w hw=>h w (List.mem_cons_of_mem _ hw)];split
    · rfl
    · have:x≠n:=by rintro rfl;exact h v List.mem_cons_self
      simp [this]
theorem HG {kindOf:Str->Option NameKind} {x:Str} {v:Value}:∀ {P:List Str} {vs:List Value} {i:Nat} {m:Str->Option Value},P.Nodup->P[i]?=some x->vs[i]?=some v->kindOf x=some .local->
    bindL kindOf (P.zip vs) m x=some v
  | [],_,_,_,_,h,_,_=>by simp at h
  | _::_,[],_,_,_,_,h,_=>by simp at h
  | p::P,w::vs,0,m,nd,h1,h2,hk=>by
    simp at h1 h2;subst h1;subst h2;show bindL kindOf ((p,w)::P.zip vs) m p=_;unfold bindL;rw [Hr λ v hv=>(List.nodup_cons.mp nd).1 (List.of_mem_zip hv).1,if_pos hk];simp
  | p::P,w::vs,i+1,m,nd,h1,h2,hk=>by
    show bindL kindOf ((p,w)::P.zip vs) m x=_;unfold bindL;exact HG (i:=i) (List.nodup_cons.mp nd).2 (by simpa using h1) (by simpa using h2) hk
theorem HR {kindOf:Str->Option NameKind} {x:Str} {v:Value}:∀ {P:List Str} {vs:List Value} {i:Nat} {m:Str->Option Value},P.Nodup->P[i]?=some x->vs[i]?=some v->kindOf x≠some .local->
    bindC kindOf (P.zip vs) m x=some v
  | [],_,_,_,_,h,_,_=>by simp at h
  | _::_,[],_,_,_,_,h,_=>by simp at h
  | p::P,w::vs,0,m,nd,h1,h2,hk=>by
    simp at h1 h2;subst h1;subst h2;show bindC kindOf ((p,w)::P.zip vs) m p=_;unfold bindC;rw [Hy λ v hv=>(List.nodup_cons.mp nd).1 (List.of_mem_zip hv).1,if_neg hk];simp
  | p::P,w::vs,i+1,m,nd,h1,h2,hk=>by
    show bindC kindOf ((p,w)::P.zip vs) m x=_;unfold bindC;exact HR (i:=i) (List.nodup_cons.mp nd).2 (by simpa using h1) (by simpa using h2) hk
def start (N:List Str) (vs:List V):St:=vs.map some++List.replicate (N.length - vs.length) none
def Lk (CX:CXT) (P:Program) (w:World) (K:PySem.W.Frag) (mg:Str->Option Value) (base:Heap) (N:List Str) (qual:Str) (scope:Scope) (f:Addr) (cd:Value) (A:Around) (outer:List Env) (s:Shared) (H:Hp) (E:XK):Cx where
  prog:=P
  w:=w
  K:=K
  mg:=mg
  base:=base
  A:=A.deeper (envOfC qual scope s.heap.objs.size f cd)
  N:=N
  s₀:=s
  H₀:=H
  env:=envOfC qual scope s.heap.objs.size f cd
  outer:=outer
  stack:=envOfC qual scope s.heap.objs.size f cd::outer
  ex:=[]
  calm:=true
  fn:=λ _=>true
  pn:=[]
  xe:=λ e s'=>wpAny (model P w) (A.deeper (envOfC qual scope s.heap.objs.size f cd)) (leaving (envOfC qual scope s.heap.objs.size f cd) e) (λ _ s''=>CX outer H s E e s'') (λ e' s''=>CX outer H s E e' s'') s'
theorem IQ {sc:Scope} {n:Nat} {x:Str} (h:sc.names.lookup x=some .cell):∃ c,(cellsFrom n sc.names []).lookup x=some c:=by
  have q:=PySem.W.cellsFrom_some sc.names n [] (.inl h);exact Option.isSome_iff_exists.mp q
theorem Md {CX:CXT} {P:Program} {w:World} {K:PySem.W.Frag} {mg:Str->Option Value} {base:Heap} {N ps:List Str} {qual:Str} {scope:Scope} {f:Addr} {cd:Value} {A:Around} {outer:List Env} {s s1:Shared} {H:Hp} {E:XK} {us:List Value} {vs:List V}
    (S:FnScope N ps scope) (hd:A.handled=none) (e0:Env0 P w K mg base A outer s H) (hl:vs.length=ps.length) (r:Vals vs us)
    (x:InCallC s s.heap.objs.size (bindL (envOfC qual scope s.heap.objs.size f cd).kindOf (ps.zip us) λ _=>none) (cellsFrom (s.heap.objs.size+1) scope.names []) (bindC (envOfC qual scope s.heap.objs.size f cd).kindOf (ps.zip us) λ _=>none) s1):
    Inv (Lk CX P w K mg base N qual scope f cd A outer s H E) [] (start N vs) H s1:=by
  have hpl:ps.length<=N.length:=by have:=congrArg List.length S.pre;rw [List.length_take] at this;omega
  obtain ⟨h1,tk,rfl,hk⟩:=x.done;have noA:∀ b:Addr,b∉(Lk CX P w K mg base N qual scope f cd A outer s H E).ex:=λ b z=>absurd (show b∈([]:List Addr) from z) (by simp);refine ⟨⟨e0.mod,S.kind,rfl,rfl,Nat.le_refl _,λ y z c h1 h2=> ?_,λ y hy=> ?_,λ y c _ h=> ?_,λ _=>hd,Around.frames_deeper e0.frames, .inr ⟨rfl,rfl⟩,λ b z=>absurd z (noA b),e0.bs,e0.bsz,λ b _ _=>noA b,λ b z=>absurd z (noA b),e0.funs,e0.frf⟩,
    rfl,e0.bare,Un.kept hk,⟨_,x.toInCall.ns,λ i y v h1 h2 h3=> ?_⟩,λ y c h=>⟨_,x.cell y c h⟩,e0.hok.fresh (Nat.le_refl _),λ y c h=> ?_,λ p hp=>absurd (show p∈([]:List (Addr × Obj)) from hp) (by simp),e0.hok.kept hk,?_⟩
  · exact name_of_addr x.apart (PySem.mem_of_lookup h1) (PySem.mem_of_lookup h2)
  · have hy:scope.names.lookup y=some .cell\/scope.names.lookup y=some .free:=hy;rcases hy with hy | hy
    · exact IQ hy
    · exact absurd rfl (S.nofree _ (PySem.mem_of_lookup hy))
  · exact Nat.le_of_lt (x.above y c (PySem.mem_of_lookup h))
  · have hi:i<vs.length:=by
      unfold start at h2;by_cases hi:i<vs.length
      · exact hi
      · rw [List.getElem?_append_right (by simpa using hi)] at h2;rw [List.getElem?_replicate] at h2;split at h2 <;> cases h2
    have ha:vs[i]?=some v:=by
      unfold start at h2;rw [List.getElem?_append_left (by simpa using hi),List.getElem?_map] at h2;cases e:vs[i]? with
      | none=>rw [e] at h2;cases h2
      | some a=>rw [e] at h2;cases h2;rfl
    obtain ⟨u,hu,rv⟩:=r.get ha;have hp:ps[i]?=some y:=by
      rw [<-S.pre,List.getElem?_take_of_lt (by omega)];exact h1
    have ndP:ps.Nodup:=by rw [<-S.pre];exact S.nd.sublist (List.take_sublist _ _)
    refine ⟨u,rv,?_⟩;rcases S.par y (List.mem_of_getElem? hp) with k | k
    · exact .inl ⟨k,HG ndP hp hu k⟩
    · obtain ⟨c,e⟩:=IQ (n:=s.heap.objs.size+1) k;refine .inr ⟨.inl k,c,e,?_⟩;have q:=x.cell y c e;rw [HR ndP hp hu (by show scope.names.lookup y≠_;rw [k];decide)] at q;exact q
  · exact e0.hok.fresh (Nat.le_of_lt (x.above y c (PySem.mem_of_lookup h)))
  · unfold start;show _=N.length;rw [List.length_append,List.length_map,List.length_replicate];omega
theorem TQ {CX:CXT} {P:Program} {w:World} {K:PySem.W.Frag} {mg:Str->Option Value} {base:Heap} {k:Nat} {f:Addr} {name qual:Str} {params:Arguments} {body:List Stmt} {scope:Scope} {dV kV doc pm cdv ct oc:Value} {an od:Option Addr}
    {osl:Array (Option Value)} {N ps:List Str} {sp:Sp} (lk:K.lookup f=some ⟨oc,od, .func (PySem.W.fnOf name qual params body scope dV kV doc pm an cdv ct),osl⟩) (hcd:PySem.W.codeIn K cdv qual=true) (S:FnScope N ps scope)
    (len:∀ vs H Q E,sp vs H Q E->vs.length=ps.length)
    (hbody:∀ (A:Around) (outer:List Env) (s:Shared) (H:Hp) (vs:List V) (Q:VK) (E:XK),Room k (A.deeper (envOfC qual scope s.heap.objs.size f cdv))->sp vs H Q E->
      ∃ t,PSs (Lk CX P w K mg base N qual scope f cdv A outer s H E) body t/\t { nx:=λ _ H'=>Q .non H',rt:=Q } (start N vs) H):
    FnOk P w K mg base CX (k+1) f (PySem.W.fnOf name qual params body scope dV kV doc pm an cdv ct) ps sp:=by
  refine ⟨len,λ A outer s H args us vs Q E hr e0 hb r hsp=> ?_⟩;have hl:=len _ _ _ _ hsp;have KX:K.In s.heap:=e0.mod.kin.keeps λ b o e=>(e0.bs b o e).1;have lim:s.heap.NoLimit:=e0.mod.nolimit.keeps λ b o e=>(e0.bs b o e).1;have hkind:∀ y∈ps.zip us,scope.names.lookup y.1=some .local\/(scope.names.lookup y.1=some .cell/\((cellsFrom (s.heap.objs.size+1) scope.names []).lookup y.1).isSome=true):=λ ⟨n,v⟩ hy=>by
    rcases S.par n (List.of_mem_zip hy).1 with q | q
    · exact .inl q
    · exact .inr ⟨q,PySem.W.cellsFrom_some _ _ _ (.inl q)⟩
  refine codeAny_call_function hr.depth (KX _ _ lk) rfl S.co S.gen rfl (PySem.W.codeRec_of KX hcd) (hb _ _ _ _ ?_);refine wpAny_newFunctionEnv_cells S.kind hkind λ env he s1 x=> ?_;subst he;refine ⟨lim.keeps x.toInCall.keep,codeAny_func ?_⟩;obtain ⟨t,ht,hq⟩:=hbody A outer s H vs Q E (hr.deeper _) hsp;have I:Inv (Lk CX P w K mg base N qual scope f cdv A outer s H E) [] (start N vs) H s1:=Md S hr.hd e0 hl r x;refine wpAny_mono (ht [] s1 (start N vs) H _ I hq) (λ fl s' hs=> ?_) λ e s' hs=>hs;have fin:∀ {σ':St} {H':Hp} {v:V} {u:Value},Inv (Lk CX P w K mg base N qual scope f cdv A outer s H E) [] σ' H' s'->RelV v u->Q v H'->CE outer P w H s Q u s':=
    λ {σ' H' v u} J rv q=>⟨v,H',J.os,J.bare,J.base,J.hok,rv,q⟩
  cases fl with
  | ret u=>
    obtain ⟨v,σ',H',J,rv,q⟩:=hs;exact fin J rv q
  | next=>
    obtain ⟨σ',H',J,q⟩:=hs;exact fin (v:=V.non) (u:=Value.none) J rfl q
  | brk=>
    obtain ⟨_,_,_,q⟩:=hs;exact False.elim q
  | cont=>
    obtain ⟨_,_,_,q⟩:=hs;exact False.elim q
section
variable {X:Cx} {x:Str} {p pos:Pos} {e:Expr} {es:List Expr} {t:TA} {id T:String} {r:List V->Hp->VK->Prop}
def tCB (r:List V->Hp->VK->Prop) (t:TA):TE:=λ σ H Q=>t σ H λ vs H1=>r vs H1 Q
theorem Al (hc:A7 X (.builtin id) r) (hg:Gl X x) (hm:X.mg x=none) (hv:bootBuiltins x=some (.builtin id)) (ha:PA X (e::es) t) (hn:x≠"__name__":=by decide) (hdb:(x == ("__debug__":Str))=false:=by decide)
    (he:starEach (e::es) X.env=(false,eval e X.env)::starEach es X.env:=by rfl) (hpl:(backTo pos (starEach es X.env)).any (·.1)=false:=by rfl):PE X (.Call (.Name x p) (e::es) [] pos) (tCB r t):=by
  intro pins s σ H Q I h;refine wpAny_Call_Name_kw (CD I hg hm hv ?_ hn hdb);exact PyProof.Rows.callWith_builtin1 (thn (ha pos pins s σ H _ I h) λ us s1 ⟨vs,H1,I1,r1,q1⟩=>hc pins s1 σ H1 vs us Q I1 r1 q1) he hpl
theorem BO (hc:A7 X (.type T) r) (hg:Gl X x) (hm:X.mg x=none) (hv:bootBuiltins x=some (.type T)) (ha:PA X (e::es) t) (hn:x≠"__name__":=by decide) (hdb:(x == ("__debug__":Str))=false:=by decide)
    (he:starEach (e::es) X.env=(false,eval e X.env)::starEach es X.env:=by rfl) (hpl:(backTo pos (starEach es X.env)).any (·.1)=false:=by rfl):PE X (.Call (.Name x p) (e::es) [] pos) (tCB r t):=by
  intro pins s σ H Q I h;refine wpAny_Call_Name_kw (CD I hg hm hv ?_ hn hdb);exact PyProof.Rows.callWith_type1 (thn (ha pos pins s σ H _ I h) λ us s1 ⟨vs,H1,I1,r1,q1⟩=>hc pins s1 σ H1 vs us Q I1 r1 q1) he hpl
end
end L2
namespace HT
open PySem PyProof.Rows
section
open PySem.SeqAt
open PySem.AutoSeq1 (wpAny_loadPart')
open PySem.MeetsSeq PySem.MeetsSeq2 PySem.MeetsSeq3
end
section
variable {prog:Program} {w:World} {A:Around} {E:Value->Shared->Prop} {s:Shared}
def sIx (n d:Nat):Option Int->Nat
  | none=>d
  | some v=>if v<0 then (v+(n:Int)).toNat else min v.toNat n
end
end HT
namespace L2
open PySem PySem.Spec PyProof.Rows
abbrev TO:=St->Hp->(Option Int->Hp->Prop)->Prop
def PO (X:Cx) (e:Option Expr) (t:TO):Prop:=
  ∀ (pins:List (Addr × Obj)) (s:Shared) (σ:St) (H:Hp) (Q:Option Int->Hp->Prop),Inv X pins σ H s->t σ H Q->
    wpAny (model X.prog X.w) X.A (evalPart e X.env) (λ u s'=>∃ o H',Inv X pins σ H' s'/\IsPart u o/\Q o H') X.xe s
def Km:TO:=λ _ H Q=>Q none H
def PK (t:TE):TO:=λ σ H Q=>t σ H λ x H1=>∃ i,x= .int i/\Q (some i) H1
theorem JJ {ns:List Int}:∀ {us:List Value},Vals (ns.map V.int) us->IntsAre us ns:=by
  induction ns with
  | nil=>intro us r;rw [List.map_nil] at r;cases r;exact .nil
  | cons n ns ih=>
    intro us r;rw [List.map_cons] at r;cases r with
    | cons r1 r2=>
      obtain ⟨t,e⟩:=r1;subst e;exact .cons n t (ih r2)
section
variable {X:Cx} {e:Expr} {te:TE} {lo hi:Option Expr} {tl th:TO} {pos p2:Pos}
theorem Oz:PO X none Km:=by
  intro pins s σ H Q I h;rw [evalPart_none];exact wpAny_pure ⟨none,H,I, .none,h⟩
theorem Ic (h:PE X e te):PO X (some e) (PK te):=by
  intro pins s σ H Q I hw;rw [evalPart_some];refine thn (h pins s σ H _ I hw) λ u s1 ⟨x,H1,I1,r1,q1⟩=> ?_;obtain ⟨i,rfl,q⟩:=q1;obtain ⟨t,rfl⟩:=r1;exact ⟨some i,H1,I1, .int i t,q⟩
def SlR (X:Cx) (r:V->Option Int->Option Int->Hp->VK->Prop):Prop:=
  ∀ (pins:List (Addr × Obj)) (s:Shared) (σ:St) (H:Hp) (x:V) (v vl vu:Value) (lo hi:Option Int) (sl:Addr) (Q:VK),Inv X pins σ H s->RelV x v->s.heap.IsSliceOf sl vl vu .none->IsPart vl lo->IsPart vu hi->r x lo hi H Q->
    ∃ T id,typeLookup (.type T) "__getitem__"=pure (some (.builtin id))/\s.TypeIs v T/\wpAny (model X.prog X.w) X.A (getItem v (.ref sl)) (EP X pins σ Q) X.xe s
def tSl (r:V->Option Int->Option Int->Hp->VK->Prop) (te:TE) (tl th:TO):TE:=λ σ H Q=>te σ H λ x H1=>tl σ H1 λ l H2=>th σ H2 λ u H3=>r x l u H3 Q
theorem IR {r:V->Option Int->Option Int->Hp->VK->Prop} (hr:SlR X r) (he:PE X e te) (hl:PO X lo tl) (hu:PO X hi th):PE X (.Subscript e (.Slice lo hi none p2) pos) (tSl r te tl th):=by
  intro pins s σ H Q I h;refine Subscript_ (thn (he pins s σ H _ I h) λ v s1 ⟨x,H1,I1,r1,q1⟩=> ?_);refine wpAny_Slice (thn (hl pins s1 σ H1 _ I1 q1) λ vl s2 ⟨l,H2,I2,pl,q2⟩=>thn (hu pins s2 σ H2 _ I2 q2) λ vu s3 ⟨u,H3,I3,pu,q3⟩=> ?_);rw [evalPart_none];refine wpAny_pure ?_;have I4:Inv X pins σ H3 { s3 with heap:=s3.heap.push { cls:= .type "slice",data:= .fields #[vl,vu, .none] } }:=I3.kept (t':=s3.toks) λ b ob q=>Heap.get?_push_of_some _ q;obtain ⟨T,id,hT,ht,hg⟩:=hr pins { s3 with heap:=s3.heap.push { cls:= .type "slice",data:= .fields #[vl,vu, .none] } } σ H3 x v vl vu l u s3.heap.objs.size Q I4 r1 (Heap.IsSliceOf.new ..) pl pu q3;show wpAny (model X.prog X.w) X.A (subscriptTail e (.Slice lo hi none p2) v (.ref s3.heap.objs.size)) (EP X pins σ Q) X.xe { s3 with heap:=s3.heap.push { cls:= .type "slice",data:= .fields #[vl,vu, .none] } };exact tail_any (ops:=[.ref s3.heap.objs.size,v]) ht hT hg (by with_unfolding_all rfl)
def Gi (xs:List V) (lo hi:Option Int):List V:=(xs.drop (HT.sIx xs.length 0 lo)).take (HT.sIx xs.length xs.length hi - HT.sIx xs.length 0 lo)
theorem IY (xs:List V) (lo hi:Option Int):(Gi xs lo hi).length<=xs.length:=by
  unfold Gi;rw [List.length_take,List.length_drop];omega
end
def ixN (n:Nat) (i:Int):Option Nat:=if 0<=i then (if i<n then some i.toNat else none) else if -(n:Int)<=i then some (i+n).toNat else none
def atI {α:Type} (xs:List α) (i:Int):Option α:=(ixN xs.length i).bind λ j=>xs[j]?
theorem Kx {n:Nat} {i:Int} {j:Nat} (h:ixN n i=some j):seqIndex? i n=some j/\j<n/\ -(n:Int)<=i/\i<n:=by
  unfold ixN at h;by_cases h0:0<=i
  · rw [if_pos h0] at h;by_cases h1:i<n
    · rw [if_pos h1] at h;have e:i.toNat=j:=Option.some.inj h;exact ⟨by rw [seqIndex_of h0 h1,e],by omega,by omega,h1⟩
    · rw [if_neg h1] at h;cases h
  · rw [if_neg h0] at h;by_cases h1: -(n:Int)<=i
    · rw [if_pos h1] at h;have e:(i+n).toNat=j:=Option.some.inj h;exact ⟨by rw [seqIndex_neg (by omega) h1,e],by omega,h1,by omega⟩
    · rw [if_neg h1] at h;cases h
theorem KG {α:Type} {xs:List α} {i:Int} {v:α} (h:atI xs i=some v):∃ j,seqIndex? i xs.length=some j/\xs[j]?=some v/\j<xs.length/\ -(xs.length:Int)<=i/\i<xs.length:=by
  unfold atI at h;cases e:ixN xs.length i with
  | none=>rw [e] at h;cases h
  | some j=>
    rw [e] at h;obtain ⟨h1,h2,h3,h4⟩:=Kx e;exact ⟨j,h1,h,h2,h3,h4⟩
theorem Ax {α:Type} {xs:List α} {j:Nat} {v:α} (h:xs[j]?=some v):atI xs (j:Int)=some v:=by
  have hj:j<xs.length:=(List.getElem?_eq_some_iff.mp h).1;have e:ixN xs.length (j:Int)=some j:=by
    unfold ixN;rw [if_pos (by omega),if_pos (by omega)];simp
  unfold atI;rw [e];exact h
theorem Nr {α:Type} (xs:List α) (v:α):atI (xs++[v]) (-1)=some v:=by
  have hl:(xs++[v]).length=xs.length+1:=by simp
  have e:ixN (xs++[v]).length (-1)=some xs.length:=by
    unfold ixN;rw [hl,if_neg (by decide),if_pos (by omega)];congr 1;omega
  unfold atI;rw [e];show (xs++[v])[xs.length]?=some v;simp
def OL (b:Expr):Prop:=∀ o i,subscripted b false o i=operate [o,i] (getItem o i)
def IxR (X:Cx) (r:R2):Prop:=
  ∀ (value slice:Expr) (pins:List (Addr × Obj)) (s:Shared) (σ:St) (H:Hp) (x y:V) (v u:Value) (Q:VK),Inv X pins σ H s->RelV x v->RelV y u->r x y H Q->
    subscripted slice false v u=operate [v,u] (getItem v u)->wpAny (model X.prog X.w) X.A (subscriptTail value slice v u) (EP X pins σ Q) X.xe s
def MtR (X:Cx) (id:String) (r:V->List V->Hp->VK->Prop):Prop:=
  ∀ (pins:List (Addr × Obj)) (s:Shared) (σ:St) (H:Hp) (x:V) (xs:List V) (v:Value) (us:List Value) (Q:VK),Inv X pins σ H s->RelV x v->Vals xs us->r x xs H Q->
    wpAny (model X.prog X.w) X.A (call (.builtin id) (v::us)) (EP X pins σ Q) X.xe s
section
variable {X:Cx} {a b:Expr} {ta tb:TE} {pos:Pos}
theorem Av {r:R2} (hr:IxR X r) (ha:PE X a ta) (hb:PE X b tb) (hs:OL b):PE X (.Subscript a b pos) (tOp r ta tb):=by
  intro pins s σ H Q I h;exact Subscript_ (QU ha hb I h λ v u s2 x y H2 I2 rx ry q=>hr a b pins s2 σ H2 x y v u Q I2 rx ry q (hs _ _))
def Qe (K:PySem.W.Frag):R2:=λ x y H Q=>∃ p xs i v,x= .ref p/\y= .int i/\SqL K H p xs/\atI xs i=some v/\Q v H
def RO (K:PySem.W.Frag):R2:=λ x y H Q=>∃ p xs i v,x= .ref p/\y= .int i/\SqT K H p xs/\atI xs i=some v/\Q v H
theorem OC:IxR X (Qe X.K):=by
  intro value slice pins s σ H x y v u Q I rx ry h hs;obtain ⟨p,xs,i,z,rfl,rfl,hq,he,q⟩:=h;cases rx;obtain ⟨t,rfl⟩:=ry;obtain ⟨its,r,pl,hz⟩:=I.list hq;obtain ⟨j,h1,h2,h3,h4,h5⟩:=KG he;obtain ⟨w,ew,rw'⟩:=r.get h2;have hl:=r.length;have hn:=GO;have fin:EP X pins σ Q w s:=⟨z,H,I,rw',q⟩;by_cases h0:0<=i
  · have hj:i.toNat=j:=by
      rw [seqIndex_of h0 h5] at h1;exact Option.some.inj h1
    exact item_listR pl.isList h0 (by omega) (by rw [hj];simpa using ew) fin hs
  · have hj:(i+(its.toArray.size:Int)).toNat=j:=by
      rw [seqIndex_neg (by omega) h4] at h1;rw [List.size_toArray, <-hl];exact Option.some.inj h1
    exact subscriptTail_builtinR (x:=w) pl.isList.typeIs slot_list_getitem.lookup
      (wpAny_getItem_list_neg (Q:=λ r s'=>r=w/\EP X pins σ Q r s') pl.isList (by omega) (by rw [List.size_toArray] <;> omega) (by omega) (by rw [hj];simpa using ew) ⟨rfl,fin⟩) hs
theorem Qi:IxR X (RO X.K):=by
  intro value slice pins s σ H x y v u Q I rx ry h hs;obtain ⟨p,xs,i,z,rfl,rfl,hq,he,q⟩:=h;cases rx;obtain ⟨t,rfl⟩:=ry;obtain ⟨its,r,pl,hz⟩:=I.tuple hq;obtain ⟨j,h1,h2,h3,h4,h5⟩:=KG he;obtain ⟨w,ew,rw'⟩:=r.get h2;have hl:=r.length;have hn:=GO;have fin:EP X pins σ Q w s:=⟨z,H,I,rw',q⟩;exact subscriptTail_builtinR (x:=w) pl.typeIs slot_tuple_getitem.lookup
    (getItem_tuple (j:=j) (Q:=λ r s'=>r=w/\EP X pins σ Q r s') pl (by omega) (by omega) (by rw [List.size_toArray, <-hl];exact h1) (by simpa using ew) ⟨rfl,fin⟩) hs
theorem JY (its:List Value) (n j:Nat) (u:Value):Obj.mapSeq (·.setIfInBounds j u) { cls:= .type "list",data:= .seq its.toArray n }={ cls:= .type "list",data:= .seq (its.set j u).toArray n }:=by
  simp [Obj.mapSeq]
theorem Inv.lst {pins:List (Addr × Obj)} {σ:St} {H:Hp} {s:Shared} {p:Addr} {xs:List V} (I:Inv X pins σ H s) (h:H p=some (.lst xs)):
    ∃ (its:List Value) (n:Nat),Vals xs its/\s.heap.get? p=some { cls:= .type "list",data:= .seq its.toArray n }/\xs.length<=sizeLine:=by
  obtain ⟨z,its,n,r,e⟩:=I.hok p _ h;exact ⟨its,n,r,e,z⟩
theorem Inv.lstUpd {pins:List (Addr × Obj)} {σ:St} {H:Hp} {s:Shared} {p:Addr} {xs ys:List V} {its its':List Value} {n n':Nat} {f:Obj->Obj} (I:Inv X pins σ H s) (h:H p=some (.lst xs))
    (ho:s.heap.get? p=some { cls:= .type "list",data:= .seq its.toArray n }) (hf:f { cls:= .type "list",data:= .seq its.toArray n }={ cls:= .type "list",data:= .seq its'.toArray n' }) (r:Vals ys its') (hz:ys.length<=sizeLine) (t:Nat):
    Inv X pins σ (upd H p (.lst ys)) { s with heap:=s.heap.update p f,toks:=t }:=by
  have e:(s.heap.update p f).get? p=some { cls:= .type "list",data:= .seq its'.toArray n' }:=by
    rw [Heap.get?_update_self f ho (by rw [hf] <;> rfl),hf]
  refine I.write (x:=p) (e:=p) (by rw [h];trivial) (.inl rfl) (λ b u hb q=>(Heap.get?_update_other _ _ (Ne.symm hb)).trans q) ⟨_,e⟩ ?_;exact ⟨hz,its',n',r,e⟩
def T5:V->V->V->Hp->(Hp->Prop)->Prop:=λ o i v H Q=>∃ p xs k j,o= .ref p/\i= .int k/\H p=some (.lst xs)/\ixN xs.length k=some j/\Q (upd H p (.lst (xs.set j v)))
theorem Mn:To X T5:=by
  intro pins s σ H o i v ov iv u Q I ro ri rv h;obtain ⟨p,xs,k,j,rfl,rfl,hp,hj,q⟩:=h;cases ro;obtain ⟨t,rfl⟩:=ri;obtain ⟨its,n,r,ho,hz⟩:=I.lst hp;obtain ⟨h1,h2,h3,h4⟩:=Kx hj;have hl:=r.length;have hn:=GO;have I':Inv X pins σ (upd H p (.lst (xs.set j v))) { s with heap:=s.heap.update p (Obj.mapSeq (·.setIfInBounds j u)) }:=
    I.lstUpd hp ho (JY its n j u) (r.set rv j) (by rw [List.length_set];exact hz) s.toks
  by_cases h0:0<=k
  · have hk:k.toNat=j:=by
      rw [seqIndex_of h0 h4] at h1;exact Option.some.inj h1
    exact PySem.W.ki_setAt ho h0 (by omega) (by rw [List.size_toArray, <-hl];exact h4) (by rw [hk];exact ⟨_,I',q⟩)
  · have hk:(k+(its.toArray.size:Int)).toNat=j:=by
      rw [seqIndex_neg (by omega) h3] at h1;rw [List.size_toArray, <-hl];exact Option.some.inj h1
    exact PySem.W.ki_setBack ho (by omega) (by rw [List.size_toArray, <-hl];exact h3) (by omega) (by rw [hk];exact ⟨_,I',q⟩)
theorem Ih (lo hi:Option Int) (n:Nat):(sliceBounds lo hi none n).1=((HT.sIx n 0 lo:Nat):Int)/\(sliceBounds lo hi none n).2.1=((HT.sIx n n hi:Nat):Int)/\(sliceBounds lo hi none n).2.2=1:=by
  refine ⟨?_,?_,rfl⟩
  · cases lo with
    | none=>simp [sliceBounds,HT.sIx]
    | some i=>
      simp only [sliceBounds,HT.sIx,Option.getD_none,show (1:Int)>0 by decide,if_true];by_cases h:i<0
      · simp only [h,if_true] <;> omega
      · simp only [h,if_false] <;> omega
  · cases hi with
    | none=>simp [sliceBounds,HT.sIx]
    | some i=>
      simp only [sliceBounds,HT.sIx,Option.getD_none,show (1:Int)>0 by decide,if_true];by_cases h:i<0
      · simp only [h,if_true] <;> omega
      · simp only [h,if_false] <;> omega
theorem Hc (its:List Value) (lo hi:Option Int):slicePick its.toArray lo hi none=((its.drop (HT.sIx its.length 0 lo)).take (HT.sIx its.length its.length hi - HT.sIx its.length 0 lo)).toArray:=by
  obtain ⟨h1,h2,h3⟩:=Ih lo hi its.toArray.size;unfold slicePick;rw [h1,h2,h3];simp only [sliceRange_one,pick_run,List.size_toArray] <;> rfl
def QW (K:PySem.W.Frag):V->Option Int->Option Int->Hp->VK->Prop:=λ x lo hi H Q=>∃ a xs,x= .ref a/\SqL K H a xs/\∀ p,H p=none->Q (.ref p) (upd H p (.lst (Gi xs lo hi)))
theorem OD:SlR X (QW X.K):=by
  intro pins s σ H x v vl vu lo hi sl Q I rx hs pl pu h;obtain ⟨a,xs,rfl,hx,q⟩:=h;cases rx;obtain ⟨its,r,ht,hz⟩:=I.list hx;have hlen:=r.length;refine ⟨"list",_,slot_list_getitem.lookup,ht.isList.typeIs,?_⟩;refine wpAny_getItem_list_slice ht.isList hs pl pu .none (by simp) ?_ (by rw [List.size_toArray] <;> omega);rw [Hc, <-hlen];refine ⟨.ref s.heap.objs.size,_,I.laid (t':=s.toks) (o:= .lst (Gi xs lo hi)) (λ b ob q=>Heap.get?_push_of_some _ q) (Nat.le_refl _) ?_,rfl,q _ (I.hok.fresh (Nat.le_refl _))⟩;exact ⟨Nat.le_trans (IY xs lo hi) hz,_,0,(r.drop (HT.sIx xs.length 0 lo)).take (HT.sIx xs.length xs.length hi - HT.sIx xs.length 0 lo),Heap.get?_push_size _ rfl⟩
def Ef:V->Bool
  | .non=>true
  | .bl _=>true
  | .int _=>true
  | .str _=>true
  | _=>false
def eqV:V->V->Bool
  | .non, .non=>true
  | .bl a, .bl b=>a == b
  | .bl a, .int b=>(if a then 1 else 0) == b
  | .int a, .bl b=>a == (if b then 1 else 0)
  | .int a, .int b=>a == b
  | .str a, .str b=>a == b
  | _,_=>false
theorem Qk {A:Around} {s:Shared} {y x:V} {u v:Value} (ry:RelV y u) (rx:RelV x v) (fy:Ef y=true) (fx:Ef x=true):SeqAt.EqAt A s u v (eqV y x):=by
  cases y with
  | non=>
    cases ry;cases x with
    | non=>cases rx;exact SeqAt.EqAt.same _
    | bl b=>cases rx;exact SeqAt.EqAt.none_bool b
    | int b=>obtain ⟨t,rfl⟩:=rx;exact SeqAt.EqAt.none_int b t
    | str b=>obtain ⟨t,rfl⟩:=rx;exact SeqAt.EqAt.none_str b t
    | _=>exact absurd (show false=true from fx) Bool.false_ne_true
  | bl a=>
    cases ry;cases x with
    | non=>cases rx;exact SeqAt.EqAt.bool_none a
    | bl b=>cases rx;exact SeqAt.EqAt.bool_bool a b
    | int b=>obtain ⟨t,rfl⟩:=rx;exact SeqAt.EqAt.bool_int a b t
    | str b=>obtain ⟨t,rfl⟩:=rx;exact SeqAt.EqAt.bool_str a b t
    | _=>exact absurd (show false=true from fx) Bool.false_ne_true
  | int a=>
    obtain ⟨t',rfl⟩:=ry;cases x with
    | non=>cases rx;exact SeqAt.EqAt.int_none a t'
    | bl b=>cases rx;exact SeqAt.EqAt.int_bool a t' b
    | int b=>obtain ⟨t,rfl⟩:=rx;exact SeqAt.EqAt.int_int a t' b t
    | str b=>obtain ⟨t,rfl⟩:=rx;exact SeqAt.EqAt.int_str a t' b t
    | _=>exact absurd (show false=true from fx) Bool.false_ne_true
  | str a=>
    obtain ⟨t',rfl⟩:=ry;cases x with
    | non=>cases rx;exact SeqAt.EqAt.str_none a t'
    | bl b=>cases rx;exact SeqAt.EqAt.str_bool a t' b
    | int b=>obtain ⟨t,rfl⟩:=rx;exact SeqAt.EqAt.str_int a t' b t
    | str b=>obtain ⟨t,rfl⟩:=rx;exact SeqAt.EqAt.str_str a t' b t
    | _=>exact absurd (show false=true from fx) Bool.false_ne_true
  | _=>exact absurd (show false=true from fy) Bool.false_ne_true
theorem Ib:A7 X (.type "list") (λ xs H Q=>∃ p ys,xs=[.ref p]/\(SqL X.K H p ys\/SqT X.K H p ys)/\∀ l,H l=none->Q (.ref l) (upd H l (.lst ys))):=by
  intro pins s σ H xs us Q I r h;obtain ⟨p,ys,rfl,hq,q⟩:=h;obtain ⟨u,rfl,rx⟩:=DF r;cases rx;have fin:∀ (its:List Value),Vals ys its->ys.length<=sizeLine->∀ (h':Heap) (c':Nat),(∀ b o',s.heap.get? b=some o'->h'.get? b=some o')->
      h'.get? s.heap.objs.size=some { cls:= .type "list",dict:=none,data:= .seq its.toArray c',slots:= #[] }->EP X pins σ Q (.ref s.heap.objs.size) { s with heap:=h' }:=λ its r' hz h' c' kp e=>
    ⟨.ref s.heap.objs.size,_,I.laid (t':=s.toks) kp (Nat.le_refl _) (show ObjOk X.prog X.w _ h' _ (.lst ys) from ⟨hz,its,c',r',e⟩),rfl,q _ (I.hok.fresh (Nat.le_refl _))⟩
  rcases hq with hq | hq
  · obtain ⟨its,r',pl,hz⟩:=I.list hq;have hlen:=r'.length;obtain ⟨o,ho,hc,n,hd⟩:=pl.isList;exact call_list_seq p (.inl rfl) ho hc hd (λ h' c' kp e=>fin its r' hz h' c' kp e) (by simp only [List.size_toArray] <;> omega)
  · obtain ⟨its,r',pl,hz⟩:=I.tuple hq;have hlen:=r'.length;obtain ⟨o,ho,hc,n,hd⟩:=pl;exact call_list_seq p (.inr rfl) ho hc hd (λ h' c' kp e=>fin its r' hz h' c' kp e) (by simp only [List.size_toArray] <;> omega)
theorem G6:A7 X (.type "tuple") (λ xs H Q=>∃ p ys,xs=[.ref p]/\((SqL X.K H p ys/\∀ l,H l=none->Q (.ref l) (upd H l (.tup ys)))\/(SqT X.K H p ys/\Q (.ref p) H))):=by
  intro pins s σ H xs us Q I r h;obtain ⟨p,ys,rfl,h⟩:=h;obtain ⟨u,rfl,rx⟩:=DF r;cases rx;rcases h with ⟨hq,q⟩ | ⟨hq,q⟩
  · obtain ⟨its,r',pl,hz⟩:=I.list hq;have hlen:=r'.length;refine call_tuple_list pl.isList (λ h' kp=> ?_) (by simp only [List.size_toArray] <;> omega);have I1:Inv X pins σ H { s with heap:=h' }:=I.kept (t':=s.toks) kp;have I2:Inv X pins σ (upd H h'.objs.size (.tup ys)) { s with heap:=h'.push { cls:= .type "tuple",data:= .seq its.toArray } }:=
      I1.laid (t':=s.toks) (λ b o e=>Heap.get?_push_of_some _ e) (Nat.le_refl _) (show ObjOk X.prog X.w _ _ _ (.tup ys) from ⟨hz,its,r',IsTup.new _ _⟩)
    exact ⟨.ref h'.objs.size,_,I2,rfl,q _ (I1.hok.fresh (Nat.le_refl _))⟩
  · obtain ⟨its,r',pl,hz⟩:=I.tuple hq;exact call_tuple_same pl ⟨.ref p,H,I,rfl,q⟩
def tyV (K:PySem.W.Frag) (T:String) (x:V) (H:Hp):Prop:=match x with
  | .str _=>T="str"
  | .int _=>T="int"
  | .ref p=>(T="list"/\∃ xs,SqL K H p xs)\/(T="tuple"/\∃ o,K.lookup p=some o/\o.cls= .type "tuple"/\o.dict=none)\/
      (T="dict"/\((∃ kvs,H p=some (.dK kvs))\/∃ kvs,H p=some (.dT kvs)))\/(T="set"/\∃ S n,H p=some (.set S n))
  | _=>False
theorem NN {pins:List (Addr × Obj)} {σ:St} {H:Hp} {s:Shared} {T:String} {x:V} {v:Value} (I:Inv X pins σ H s) (r:RelV x v) (ty:tyV X.K T x H):
    s.TypeIs v T/\∀ a,v= .ref a->∃ ob,s.heap.get? a=some ob/\ob.dict=none:=by
  cases x with
  | str z=>
    obtain ⟨t,rfl⟩:=r;cases (show T="str" from ty);exact ⟨typeIs_str s z t,λ _ e=>nomatch e⟩
  | int i=>
    obtain ⟨t,rfl⟩:=r;cases (show T="int" from ty);exact ⟨typeIs_int s i t,λ _ e=>nomatch e⟩
  | ref p=>
    cases r;rcases ty with ⟨rfl,xs,hq⟩ | ⟨rfl,o,hk,hc,hd⟩ | ⟨rfl,hk⟩ | ⟨rfl,S,n,hk⟩
    · obtain ⟨its,_,pl,_⟩:=I.list hq;refine ⟨pl.isList.typeIs,λ a e=> ?_⟩;cases e;obtain ⟨o,n,e,c,hd,_⟩:=pl;exact ⟨o,e,hd⟩
    · refine ⟨⟨o,I.kIn p o hk,hc⟩,λ a e=> ?_⟩;cases e;exact ⟨o,I.kIn _ o hk,hd⟩
    · have z:∃ o,s.heap.get? p=some o/\o.ExactDict:=by
        rcases hk with ⟨kvs,hk⟩ | ⟨kvs,hk⟩
        · obtain ⟨_,_,_,_,o,_,_,e,ex,_⟩:=I.hok p _ hk;exact ⟨o,e,ex⟩
        · obtain ⟨_,_,_,_,o,_,_,e,ex,_⟩:=I.hok p _ hk;exact ⟨o,e,ex⟩
      obtain ⟨o,e,ex⟩:=z;refine ⟨⟨o,e,ex.1⟩,λ a e2=> ?_⟩;cases e2;exact ⟨o,e,ex.2.1⟩
    · obtain ⟨o,_,_,_,e,ex,_⟩:=I.hok p _ hk;refine ⟨⟨o,e,ex.1⟩,λ a e2=> ?_⟩;cases e2;exact ⟨o,e,ex.2.1⟩
  | _=>exact False.elim ty
def Re (K:PySem.W.Frag) (T:String) (r:V->List V->Hp->VK->Prop) (to:TE):TE:=λ σ H Q=>to σ H λ x H1=>tyV K T x H1/\r x [] H1 Q
def tBM (K:PySem.W.Frag) (T:String) (r:V->List V->Hp->VK->Prop) (to:TE) (t:TA):TE:=λ σ H Q=>to σ H λ x H1=>tyV K T x H1/\t σ H1 λ xs H2=>r x xs H2 Q
variable {o e:Expr} {es:List Expr} {to:TE} {t:TA} {name:Str} {apos cpos:Pos} {T id:String} {r:V->List V->Hp->VK->Prop}
theorem RI (pa:PlainAttrs T) (slot:Slot T name id) (hty:typeOf (.builtin id)=pure (.type "method_descriptor")) (hm:MtR X id r) (ho:PE X o to)
    (hbase:attributeBase o name X.env (eval o X.env)=eval o X.env:=by rfl) (hline:(apos.endLine == cpos.line)=true:=by rfl):PE X (.Call (.Attribute o name apos) [] [] cpos) (Re X.K T r to):=by
  intro pins s σ H Q I h;refine wpAny_Call_method0_late hbase hline (thn (ho pins s σ H _ I h) λ v s1 ⟨x,H1,I1,r1,ty,q1⟩=> ?_);obtain ⟨h1,h2⟩:=NN I1 r1 ty;exact ⟨T,id,pa,slot,hty,h1,h2,Calls.callWith_builtin rfl (PySem.evalArgs_none (hm pins s1 σ H1 x [] v [] Q I1 r1 .nil q1))⟩
theorem TK (pa:PlainAttrs T) (slot:Slot T name id) (hty:typeOf (.builtin id)=pure (.type "method_descriptor")) (hm:MtR X id r) (ho:PE X o to) (ha:PA X (e::es) t)
    (hbase:attributeBase o name X.env (eval o X.env)=eval o X.env:=by rfl)
    (hfew:((backTo cpos (starEach (e::es) X.env)).all (λ x=> !x.1)&&(backToKw cpos (keywordEach [] X.env)).all (λ x=>x.1.isSome)
      && decide ((e::es).length+([]:List Keyword).length+(if ([]:List Keyword).isEmpty then 0 else 1)<30))=true:=by rfl)
    (hline:(apos.endLine == cpos.line)=true:=by rfl) (hs:starEach (e::es) X.env=(false,eval e X.env)::starEach es X.env:=by rfl) (hplain:(backTo cpos (starEach es X.env)).any (·.1)=false:=by rfl):
    PE X (.Call (.Attribute o name apos) (e::es) [] cpos) (tBM X.K T r to t):=by
  intro pins s σ H Q I h;refine wpAny_Call_method_late hbase hfew hline rfl (thn (ho pins s σ H _ I h) λ v s1 ⟨x,H1,I1,r1,ty,q1⟩=> ?_);obtain ⟨h1,h2⟩:=NN I1 r1 ty;refine ⟨T,id,pa,slot,hty,h1,h2,?_⟩;have hA:=ha cpos pins s1 σ H1 _ I1 q1;rw [hs] at hA ⊢;refine Calls.callWith_builtin (by show (false||(backTo cpos (starEach es X.env)).any (·.1))=false;rw [hplain] <;> rfl) (Calls.evalArgs_plain ?_);exact thn hA λ us s2 ⟨vs,H2,I2,r2,q2⟩=>hm pins s2 σ H2 x vs v us Q I2 r1 r2 q2
end
def MtM (X:Cx) (id:String) (r:V->List V->Hp->VK->Prop):Prop:=
  ∀ (pins:List (Addr × Obj)) (s:Shared) (σ:St) (H:Hp) (x:V) (xs:List V) (v:Value) (us:List Value) (Q:VK),Inv X pins σ H s->RelV x v->Vals xs us->r x xs H Q->
    wpAny (model X.prog X.w) X.A (call (.builtin id) (v::us)) (EP X pins σ Q) X.xe s
theorem Vals.one:∀ {x:V} {us:List Value},Vals [x] us->∃ u,us=[u]/\RelV x u
  | _,_, .cons r .nil=>⟨_,rfl,r⟩
theorem Vals.zero:∀ {us:List Value},Vals [] us->us=[]
  | _, .nil=>rfl
theorem Vals.dropLast {xs:List V} {us:List Value} (h:Vals xs us):Vals xs.dropLast us.dropLast:=by
  induction h with
  | nil=>exact .nil
  | cons r t ih=>
    cases t with
    | nil=>exact .nil
    | cons q t'=>exact .cons r ih
theorem Vals.eraseIdx:∀ {xs:List V} {us:List Value} (i:Nat),Vals xs us->Vals (xs.eraseIdx i) (us.eraseIdx i)
  | _,_,_, .nil=> .nil
  | _,_,0, .cons _ t=>t
  | _,_,i+1, .cons r t=> .cons r (Vals.eraseIdx i t)
theorem Vals.reverse {xs:List V} {us:List Value} (h:Vals xs us):Vals xs.reverse us.reverse:=by
  induction h with
  | nil=>exact .nil
  | cons r t ih=>rw [List.reverse_cons,List.reverse_cons];exact Vals.append ih (.cons r .nil)
theorem Vals.rep {xs:List V} {us:List Value} (h:Vals xs us):∀ k:Nat,Vals (List.replicate k xs).flatten (List.replicate k us).flatten
  | 0=> .nil
  | k+1=>by
    rw [List.replicate_succ,List.replicate_succ,List.flatten_cons,List.flatten_cons];exact Vals.append h (Vals.rep h k)
theorem JN {α:Type} (l:List α):l.eraseIdx (l.length - 1)=l.dropLast:=by
  induction l with
  | nil=>rfl
  | cons a r ih=>
    cases r with
    | nil=>rfl
    | cons b r=>
      have e:(a::b::r).length - 1=((b::r).length - 1)+1:=by
        have h1:(a::b::r).length=r.length+2:=rfl;have h2:(b::r).length=r.length+1:=rfl;omega
      rw [e,List.eraseIdx_cons_succ,ih]
      all_goals rfl
theorem HL {α:Type}:∀ (l:List α) (i:Nat),(l.eraseIdx i).length<=l.length
  | [],_=>Nat.le_refl _
  | _::_,0=>Nat.le_succ _
  | _::r,i+1=>Nat.succ_le_succ (HL r i)
theorem Hv (its:List Value):∀ (k:Nat) (acc:List Value),
    List.foldl (λ x1 x2=>x1++x2) acc.toArray (List.replicate k its.toArray)=(acc++(List.replicate k its).flatten).toArray
  | 0,acc=>by simp
  | k+1,acc=>by
    have e:acc.toArray++its.toArray=(acc++its).toArray:=by simp
    have e2:(acc++its)++(List.replicate k its).flatten=acc++(List.replicate (k+1) its).flatten:=by
      rw [List.replicate_succ,List.flatten_cons,List.append_assoc]
    rw [<-e2, <-Hv its k (acc++its), <-e,List.replicate_succ,List.foldl_cons]
section
variable {X:Cx} {pins:List (Addr × Obj)} {σ:St} {H:Hp} {s:Shared} {l b:Addr} {xs ys zs:List V}
theorem Inv.lset {its its':List Value} {n:Nat} {f:Array Value->Array Value} {t':Nat} (I:Inv X pins σ H s) (hH:H l=some (.lst xs))
    (e:s.heap.get? l=some { cls:= .type "list",data:= .seq its.toArray n }) (hf:f its.toArray=its'.toArray) (hv:Vals ys its') (hz:ys.length<=sizeLine):
    Inv X pins σ (upd H l (.lst ys)) { s with heap:=s.heap.update l (Obj.mapSeq f),toks:=t' }:=by
  have q:=PySem.IsL.update e f;rw [hf] at q;refine I.write (x:=l) (e:=l) (by rw [hH];exact trivial) (.inl rfl) (λ b' u hb hu=>(Heap.get?_update_other s.heap (Obj.mapSeq f) (Ne.symm hb)).trans hu) ⟨_,q⟩ ?_;exact ⟨hz,its',_,hv,q⟩
theorem Inv.lnew {its:List Value} {t':Nat} (I:Inv X pins σ H s) (hv:Vals ys its) (hz:ys.length<=sizeLine):
    Inv X pins σ (upd H s.heap.objs.size (.lst ys)) { s with heap:=s.heap.push { cls:= .type "list",data:= .seq its.toArray },toks:=t' }:=
  I.laid (λ _ _ q=>Heap.get?_push_of_some _ q) (Nat.le_refl _) ⟨hz,its,0,hv,Heap.get?_push_size _ rfl⟩
theorem Inv.fresh (I:Inv X pins σ H s):H s.heap.objs.size=none:=I.hok.fresh (Nat.le_refl _)
theorem Inv.lstM (I:Inv X pins σ H s) (hH:H l=some (.lst xs)):xs.length<=sizeLine/\∃ (its:List Value) (n:Nat),Vals xs its/\xs.length=its.length/\s.heap.get? l=some { cls:= .type "list",data:= .seq its.toArray n }:=by
  obtain ⟨z,its,n,r,e⟩:=I.hok l _ hH;exact ⟨z,its,n,r,r.length,e⟩
theorem Mh {n:Nat} (h:n<=sizeLine):Builtin.List.listTooLong n=false:=by
  unfold Builtin.List.listTooLong;exact decide_eq_false (by omega)
end
section
variable {X:Cx}
def rAppend:V->List V->Hp->VK->Prop:=λ x vs H Q=>∃ l xs y,x= .ref l/\vs=[y]/\H l=some (.lst xs)/\xs.length<sizeLine/\Q .non (upd H l (.lst (xs++[y])))
theorem Bb:MtM X "list.append" rAppend:=by
  intro pins s σ H x vs v us Q I rx rv h;obtain ⟨l,xs,y,rfl,rfl,hH,hz,q⟩:=h;cases rx;obtain ⟨u,rfl,ru⟩:=rv.one;obtain ⟨z,its,n,r,hl,e⟩:=I.lstM hH;refine call_meets F.slot_list_append ⟨_,e,rfl⟩ F.entry_list_append (F.args_list_append_2 _ _) (PySem.list_append l its.toArray n u (by rw [List.size_toArray];omega)) ⟨e,?_⟩;refine ⟨.non,_,I.lset (its':=its++[u]) hH e (by simp) (r.append (.cons ru .nil)) ?_,rfl,q⟩;rw [List.length_append,List.length_singleton];omega
def rPop:V->List V->Hp->VK->Prop:=λ x vs H Q=>∃ l xs y,x= .ref l/\vs=[]/\H l=some (.lst xs)/\xs[xs.length - 1]?=some y/\Q y (upd H l (.lst xs.dropLast))
theorem Qm:MtM X "list.pop" rPop:=by
  intro pins s σ H x vs v us Q I rx rv h;obtain ⟨l,xs,y,rfl,rfl,hH,hy,q⟩:=h;cases rx;have hus:=rv.zero;subst hus;obtain ⟨z,its,n,r,hl,e⟩:=I.lstM hH;obtain ⟨u,hu,ru⟩:=r.get hy;have hy':its.toArray[its.toArray.size - 1]?=some u:=by
    show its.toArray[its.length - 1]?=some u;rw [<-Array.getElem?_toList, <-hl];exact hu
  refine call_meets F.slot_list_pop ⟨_,e,rfl⟩ F.entry_list_pop (F.args_list_pop_1 _) (MeetsSeq.list_pop_last l its.toArray n u hy' (by rw [List.size_toArray];omega)) ⟨e,?_⟩;refine ⟨y,_,I.lset (its':=its.dropLast) hH e ?_ r.dropLast ?_,ru,q⟩
  · show its.toArray.eraseIdxIfInBounds (its.toArray.size - 1)=its.dropLast.toArray;rw [List.size_toArray,List.eraseIdxIfInBounds_toArray,JN]
  · rw [List.length_dropLast];omega
def rPopAt:V->List V->Hp->VK->Prop:=λ x vs H Q=>∃ l xs i k y,x= .ref l/\vs=[.int i]/\H l=some (.lst xs)/\ -(2 ^ 63)<=i/\i<2 ^ 63/\seqIndex? i xs.length=some k/\xs[k]?=some y/\Q y (upd H l (.lst (xs.eraseIdx k)))
theorem NC:MtM X "list.pop" rPopAt:=by
  intro pins s σ H x vs v us Q I rx rv h;obtain ⟨l,xs,i,k,y,rfl,rfl,hH,h1,h2,hk,hy,q⟩:=h;cases rx;obtain ⟨u,rfl,ru⟩:=rv.one;obtain ⟨t,rfl⟩:=ru;obtain ⟨z,its,n,r,hl,e⟩:=I.lstM hH;obtain ⟨w,hw,rw'⟩:=r.get hy;refine call_meets F.slot_list_pop ⟨_,e,rfl⟩ F.entry_list_pop (F.args_list_pop_2 _ _)
    (MeetsSeq.list_pop_at l its.toArray n i t k w (fitsIndex_both h1 h2) (by rw [List.size_toArray, <-hl];exact hk) (by rw [<-Array.getElem?_toList];exact hw) (by rw [List.size_toArray];omega)) ⟨e,?_⟩
  refine ⟨y,_,I.lset (its':=its.eraseIdx k) hH e ?_ (r.eraseIdx k) ?_,rw',q⟩
  · show its.toArray.eraseIdxIfInBounds k=(its.eraseIdx k).toArray;rw [List.eraseIdxIfInBounds_toArray]
  · have:=HL xs k;omega
def R9:R2:=λ x y H Q=>∃ l k xs,x= .ref l/\y= .int k/\H l=some (.lst xs)/\ -(2 ^ 63)<=k/\k<2 ^ 63/\xs.length*k.toNat<=sizeLine/\
  ∀ p,H p=none->Q (.ref p) (upd H p (.lst (List.replicate k.toNat xs).flatten))
theorem Og {α:Type} (xs:List α) (k:Nat):(List.replicate k xs).flatten.length=k*xs.length:=by
  induction k with
  | zero=>simp
  | succ k ih=>rw [List.replicate_succ,List.flatten_cons,List.length_append,ih,Nat.succ_mul,Nat.add_comm]
theorem M4:OpR X (binaryOp .Mult) R9:=by
  intro pins s σ H x y v u Q I rx ry h;obtain ⟨l,k,xs,rfl,rfl,hH,h1,h2,hz,q⟩:=h;cases rx;obtain ⟨t,rfl⟩:=ry;obtain ⟨z,its,n,r,hl,e⟩:=I.lstM hH;have hlen:its.toArray.size*k.toNat<=sizeLine:=by rw [List.size_toArray, <-hl];exact hz
  have hcap:¬ its.toArray.size*k.toNat>(2 ^ 63 - 1) / 8:=by
    have:(sizeLine:Nat)<=(2 ^ 63 - 1) / 8:=by decide
    omega
  have hfit:¬ (!Builtin.List.listFitsIndex k)=true:=by
    rw [fitsIndex_both h1 h2];exact Bool.false_ne_true
  have hlong:¬ Builtin.List.listTooLong (its.toArray.size*k.toNat)=true:=by
    rw [Mh hlen];exact Bool.false_ne_true
  have hnew:List.foldl (λ x1 x2=>x1++x2) #[] (List.replicate (if its.toArray.isEmpty=true then 0 else k.toNat) its.toArray)=(List.replicate k.toNat its).flatten.toArray:=by
    have f0:∀ m:Nat,List.foldl (λ x1 x2=>x1++x2) #[] (List.replicate m its.toArray)=(List.replicate m its).flatten.toArray:=λ m=>by
      have:=Hv its m [];rw [List.nil_append] at this;exact this
    rw [f0];cases its with
    | nil=>simp
    | cons a r'=>rw [if_neg (by simp)]
  refine wpAny_binaryOp_repeat_ref (T:="list") (U:="int") (by decide) ⟨_,e,rfl⟩ (λ s'=>typeIs_int s' k t) noFill_list_mul F.fills_int_mul F.slot_int_rmul repeat_list F.slot_int_index.lookup
    (call_meets F.slot_int_rmul (typeIs_int s k t) F.entry_int_rmul (F.args_int_rmul_2 _ _) (int___rmul___int_list k t l its.toArray n)
      ⟨e,rfl,⟨_,e,rfl⟩,call_meets F.slot_list_mul ⟨_,e,rfl⟩ F.entry_list_mul (F.args_list_mul_2 _ _) (AutoListH.list___mul___list_int_3 l its.toArray n k t hfit hcap hlong) ⟨e,?_⟩⟩)
  rw [hnew];exact ⟨.ref _,_,I.lnew (t':=s.toks) (r.rep k.toNat) (by rw [Og,Nat.mul_comm];exact hz),rfl,q _ I.fresh⟩
end
section
variable {prog:Program} {w:World} {A:Around} {E:Value->Shared->Prop} {s:Shared}
end
section
variable {X:Cx}
end
end L2
namespace Att
open PySem PySem.W PySem.Calls PyProof.Rows
theorem FM {P:Params} {h:Heap}:∀ (ns:List Int) (vs:List Value),WellAll P h vs (ns.map WData.int)->IntsAre vs ns:=by
  intro ns
  induction ns with
  | nil=>
    intro vs w;rw [List.map_nil] at w;cases w;exact .nil
  | cons n ns ih=>
    intro vs w;rw [List.map_cons] at w;cases w with
    | cons a b=>
      cases a;exact .cons _ _ (ih _ b)
theorem LX {l:OpenLaw} {n:Nat} (hn:l.most=some n) {P:Params} {h:Heap} {args:List WData} {vals:List Value}
    (hpre:l.row.toRowW.claim.pre args=true) (hwl:WellAll P h vals args):
    ∃ a vs ns,vals=[Value.ref a]/\args=[WData.list (ns.map WData.int)]/\h.get? a=some { cls:= .type "list",data:= .seq vs.toArray }/\IntsAre vs ns/\ns.length<=n:=by
  have hsh:WShape.hasAll [] args [.list .int]=true:=(pre_splitW hpre).1;have hc:l.pre.holds [] { args:=args }=true:=(pre_splitW hpre).2;obtain ⟨d,r,rfl,h1,h2⟩:=hasAllW_cons hsh;obtain rfl:=hasAllW_nil h2;obtain ⟨xs,rfl,h3⟩:=hasW_list h1;obtain ⟨ns,rfl⟩:=items_int h3;have hlen:ns.length<=n:=by
    unfold OpenLaw.pre at hc;have h4:(WTm.not (.lt (.lit (.int (n:Int))) (.len (.arg 0)))).holds [] { args:=[.list (ns.map .int)] }=true:=by
      have h4:=(holds_andW hc).1;rw [hn] at h4;exact h4
    have h5:=condW_of h4 (w_not (w_lt w_lit (w_len_list (w_arg rfl))));rw [List.length_map] at h5;refine Nat.le_of_not_lt λ q=> ?_;have q':(n:Int)<((ns.length:Nat):Int):=by omega
    first
      | (rw [decide_eq_true q'] at h5;exact absurd h5 (by decide))
      | (simp at h5;omega)
  cases hwl with
  | cons w1 w2=>
    cases w2;cases w1 with
    | list ho hall=>exact ⟨_,_,ns,rfl,rfl,ho,FM ns _ hall,hlen⟩
theorem LY (l:OpenLaw) (args:List WData):l.row.toRowW.claim.post args (.bool true) args=true:=
  postW_of (r:=l.row.toRowW) (X:=(true == true))
    (show WShape.has [] (.bool true) .bool=true by first | rfl | decide | simp [WShape.has,WShape.arms,WShape.armsAll])
    (show (WTm.eq .res (.lit (.bool true))).value [] { args:=args,res:=some (.bool true),after:=args }=some (.bool (true == true)) from w_eq_bool (w_res rfl) w_lit) rfl
theorem attach_call {l:OpenLaw} {n:Nat} {q:Program} {loose:List Str} {XP:(Str->Option Value)->Heap->Prop} {YP:World->Heap->Prop} {d:DefRec}
    (hn:l.most=some n) (hdf:d.params.defaults=[])
    (call:∀ (w:World) (s₀ s₁:Shared) (mg mb:Str->Option Value) (fa:Addr) (o:Obj) (pm cd doc:Value) (a:Addr) (vs:List Value) (ns:List Int),
      Ground q loose [] XP w s₀ mg mb s₁.heap->YP w s₁.heap->
      s₁.heap.get? fa=some o->o.data= .func (docDef d.name d.params d.body d.scope pm cd doc)->s₁.heap.CodeRec cd d.name->mg d.name=some (.ref fa)->
      s₁.heap.get? a=some { cls:= .type "list",data:= .seq vs.toArray }->IntsAre vs ns->ns.length<=n->s₁.gens= #[]->
      codeAny (model l.prog w) callerA (.call (.ref fa) ⟨[.ref a],[]⟩) (λ r s'=>r= .ok (.ret (.bool true))/\OldK s₁.heap s'.heap/\s'.os=s₁.os/\AllBare s'.gens) s₁):
    WalkO q loose XP YP l.row.toRowW d [] (λ f vs=>PySem.call f vs):=by
  intro w s₀ s₁ mg mb G Y fa o pm cd doc dV kV ho hd hcd hD hmg hg args vals as hpre hlay hrd hwl hlo;obtain rfl:dV= .none:=Dflts.none hD hdf;obtain rfl:kV= .none:=Dflts.noKw hD;obtain ⟨a,vs,ns,rfl,rfl,hobj,hints,hlen⟩:=LX hn hpre hwl;refine enter_call (codeAny_mono (call w s₀ s₁ mg mb fa o pm cd doc a vs ns G Y ho (fd_plain hd) hcd hmg hobj hints hlen hg) λ r s' hq=> ?_);obtain ⟨rfl,h2,h3,h4⟩:=hq;exact ⟨.inl ⟨.bool true, .bool true,[],rfl,λ _=>rfl, .bool true,LY l _,λ _=>⟨List.Pairwise.nil,λ _ hm=>(nomatch hm)⟩⟩,h2,h3,h4⟩
section
variable {prog:Program} {w:World} {A:Around} {E:Value->Shared->Prop} {s:Shared} {K:Frag}
end
end Att
namespace L2
open PySem PySem.Spec PyProof.Rows
theorem HP:∀ {vs:List Value} {ns:List Int},IntsAre vs ns->Vals (ns.map V.int) vs
  | _,_, .nil=> .nil
  | _,_, .cons n t h=> .cons ⟨t,rfl⟩ (HP h)
def Qg (H:Hp):Prop:=∀ b,H b=none\/∃ o xs,H b=some (.frz o (.lst xs))
theorem M9 {P:Program} {w:World} {K:PySem.W.Frag} {mg mb:Str->Option Value} {CX:CXT} {k:Nat} {fa a:Addr} {fd:FuncData} {x:Str} {sp:Sp} {s₁:Shared} {vs:List Value} {ns:List Int}
    (KX:K.In s₁.heap) (hns:s₁.heap.Ns mainGlobals mg) (hb:s₁.heap.Ns builtinsNs mb) (hbb:∀ x:Str,x≠"__name__"->mb x=bootBuiltins x) (hlim:s₁.heap.NoLimit) (hg:s₁.gens= #[])
    (ha:s₁.heap.get? a=some { cls:= .type "list",data:= .seq vs.toArray }) (hi:IntsAre vs ns) (hl:ns.length<=sizeLine) (hr:Room k callerA)
    (F:∀ base:Heap,K.In base->base.Ns mainGlobals mg->FnOk P w K mg base CX k fa fd [x] sp) (hbind:∀ (s:Shared) (u:Value),BindsTo s fd ⟨[u],[]⟩ [(x,u)])
    (hsp:∀ H:Hp,Qg H->SqL K H a (ns.map V.int)->sp [.ref a] H (λ v _=>v= .bl true) λ _ _ _=>False)
    (hCX:∀ H e s',CX [] H s₁ (λ _ _ _=>False) e s'->False):
    codeAny (model P w) callerA (.call (.ref fa) ⟨[.ref a],[]⟩) (λ r s'=>r= .ok (.ret (.bool true))/\OldK s₁.heap s'.heap/\s'.os=s₁.os/\AllBare s'.gens) s₁:=by
  have rv:=HP hi;have lenV:=hi.length;have core:∀ H:Hp,Qg H->SqL K H a (ns.map V.int)->HOk P w H s₁.heap->(∀ b,H b≠none->b=a)->(H a≠none->K.lookup a=none)->
      codeAny (model P w) callerA (.call (.ref fa) ⟨[.ref a],[]⟩) (λ r s'=>r= .ok (.ret (.bool true))/\OldK s₁.heap s'.heap/\s'.os=s₁.os/\AllBare s'.gens) s₁:=by
    intro H hO hS hok hA hK;have base_of:∀ {b:Addr} {o:Obj},s₁.heap.get? b=some o->H b=none->(Ij s₁.heap H).get? b=some o:=λ e n=>NF e n;have noA:∀ {b:Addr} {o:Obj} {es:Array DictEntry} {ep:Nat},s₁.heap.get? b=some o->o.data= .dict es ep->H b=none:=λ {b o es ep} e d=>by
      cases q:H b with
      | none=>rfl
      | some u=>
        have e':b=a:=hA b (by rw [q];simp);subst e';rw [ha] at e;cases e;have d':Data.seq vs.toArray _=Data.dict es ep:=d;cases d'
    have nsK:∀ {b:Addr} {m:Str->Option Value},s₁.heap.Ns b m->(Ij s₁.heap H).Ns b m:=λ {b m} ⟨o,es,ep,e,d,r⟩=>⟨o,es,ep,base_of e (noA e d),d,r⟩;have hKb:K.In (Ij s₁.heap H):=λ b o e=>base_of (KX b o e) (by
      cases q:H b with
      | none=>rfl
      | some u=>
        have e':b=a:=hA b (by rw [q];simp);subst e';rw [hK (by rw [q];simp)] at e;cases e)
    have hM:Mod K mg (Ij s₁.heap H):=⟨hKb,nsK hns,⟨mb,nsK hb,hbb⟩,let ⟨mc,h1,h2⟩:=hlim;⟨mc,nsK h1,h2⟩⟩;have e0:Env0 P w K mg (Ij s₁.heap H) callerA [] s₁ H:=⟨rfl,hM,λ b o e=>Ov e,Nat.le_of_eq (L7 _ _),trivial,λ b hb=>absurd (show b∈([]:List Addr) from hb) (by simp),hok, .of_eq hg⟩;refine codeAny_mono ((F _ hKb (nsK hns)).run callerA [] s₁ H ⟨[.ref a],[]⟩ [.ref a] [.ref a] _ _ hr e0 (hbind s₁ (.ref a)) (.cons rfl .nil) (hsp H hO hS)) λ r s' h=> ?_;cases r with
    | error e=>exact (hCX H e s' h).elim
    | ok fl=>
      cases fl with
      | next=>exact False.elim h
      | brk=>exact False.elim h
      | cont=>exact False.elim h
      | ret u=>
        obtain ⟨v,H',os,bare,un,hok',r',q⟩:=h;have q':v= .bl true:=q;subst q';obtain rfl:u=Value.bool true:=r';refine ⟨rfl,OldK.of_keep λ b o e=> ?_,os,bare⟩;cases q:H b with
        | none=>exact un.keep b o e q (by intro z;exact absurd (show b∈([]:List Addr) from z) (by simp)) (by simp)
        | some u=>
          rcases hO b with z | ⟨ob,xs,z⟩
          · rw [q] at z;cases z
          · have z2:=un.frzs b ob _ z;obtain ⟨e1,_⟩:=hok b _ z;obtain ⟨e2,_⟩:=hok' b _ z2;rw [e] at e1;cases e1;exact e2
  cases hk:K.lookup a with
  | some o=>
    have e:=KX a o hk;rw [ha] at e;cases e;refine core (λ _=>none) (λ _=> .inl rfl) (.inr ⟨_,vs.toArray,_,hk,rfl,rfl,rfl,by rw [List.size_toArray,lenV];exact hl,by simpa using rv⟩) (λ b u z=>by have z':(none:Option HO)=some u:=z;cases z') (λ b z=>absurd rfl z) λ z=>absurd rfl z
  | none=>
    refine core (λ b=>if b=a then some (.frz { cls:= .type "list",data:= .seq vs.toArray } (.lst (ns.map V.int))) else none) (λ b=> ?_) (.inl (.inr ⟨{ cls:= .type "list",data:= .seq vs.toArray },if_pos rfl⟩)) (λ b u z=> ?_) (λ b z=> ?_) λ _=>hk
    · by_cases hb:b=a
      · exact .inr ⟨_,_,if_pos hb⟩
      · exact .inl (if_neg hb)
    · by_cases hb:b=a
      · have z':=(if_pos hb).symm.trans z;cases z';subst hb;exact ⟨ha,by rw [List.length_map];exact hl,vs,_,rv,ha⟩
      · have z':=(if_neg hb).symm.trans z;cases z'
    · by_cases hb:b=a
      · exact hb
      · exact absurd (if_neg hb) z
theorem walk_of {l:PySem.W.OpenLaw} {n k:Nat} {q:Program} {loose:List Str} {XP:(Str->Option Value)->Heap->Prop} {YP:World->Heap->Prop} {d:DefRec} {K:Params->PySem.W.Frag} {CX:World->CXT} {sp:World->Sp} {x:Str}
    (hn:l.most=some n) (hn2:n<=sizeLine) (hdf:d.params.defaults=[]) (hr:Room k callerA)
    (hY:∀ (w:World) (h:Heap),YP w h->(K w.params).In h)
    (F:∀ (w:World) (mg:Str->Option Value) (fa:Addr) (h:Heap),(K w.params).In h->h.Ns mainGlobals mg->mg d.name=some (.ref fa)->
      ∃ fd:FuncData,(∀ (s:Shared) (u:Value),BindsTo s fd ⟨[u],[]⟩ [(x,u)])/\
        ∀ base:Heap,(K w.params).In base->base.Ns mainGlobals mg->FnOk l.prog w (K w.params) mg base (CX w) k fa fd [x] (sp w))
    (hsp:∀ (w:World) (H:Hp) (a:Addr) (ns:List Int),ns.length<=n->Qg H->SqL (K w.params) H a (ns.map V.int)->sp w [.ref a] H (λ v _=>v= .bl true) λ _ _ _=>False)
    (hCX:∀ (w:World) (H:Hp) (s:Shared) (e:Value) (s':Shared),CX w [] H s (λ _ _ _=>False) e s'->False):
    PySem.W.WalkO q loose XP YP l.row.toRowW d [] (λ f vs=>PySem.call f vs):=by
  refine Att.attach_call hn hdf λ w s₀ s₁ mg mb fa o pm cd doc a vs ns G Y ho hd hcd hmg hobj hints hlen hg=> ?_;have KX:=hY w _ Y;obtain ⟨fd,hb,hF⟩:=F w mg fa _ KX G.T.g hmg;exact M9 KX G.T.g G.T.b G.T.builtins G.T.nolimit hg hobj hints (Nat.le_trans hlen hn2) hr hF hb (λ H hO hS=>hsp w H a ns hlen hO hS) λ H e s'=>hCX w H s₁ e s'
abbrev CX0:CXT:=λ _ _ _ _ _ _=>False
abbrev E0:XK:=λ _ _ _=>False
theorem KR {X:Cx}:EB CX0 X E0:=λ _ _ _ _ _ _ _ h=>h.elim
structure Fun (K:PySem.W.Frag) (x qual:Str) (st:Stmt) (f:Addr) (fd:FuncData):Prop where
  ex:∃ (oc:Value) (od:Option Addr) (kV doc pm:Value) (an:Option Addr) (cdv ct:Value) (osl:Array (Option Value)),
    fd=PySem.W.fnOf x qual (EO st) (DR st) (Ak st) .none kV doc pm an cdv ct/\K.lookup f=some ⟨oc,od, .func fd,osl⟩/\PySem.W.codeIn K cdv qual=true
  kp:PySem.W.keepIn K (.ref f)=true
section
variable {P:Program} {w:World} {K:PySem.W.Frag} {mg:Str->Option Value} {base:Heap}
theorem Fun.ok {x qual:Str} {st:Stmt} {f:Addr} {fd:FuncData} {N ps:List Str} {k:Nat} {sp:Sp} (F:Fun K x qual st f fd) (S:FnScope N ps (Ak st)) (len:∀ vs H Q E,sp vs H Q E->vs.length=ps.length)
    (hbody:∀ (cdv:Value) (A:Around) (outer:List Env) (s:Shared) (H:Hp) (vs:List V) (Q:VK) (E:XK),Room k (A.deeper (envOfC qual (Ak st) s.heap.objs.size f cdv))->sp vs H Q E->
      ∃ t,PSs (Lk CX0 P w K mg base N qual (Ak st) f cdv A outer s H E).nox (DR st) t/\t { nx:=λ _ H'=>Q .non H',rt:=Q } (start N vs) H):FnOk P w K mg base CX0 (k+1) f fd ps sp:=by
  obtain ⟨oc,od,kV,doc,pm,an,cdv,ct,osl,rfl,lk,hcd⟩:=F.ex;refine TQ lk hcd S len λ A outer s H vs Q E hr hsp=> ?_;obtain ⟨t,h,q⟩:=hbody cdv A outer s H vs Q E hr hsp;exact ⟨t,h.nox,q⟩
theorem fun_mk {x qual:Str} {st:Stmt} {f:Addr} {oc:Value} {od an:Option Addr} {osl:Array (Option Value)} {kV doc pm cdv ct:Value} (l:K.lookup f=some ⟨oc,od, .func (PySem.W.fnOf x qual (EO st) (DR st) (Ak st) .none kV doc pm an cdv ct),osl⟩)
    (c:PySem.W.codeIn K cdv qual=true) (k:PySem.W.keepIn K (.ref f)=true):Fun K x qual st f (PySem.W.fnOf x qual (EO st) (DR st) (Ak st) .none kV doc pm an cdv ct):=⟨⟨oc,od,kV,doc,pm,an,cdv,ct,osl,rfl,l,c⟩,k⟩
end
section
variable {X:Cx}
theorem pv (i:Nat) {x:Str} {pos:Pos} (hN:X.N[i]?=some x:=by rfl) (hv:Vis X.env.scope x:=by first | exact Or.inl rfl | exact Or.inr (Or.inl rfl) | exact Or.inr (Or.inr rfl)) (hd:(x == ("__debug__":Str))=false:=by decide)
    (hcd:(x == ("__classdict__":Str))=false:=by decide):PE X (.Name x pos) (MR i):=RD hN hv hd hcd
end
theorem J6 {A B:Prop} (h:B):if false=true then A else B:=by
  rw [if_neg Bool.false_ne_true];exact h
theorem Kb {A B:Prop} (h:A):if true=true then A else B:=by
  rw [if_pos rfl];exact h
def Same (H H':Hp):Prop:=∀ b o,H b=some o->H' b=some o
theorem Same.refl (H:Hp):Same H H:=λ _ _ h=>h
theorem Same.trans {H H1 H2:Hp} (a:Same H H1) (b:Same H1 H2):Same H H2:=λ c o h=>b c o (a c o h)
theorem Same.free {H H':Hp} (e:Same H H') {l:Addr} (h:H' l=Option.none):H l=Option.none:=by
  cases q:H l with
  | none=>rfl
  | some o=>
    rw [e l o q] at h;cases h
theorem Same.seq {K:PySem.W.Frag} {H H':Hp} {a:Addr} {xs:List V} (e:Same H H') (h:SqL K H a xs):SqL K H' a xs:=by
  rcases h with (h | ⟨o,h⟩) | h
  · exact .inl (.inl (e _ _ h))
  · exact .inl (.inr ⟨o,e _ _ h⟩)
  · exact .inr h
section
variable {κ:Type} [DecidableEq κ]
def Bd (kvs:List (κ × V)) (k:κ):Option V:=(kvs.find? λ kv=>decide (kv.1=k)).map (·.2)
def Ct (kvs:List (κ × V)) (k:κ) (v:V):List (κ × V):=
  if (kvs.any λ kv=>decide (kv.1=k))=true then kvs.map (λ kv=>if kv.1=k then (kv.1,v) else kv) else kvs++[(k,v)]
theorem AX {p:κ × V} {r:List (κ × V)} {k:κ} (e:p.1=k):Bd (p::r) k=some p.2:=by simp [Bd,List.find?_cons,e]
theorem AO {p:κ × V} {r:List (κ × V)} {k:κ} (e:¬ p.1=k):Bd (p::r) k=Bd r k:=by simp [Bd,List.find?_cons,e]
theorem DB (k:κ):∀ kvs:List (κ × V),(kvs.any λ kv=>decide (kv.1=k))=(Bd kvs k).isSome
  | []=>rfl
  | p::r=>by
    rw [List.any_cons];by_cases e:p.1=k
    · simp only [AX e,decide_eq_true e,Bool.true_or,Option.isSome_some]
    · rw [AO e,decide_eq_false e,Bool.false_or];exact DB k r
theorem Jd (k j:κ) (y:V):∀ kvs:List (κ × V),Bd (kvs.map λ kv=>if kv.1=k then (kv.1,y) else kv) j=(Bd kvs j).map λ x=>if j=k then y else x
  | []=>rfl
  | p::r=>by
    have ih:=Jd k j y r;rw [List.map_cons];by_cases h:p.1=k
    · rw [if_pos h];by_cases e:p.1=j
      · rw [AX (p:=(p.1,y)) e,AX e,Option.map_some,if_pos (e.symm.trans h)]
      · rw [AO (p:=(p.1,y)) e,AO e,ih]
    · rw [if_neg h];by_cases e:p.1=j
      · rw [AX (p:=p) e,AX e,Option.map_some,if_neg (λ z=>h (e.trans z))]
      · rw [AO (p:=p) e,AO e,ih]
theorem Hw (k j:κ) (y:V):∀ kvs:List (κ × V),Bd kvs k=none->Bd (kvs++[(k,y)]) j=if j=k then some y else Bd kvs j
  | [],_=>by
    by_cases e:k=j
    · rw [if_pos e.symm];exact AX (p:=(k,y)) e
    · rw [if_neg (λ z=>e z.symm)];exact AO (p:=(k,y)) e
  | p::r,hn=>by
    rw [List.cons_append];have hk:¬ p.1=k:=λ z=>by rw [AX z] at hn;cases hn
    rw [AO hk] at hn;have ih:=Hw k j y r hn;by_cases e:p.1=j
    · rw [AX e,AX e,if_neg (λ z=>hk (e.trans z))]
    · rw [AO e,AO e,ih]
theorem F9 (kvs:List (κ × V)) (k j:κ) (y:V):Bd (Ct kvs k y) j=if j=k then some y else Bd kvs j:=by
  unfold Ct;by_cases a:(kvs.any λ kv=>decide (kv.1=k))=true
  · rw [if_pos a,Jd];rw [DB] at a;by_cases e:j=k
    · obtain ⟨x,hx⟩:=Option.isSome_iff_exists.mp a;rw [if_pos e,e,hx,Option.map_some,if_pos rfl]
    · rw [if_neg e];cases Bd kvs j with
      | none=>rfl
      | some x=>rw [Option.map_some,if_neg e]
  · rw [if_neg a];refine Hw k j y kvs ?_;rw [DB] at a;cases q:Bd kvs k with
    | none=>rfl
    | some x=>rw [q] at a;exact (a rfl).elim
theorem Bf (kvs:List (κ × V)) (k:κ) (v:V):(Ct kvs k v).length<=kvs.length+1:=by
  unfold Ct;split
  · rw [List.length_map];omega
  · rw [List.length_append,List.length_cons,List.length_nil];omega
theorem F1 {kvs:List (κ × V)} {k:κ} (v:V) (h:Bd kvs k=none):Ct kvs k v=kvs++[(k,v)]:=by
  unfold Ct;rw [DB,h];exact if_neg (by decide)
theorem RelO.isSome_eq {o:Option V} {u:Option Value} (r:RelO o u):o.isSome=u.isSome:=by
  cases o with
  | none=>cases u with
    | none=>rfl
    | some _=>exact (show False from r).elim
  | some _=>cases u with
    | none=>exact (show False from r).elim
    | some _=>rfl
theorem KV.val {kvs:List (κ × V)} {vs:List (κ × Value)} (r:KV kvs vs) (k:κ):RelO (Bd kvs k) (valueAt vs k):=by
  unfold KV at r
  induction r with
  | nil=>exact True.intro
  | @cons p q ps qs h t ih=>
    obtain ⟨h1,h2⟩:=h;by_cases e:p.1=k
    · have e':q.1=k:=h1.symm.trans e;have b:valueAt (q::qs) k=some q.2:=by simp [valueAt,List.find?_cons,e']
      rw [AX e,b];exact h2
    · have e':¬ q.1=k:=λ z=>e (h1.trans z);have b:valueAt (q::qs) k=valueAt qs k:=by simp [valueAt,List.find?_cons,e']
      rw [AO e,b];exact ih
theorem KV.any {kvs:List (κ × V)} {vs:List (κ × Value)} (r:KV kvs vs) (k:κ):(kvs.any λ kv=>decide (kv.1=k))=vs.any λ kv=>decide (kv.1=k):=by
  unfold KV at r
  induction r with
  | nil=>rfl
  | cons h t ih=>rw [List.any_cons,List.any_cons,ih,h.1]
theorem KV.repl {kvs:List (κ × V)} {vs:List (κ × Value)} (r:KV kvs vs) (k:κ) {y:V} {u:Value} (ry:RelV y u):
    KV (kvs.map λ kv=>if kv.1=k then (kv.1,y) else kv) (vs.map λ kv=>if kv.1=k then (kv.1,u) else kv):=by
  unfold KV at r ⊢
  induction r with
  | nil=>exact .nil
  | @cons p q ps qs h t ih=>
    rw [List.map_cons,List.map_cons];refine .cons ?_ ih;obtain ⟨h1,h2⟩:=h;by_cases e:p.1=k
    · rw [if_pos e,if_pos (h1.symm.trans e)];exact ⟨h1,ry⟩
    · rw [if_neg e,if_neg (λ z=>e (h1.trans z))];exact ⟨h1,h2⟩
theorem KV.put {kvs:List (κ × V)} {vs:List (κ × Value)} (r:KV kvs vs) (k:κ) {y:V} {u:Value} (ry:RelV y u):KV (Ct kvs k y) (stored vs k u):=by
  unfold Ct stored;rw [r.any k];by_cases e:(vs.any λ kv=>decide (kv.1=k))=true
  · rw [if_pos e,if_pos e];exact r.repl k ry
  · rw [if_neg e,if_neg e];exact Paired.snoc r ⟨rfl,ry⟩
theorem KV.length {kvs:List (κ × V)} {vs:List (κ × Value)} (r:KV kvs vs):kvs.length=vs.length:=Paired.length r
end
theorem Jh {P:Program} {w:World} {k:Key} {u:Value} (r:RelV (kV k) u):(AJ P w).is k u=true:=by
  cases k with
  | inl i=>obtain ⟨t,e⟩:=(show ∃ t,u=Value.int i t from r);subst e;exact JA P w i t
  | inr x=>obtain ⟨t,e⟩:=(show ∃ t,u=Value.str x t from r);subst e;exact Jn P w x t
theorem Hz {P:Program} {w:World}:∀ {ks:List Key} {us:List Value},Vals (ks.map kV) us->ItemsAre (AJ P w) ks us
  | [],_,r=>by rw [List.map_nil] at r;cases r;exact .nil
  | k::ks,_,r=>by
    rw [List.map_cons] at r;cases r with
    | cons h t=>exact .cons (Jh h) (Hz t)
abbrev KT (H:Hp):List (List Key × V)->List (List Key × Addr × Value)->Prop:=Paired λ p q=>p.1=q.1/\H q.2.1=some (.tup (p.1.map kV))/\RelV p.2 q.2.2
theorem KT.val {H:Hp} {kvs:List (List Key × V)} {xs:List (List Key × Addr × Value)} (r:KT H kvs xs) (k:List Key):RelO (Bd kvs k) ((atKey xs k).map (·.2)):=by
  induction r with
  | nil=>exact True.intro
  | @cons p q ps qs h t ih=>
    obtain ⟨h1,_,h2⟩:=h;by_cases e:p.1=k
    · have e':q.1=k:=h1.symm.trans e;have b:atKey (q::qs) k=some q.2:=by simp [atKey,List.find?_cons,e']
      rw [AX e,b];exact h2
    · have e':¬ q.1=k:=λ z=>e (h1.trans z);have b:atKey (q::qs) k=atKey qs k:=by simp [atKey,List.find?_cons,e']
      rw [AO e,b];exact ih
theorem KT.repl {H:Hp} {kvs:List (List Key × V)} {xs:List (List Key × Addr × Value)} (r:KT H kvs xs) (k:List Key) {y:V} {u:Value} (ry:RelV y u):
    KT H (kvs.map λ kv=>if kv.1=k then (kv.1,y) else kv) (xs.map (putAt k u)):=by
  induction r with
  | nil=>exact .nil
  | @cons p q ps qs h t ih=>
    rw [List.map_cons,List.map_cons];refine .cons ?_ ih;obtain ⟨h1,h2,h3⟩:=h;unfold putAt;by_cases e:p.1=k
    · rw [if_pos e,if_pos (h1.symm.trans e)];exact ⟨h1,h2,ry⟩
    · rw [if_neg e,if_neg (λ z=>e (h1.trans z))];exact ⟨h1,h2,h3⟩
theorem KT.put {H:Hp} {kvs:List (List Key × V)} {xs:List (List Key × Addr × Value)} (r:KT H kvs xs) (k:List Key) {b:Addr} {y:V} {u:Value} (hb:H b=some (.tup (k.map kV))) (ry:RelV y u):
    KT H (Ct kvs k y) (storedH xs k b u):=by
  have e:(kvs.any λ kv=>decide (kv.1=k))=(atKey xs k).isSome:=by
    rw [DB,(r.val k).isSome_eq,Option.isSome_map]
  unfold Ct storedH;rw [e];by_cases q:(atKey xs k).isSome=true
  · rw [if_pos q,if_pos q];exact r.repl k ry
  · rw [if_neg q,if_neg q];exact Paired.snoc r ⟨rfl,hb,ry⟩
theorem KT.keeps {H H':Hp} {kvs:List (List Key × V)} {xs:List (List Key × Addr × Value)} (r:KT H kvs xs) (ht:∀ b ys,H b=some (.tup ys)->H' b=some (.tup ys)):KT H' kvs xs:=
  Paired.mapP r λ _ _ z=>⟨z.1,ht _ _ z.2.1,z.2.2⟩
section
variable {P:Program} {w:World} {H:Hp} {h:Heap} {a:Addr}
theorem Px {u:HO} (ok:HOk P w H h) (e:Rd H a u):ObjOk P w H h a u:=e.ok ok
theorem Jp {kvs:List (Key × V)} (ok:HOk P w H h) (e:Rd H a (.dK kvs)):kvs.length<=sizeLine/\(a == sysModules)=false/\∃ vs,KV kvs vs/\h.DictOf (AJ P w) a vs:=
  show ObjOk P w H h a (.dK kvs) from Px ok e
theorem VL {kvs:List (Key × V)} (ok:HOk P w H h) (e:H a=some (.dK kvs)):kvs.length<=sizeLine/\(a == sysModules)=false/\∃ vs,KV kvs vs/\h.DictOf (AJ P w) a vs:=Jp ok (.inl e)
theorem DI {ks:List Key} (ok:HOk P w H h) (e:H a=some (.tup (ks.map kV))):(tupleKind (AJ P w)).is h ks a:=by
  obtain ⟨_,its,r,o,h1,h2,n,h3⟩:=(show ObjOk P w H h a (.tup (ks.map kV)) from ok a _ e);exact ⟨o,its.toArray,n,h1,h2,h3,by simpa using Hz r⟩
theorem IG {kvs:List (List Key × V)} (ok:HOk P w H h) (e:Rd H a (.dT kvs)):kvs.length<=sizeLine/\(a == sysModules)=false/\
    ∃ xs,KT H kvs xs/\h.DictOfH (tupleKind (AJ P w)) a xs:=by
  obtain ⟨z,y,xs,r,o,es,ep,h1,h2,h3,h4,h5⟩:=(show ObjOk P w H h a (.dT kvs) from Px ok e);refine ⟨z,y,xs,r,o,es,ep,h1,h2,h3,h4,λ x hx=> ?_,h5⟩;have all:∀ {l:List (List Key × V)} {m:List (List Key × Addr × Value)},KT H l m->∀ x∈m,(tupleKind (AJ P w)).is h x.1 x.2.1:=by
    intro l m q
    induction q with
    | nil=>intro x hx;exact nomatch hx
    | @cons p q ps qs hq t ih=>
      intro x hx;rcases List.mem_cons.mp hx with e | hx
      · subst e;exact DI ok (by rw [<-hq.1];exact hq.2.1)
      · exact ih x hx
  exact all r x hx
theorem K4 {kvs:List (List Key × V)} (ok:HOk P w H h) (e:H a=some (.dT kvs)):kvs.length<=sizeLine/\(a == sysModules)=false/\
    ∃ xs,KT H kvs xs/\h.DictOfH (tupleKind (AJ P w)) a xs:=IG ok (.inl e)
end
def DGet (H:Hp) (a:Addr) (y:V) (r:Option V):Prop:=
  (∃ kvs k,Rd H a (.dK kvs)/\y=kV k/\r=Bd kvs k)\/∃ kvs k b,Rd H a (.dT kvs)/\y= .ref b/\H b=some (.tup (k.map kV))/\r=Bd kvs k
def DPut (H:Hp) (a:Addr) (y v:V) (H':Hp):Prop:=
  (∃ kvs k,H a=some (.dK kvs)/\y=kV k/\kvs.length<sizeLine/\H'=upd H a (.dK (Ct kvs k v)))\/
  ∃ kvs k b,H a=some (.dT kvs)/\y= .ref b/\H b=some (.tup (k.map kV))/\kvs.length<sizeLine/\H'=upd H a (.dT (Ct kvs k v))
theorem DGet.t {H:Hp} {a b:Addr} {kvs:List (List Key × V)} {k:List Key} (e:H a=some (.dT kvs)) (eb:H b=some (.tup (k.map kV))):DGet H a (.ref b) (Bd kvs k):= .inr ⟨kvs,k,b, .inl e,rfl,eb,rfl⟩
theorem DPut.t {H:Hp} {a b:Addr} {kvs:List (List Key × V)} {k:List Key} {v:V} (e:H a=some (.dT kvs)) (eb:H b=some (.tup (k.map kV))) (hl:kvs.length<sizeLine):
    DPut H a (.ref b) v (upd H a (.dT (Ct kvs k v))):= .inr ⟨kvs,k,b,e,rfl,eb,hl,rfl⟩
section
variable {X:Cx} {pins:List (Addr × Obj)} {σ:St} {H:Hp} {s:Shared} {a:Addr} {y v:V} {u r:Value} {o:Option V} {A:Around} {E:Value->Shared->Prop}
theorem Inv.big (I:Inv X pins σ H s):sysModules<s.heap.objs.size:=by
  have h:mainGlobals<s.heap.objs.size:=(I.mod.glob.keeps I.bk).lt;exact Nat.lt_trans (by decide) h
theorem L5 {Q:Value->Shared->Prop} (hu:A.units+1<cLine) (I:Inv X pins σ H s) (g:DGet H a y (some v)) (ry:RelV y u) (h:∀ w' s',Inv X pins σ H s'->RelV v w'->Q w' s'):
    wpAny (model X.prog X.w) A (getItem (.ref a) u) Q E s:=by
  rcases g with ⟨kvs,k,e,ey,l⟩ | ⟨kvs,k,b,e,ey,eb,l⟩
  · subst ey;obtain ⟨z,hd,vs,rel,dd⟩:=Jp I.hok e;obtain ⟨w',hw,rw'⟩:=RelO.some_of (v:=v) (o:=valueAt vs k) (by rw [l];exact rel.val k);exact wpAny_getItem_of (Jh ry) dd.mapOf hw (h w' _ (I.tok _) rw')
  · subst ey;cases (show u=Value.ref b from ry);obtain ⟨z,hd,xs,rel,dd⟩:=IG I.hok e;obtain ⟨w',hw,rw'⟩:=RelO.some_of (v:=v) (o:=(atKey xs k).map (·.2)) (by rw [l];exact rel.val k);obtain ⟨p,hp,hp2⟩:=Option.map_eq_some_iff.mp hw;refine wpAny_getItem_heap (tupleKind_room_in1 hu) (DI I.hok eb) dd hp ?_;rw [hp2];exact h w' _ (I.tok _) rw'
theorem Wm {Q:Value->Shared->Prop} (hu:A.units+1<cLine) (I:Inv X pins σ H s) (g:DGet H a y o) (ry:RelV y u) (h:∀ s',Inv X pins σ H s'->Q (.bool o.isSome) s'):
    wpAny (model X.prog X.w) A (compareOp .In u (.ref a)) Q E s:=by
  rcases g with ⟨kvs,k,e,ey,l⟩ | ⟨kvs,k,b,e,ey,eb,l⟩
  · subst ey;obtain ⟨z,hd,vs,rel,dd⟩:=Jp I.hok e;refine wpAny_in_of (Jh ry) hd dd.mapOf ?_;rw [<-(rel.val k).isSome_eq, <-l];exact h _ (I.tok _)
  · subst ey;cases (show u=Value.ref b from ry);obtain ⟨z,hd,xs,rel,dd⟩:=IG I.hok e;refine wpAny_in_heap (tupleKind_room_in1 hu) (DI I.hok eb) hd dd ?_;have q:=(rel.val k).isSome_eq;rw [Option.isSome_map] at q;rw [<-q, <-l];exact h _ (I.tok _)
theorem OF {Q:Value->Shared->Prop} (hu:A.units+1<cLine) (I:Inv X pins σ H s) (g:DGet H a y o) (ry:RelV y u) (h:∀ s',Inv X pins σ H s'->Q (.bool (!o.isSome)) s'):
    wpAny (model X.prog X.w) A (compareOp .NotIn u (.ref a)) Q E s:=by
  rcases g with ⟨kvs,k,e,ey,l⟩ | ⟨kvs,k,b,e,ey,eb,l⟩
  · subst ey;obtain ⟨z,hd,vs,rel,dd⟩:=Jp I.hok e;refine wpAny_notIn_of (Jh ry) hd dd.mapOf ?_;rw [<-(rel.val k).isSome_eq, <-l];exact h _ (I.tok _)
  · subst ey;cases (show u=Value.ref b from ry);obtain ⟨z,hd,xs,rel,dd⟩:=IG I.hok e;refine wpAny_notIn_heap (tupleKind_room_in1 hu) (DI I.hok eb) hd dd ?_;have q:=(rel.val k).isSome_eq;rw [Option.isSome_map] at q;rw [<-q, <-l];exact h _ (I.tok _)
theorem EM {h':Heap} {t':Nat} {ob:HO} (I:Inv X pins σ H s) (mu:Mut (H a)) (hs:Heap.SameBut a s.heap h') (he:∃ q,h'.get? a=some q) (new:ObjOk X.prog X.w (upd H a ob) h' a ob):
    Inv X pins σ (upd H a ob) { s with heap:=h',toks:=t' }:=
  I.write (x:=a) (e:=a) mu (.inl rfl) (λ b q hb z=>(hs.2 b hb).trans z) he new
theorem RT {P:Program} {w:World} {H':Hp} {h':Heap} {kvs:List (Key × V)} {vs:List (Key × Value)} (z:kvs.length<=sizeLine) (hd:(a == sysModules)=false) (rel:KV kvs vs) (dd:h'.DictOf (AJ P w) a vs):
    ObjOk P w H' h' a (.dK kvs):=⟨z,hd,vs,rel,dd⟩
theorem Mf {H':Hp} {Q:Unit->Shared->Prop} (hu:A.units+1<cLine) (I:Inv X pins σ H s) (g:DPut H a y v H') (ry:RelV y u) (rv:RelV v r) (h:∀ s',Inv X pins σ H' s'->Q () s'):
    wpAny (model X.prog X.w) A (setItem (.ref a) u r) Q E s:=by
  rcases g with ⟨kvs,k,e,ey,l,eH⟩ | ⟨kvs,k,b,e,ey,eb,l,eH⟩
  · subst ey eH;obtain ⟨z,hd,vs,rel,dd⟩:=VL I.hok e;have hz:vs.length<=sizeLine:=by rw [<-rel.length];exact z
    have hl:(Ct kvs k v).length<=sizeLine:=by have:=Bf kvs k v;omega
    refine wpAny_setItem_pairs (hsz:=hz) (Jh ry) dd λ h' dd' hs=>h _ ?_;have he:∃ q,h'.get? a=some q:=let ⟨q,_,_,hq,_⟩:=dd';⟨q,hq⟩;exact EM I (by rw [e];exact True.intro) hs he (RT hl hd (rel.put k rv) dd')
  · subst ey eH;cases (show u=Value.ref b from ry);obtain ⟨z,hd,xs,rel,dd⟩:=K4 I.hok e;have hz:xs.length<=sizeLine:=by rw [<-Paired.length rel];exact z
    have hl:(Ct kvs k v).length<=sizeLine:=by have:=Bf kvs k v;omega
    refine wpAny_setItem_heap (hsz:=hz) (tupleKind_room_in1 hu) (DI I.hok eb) dd λ h' dd' hs=>h _ ?_;obtain ⟨q,es,ep,hq,h2,h3,h4,_,h5⟩:=dd';refine EM I (by rw [e];exact True.intro) hs ⟨q,hq⟩ ⟨hl,hd,_,(rel.put k eb rv).keeps λ c ys ec=> ?_,q,es,ep,hq,h2,h3,h4,h5⟩;rw [Am (A8 ec e (λ z=>nomatch z))];exact ec
end
section
variable {X:Cx} {pins:List (Addr × Obj)} {σ:St} {H:Hp} {s:Shared} {a:Addr} {kvs:List (Key × V)} {k:Key} {u:Value} {A:Around} {E:Value->Shared->Prop}
end
def VX (i:Expr):Prop:=∀ ov iv,subscripted i false ov iv=operate [ov,iv] (getItem ov iv)
theorem OA {prog:Program} {w:World} {A:Around} {E:Value->Shared->Prop} {s:Shared} {env:Env} {value slice:Expr} {pos:Pos} {T id:String} {Q:Value->Shared->Prop}
    (hl:typeLookup (.type T) "__getitem__"=pure (some (.builtin id))) (hs:VX slice)
    (h:wpAny (model prog w) A (eval value env) (λ o s₁=>wpAny (model prog w) A (eval slice env) (λ i s₂=>s₂.TypeIs o T/\wpAny (model prog w) A (getItem o i) Q E s₂) E s₁) E s):
    wpAny (model prog w) A (eval (.Subscript value slice pos) env) Q E s:=by
  refine Subscript_ (wpAny_mono h (λ o s₁ h₁=>wpAny_mono h₁ (λ i s₂ h₂=> ?_) λ _ _ x=>x) λ _ _ x=>x);obtain ⟨hT,h₂⟩:=h₂;unfold subscriptTail;refine wpAny_bind ?_;rw [getitemInPython_of_ne hT.not_modules];refine wpAny_bind (wpAny_specialOf hT hl ?_);have fin:wpAny (model prog w) A (subscripted slice false o i) (λ r s₃=>wpAny (model prog w) A (letTemporaryGo value o r >>= λ _=>pure r) Q E s₃) E s₂:=by
    rw [hs o i];exact wpAny_operating (wpAny_mono h₂ (λ r s₃ h₃=>wpAny_bind (wpAny_letTemporaryGo (wpAny_pure h₃))) λ _ _ x=>x)
  first
    | exact wpAny_pure (wpAny_bind fin)
    | exact wpAny_bind (wpAny_pure (wpAny_bind fin))
    | exact wpAny_bind fin
theorem IS {X:Cx} {pins:List (Addr × Obj)} {σ:St} {H:Hp} {s:Shared} {a:Addr} {y:V} {o:Option V} (I:Inv X pins σ H s) (g:DGet H a y o):s.TypeIs (.ref a) "dict":=by
  rcases g with ⟨kvs,k,e,_,_⟩ | ⟨kvs,k,b,e,_,_,_⟩
  · obtain ⟨_,_,vs,_,dd⟩:=Jp I.hok e;exact dd.typeIs
  · obtain ⟨_,_,xs,_,dd⟩:=IG I.hok e;exact dd.typeIs
def PH (td ty:TE):TE:=λ σ H Q=>td σ H λ x H1=>ty σ H1 λ y H2=>∃ a v,x= .ref a/\DGet H2 a y (some v)/\Q v H2
def R6 (ty td:TE):TE:=λ σ H Q=>ty σ H λ y H1=>td σ H1 λ x H2=>∃ a o,x= .ref a/\DGet H2 a y o/\Q (.bl o.isSome) H2
def Ko (ty td:TE):TE:=λ σ H Q=>ty σ H λ y H1=>td σ H1 λ x H2=>∃ a o,x= .ref a/\DGet H2 a y o/\Q (.bl (!o.isSome)) H2
def Py (td ty tv:TE):TS:=λ D σ H=>tv σ H λ v H1=>td σ H1 λ x H2=>ty σ H2 λ y H3=>∃ a H4,x= .ref a/\DPut H3 a y v H4/\D.nx σ H4
section
variable {X:Cx} {o i e value:Expr} {pos pos' tpos:Pos} {td ty tv:TE}
theorem EY (hu:X.A.units+1<cLine) (ho:PE X o td) (hi:PE X i ty) (hs:VX i):PE X (.Subscript o i pos) (PH td ty):=by
  intro pins s σ H Q I h;refine OA PySem.F.slot_dict_getitem.lookup hs (thn (ho pins s σ H _ I h) λ u s1 ⟨x,H1,I1,rx,q1⟩=>thn (hi pins s1 σ H1 _ I1 q1) λ iv s2 ⟨y,H2,I2,ry,a,v,ex,g,q2⟩=> ?_);subst ex;obtain rfl:u=Value.ref a:=rx;exact ⟨IS I2 g,L5 hu I2 g ry λ w' s3 I3 rw'=>⟨v,H2,I3,rw',q2⟩⟩
theorem QG (hu:X.A.units+1<cLine) (hi:PE X i ty) (ho:PE X o td):PC X .In i o (R6 ty td):=by
  intro pins s σ H Q I h;refine thn (hi pins s σ H _ I h) λ iv s1 ⟨y,H1,I1,ry,q1⟩=>thn (ho pins s1 σ H1 _ I1 q1) λ u s2 ⟨x,H2,I2,rx,a,ov,ex,g,q2⟩=> ?_;subst ex;obtain rfl:u=Value.ref a:=rx;exact Wm hu I2 g ry λ s3 I3=>⟨.bl ov.isSome,H2,I3,rfl,q2⟩
theorem LE (hu:X.A.units+1<cLine) (hi:PE X i ty) (ho:PE X o td):PC X .NotIn i o (Ko ty td):=by
  intro pins s σ H Q I h;refine thn (hi pins s σ H _ I h) λ iv s1 ⟨y,H1,I1,ry,q1⟩=>thn (ho pins s1 σ H1 _ I1 q1) λ u s2 ⟨x,H2,I2,rx,a,ov,ex,g,q2⟩=> ?_;subst ex;obtain rfl:u=Value.ref a:=rx;exact OF hu I2 g ry λ s3 I3=>⟨.bl (!ov.isSome),H2,I3,rfl,q2⟩
theorem EW (hu:X.A.units+1<cLine) (ho:PE X o td) (hi:PE X i ty) (hv:PE X value tv) (hs:swapsWith value (some (.Subscript o i pos')) pos.line X.env=pure false):
    PS X (.Assign [.Subscript o i pos'] value pos) (Py td ty tv):=by
  intro pins s σ H D I h;refine wpAny_Assign_Subscript (thn (hv pins s σ H _ I h) λ r s1 ⟨v,H1,I1,rv,q1⟩=>thn (ho pins s1 σ H1 _ I1 q1) λ u s2 ⟨x,H2,I2,rx,q2⟩=>thn (hi pins s2 σ H2 _ I2 q2) λ iv s3 ⟨y,H3,I3,ry,a,H4,ex,g,q3⟩=> ?_) hs;subst ex;obtain rfl:u=Value.ref a:=rx;exact Mf hu I3 g ry rv λ s4 I4=>⟨σ,H4,I4,q3⟩
end
theorem Ge {P:Program} {w:World} {H:Hp} (h:Heap) (hb:sysModules<h.objs.size):ObjOk P w H (h.push { cls:= .type "dict",data:= .dict #[] }) h.objs.size (.dT []):=
  ⟨Nat.zero_le _,beq_eq_false_iff_ne.mpr (Ne.symm (Nat.ne_of_lt hb)),[], .nil,_, #[],0,Heap.get?_push_size _ rfl,⟨rfl,rfl,rfl⟩,rfl,rfl,List.nodup_nil⟩
def Q9:TE:=λ _ H Q=>∀ p,H p=none->Q (.ref p) (upd H p (.dT []))
section
variable {X:Cx} {pos:Pos}
theorem E4:PE X (.Dict [] [] pos) Q9:=λ pins s σ H Q I h=>
  wpAny_Dict_empty ⟨.ref s.heap.objs.size,_,I.laid (a:=s.heap.objs.size) (o:= .dT []) (t':=s.toks) (λ _ _ q=>Heap.get?_push_of_some _ q) (Nat.le_refl _) (Ge s.heap I.big),rfl,h _ (I.hok.fresh (Nat.le_refl _))⟩
end
def Em:List (TE × TE)->St->Hp->(List (V × V)->Hp->Prop)->Prop
  | [],_,H,Q=>Q [] H
  | (tk,tv)::r,σ,H,Q=>tk σ H λ x H1=>tv σ H1 λ y H2=>Em r σ H2 λ ps H3=>Q ((x,y)::ps) H3
abbrev VV:List (V × V)->List (Value × Value)->Prop:=Paired λ p q=>RelV p.1 q.1/\RelV p.2 q.2
def PPs (X:Cx) (pos:Pos) (keys:List (Option Expr)) (values:List Expr) (trs:List (TE × TE)):Prop:=
  ∀ (pins:List (Addr × Obj)) (s:Shared) (σ:St) (H:Hp) (Q:List (V × V)->Hp->Prop),Inv X pins σ H s->Em trs σ H Q->
    wpAny (model X.prog X.w) X.A (evalPairs (pairTrees keys values X.env pos)) (λ vs s'=>∃ ps H',Inv X pins σ H' s'/\VV ps vs/\Q ps H') X.xe s
theorem Po {X:Cx} {pos:Pos}:PPs X pos [] [] []:=λ pins s σ H Q I h=>pairTrees_nil_walk ⟨[],H,I, .nil,h⟩
theorem MO {X:Cx} {pos:Pos} {k v:Expr} {ks:List (Option Expr)} {vs:List Expr} {tk tv:TE} {trs:List (TE × TE)} (hk:PE X k tk) (hv:PE X v tv) (hr:PPs X pos ks vs trs):
    PPs X pos (some k::ks) (v::vs) ((tk,tv)::trs):=λ pins s σ H Q I h=>
  pairTrees_cons_walk (thn (hk pins s σ H _ I h) λ u s1 ⟨x,H1,I1,rx,q1⟩=>thn (hv pins s1 σ H1 _ I1 q1) λ w2 s2 ⟨y,H2,I2,ry,q2⟩=>
    thn (hr pins s2 σ H2 _ I2 q2) λ ws s3 ⟨ps,H3,I3,rel,q3⟩=>⟨(x,y)::ps,H3,I3, .cons ⟨rx,ry⟩ rel,q3⟩)
structure M1 (X:Cx) (o:Expr) (m:Str) (apos:Pos) (e:Expr) (cpos:Pos):Prop where
  base:attributeBase o m X.env (eval o X.env)=eval o X.env
  few:((backTo cpos (starEach [e] X.env)).all (λ x=> !x.1)&&(backToKw cpos (keywordEach [] X.env)).all (λ x=>x.1.isSome)
    && decide (([e]:List Expr).length+([]:List Keyword).length+(if ([]:List Keyword).isEmpty then 0 else 1)<30))=true
  line:(apos.endLine == cpos.line)=true
  trees:backTo cpos (starEach [e] X.env)=[(false,eval e X.env)]
structure M2 (X:Cx) (o:Expr) (m:Str) (apos:Pos) (e f:Expr) (cpos:Pos):Prop where
  base:attributeBase o m X.env (eval o X.env)=eval o X.env
  few:((backTo cpos (starEach [e,f] X.env)).all (λ x=> !x.1)&&(backToKw cpos (keywordEach [] X.env)).all (λ x=>x.1.isSome)
    && decide (([e,f]:List Expr).length+([]:List Keyword).length+(if ([]:List Keyword).isEmpty then 0 else 1)<30))=true
  line:(apos.endLine == cpos.line)=true
  trees:backTo cpos (starEach [e,f] X.env)=[(false,eval e X.env),(false,eval f X.env)]
section
variable {X:Cx} {pins:List (Addr × Obj)} {σ:St} {H:Hp} {s:Shared} {a:Addr} {y d:V} {u r:Value} {o:Option V} {A:Around} {E:Value->Shared->Prop}
end
section
variable {X:Cx} {o e f:Expr} {apos cpos:Pos} {td ty tx:TE}
end
section
variable {X:Cx} {pins:List (Addr × Obj)} {σ:St} {H:Hp} {s:Shared} {a:Addr} {kvs:List (Key × V)} {A:Around} {E:Value->Shared->Prop}
end
section
variable {X:Cx} {pins:List (Addr × Obj)} {σ:St} {H:Hp} {s:Shared} {a:Addr} {y:V} {u:Value} {A:Around} {E:Value->Shared->Prop}
end
section
variable {P:Program} {w:World} {K:PySem.W.Frag} {mg:Str->Option Value} {base:Heap}
end
section
variable {X:Cx}
end
section
variable {κ:Type} [DecidableEq κ]
theorem nd_snoc:∀ {l:List κ} {k:κ},l.Nodup->¬ k∈l->(l++[k]).Nodup
  | [],k,_,_=>by simp
  | a::r,k,h,hk=>by
    obtain ⟨h1,h2⟩:=List.nodup_cons.mp h;show (a::(r++[k])).Nodup;refine List.nodup_cons.mpr ⟨λ m=> ?_,nd_snoc h2 λ m=>hk (List.mem_cons.mpr (Or.inr m))⟩;rcases List.mem_append.mp m with q | q
    · exact h1 q
    · exact hk (List.mem_cons.mpr (Or.inl (List.mem_singleton.mp q).symm))
end
def Aw (cells:List (Str × Addr)):List (Str × NameKind)->List (Str × Addr)->List (Str × Addr)
  | [],acc=>acc
  | (n,k)::r,acc=>Aw cells r (if k= .free then (match cells.lookup n with | some a=>(n,a)::acc | none=>acc) else acc)
theorem Ec {env:Env}:∀ (names:List (Str × NameKind)) (acc:List (Str × Addr)),(∀ y∈names,y.2= .free->∃ c,env.cells.lookup y.1=some c)->
    (forIn names acc λ (x:Str × NameKind) (r:List (Str × Addr))=>
      (if (x.2 == NameKind.free)=true then (do let a <-cellOf env x.1;pure (ForInStep.yield ((x.1,a)::r))) else pure (ForInStep.yield r):Sem (ForInStep (List (Str × Addr)))))=(pure (Aw env.cells names acc):Sem (List (Str × Addr)))
  | [],acc,_=>rfl
  | (n,k)::BH,acc,h=>by
    rw [List.forIn_cons];have ih:=λ acc'=>Ec (env:=env) BH acc' λ y hy=>h y (List.mem_cons_of_mem _ hy);by_cases hk:k= .free
    · subst hk;obtain ⟨c,hc⟩:=h (n, .free) List.mem_cons_self rfl;have hc:env.cells.lookup n=some c:=hc;have e:cellOf env n=pure c:=by unfold cellOf;rw [hc]
      simp only [beq_self_eq_true,if_true,e,pure_bind,Aw,hc];exact ih _
    · have hb:(k == NameKind.free)=false:=by simpa using hk
      simp only [hb,Bool.false_eq_true,if_false,pure_bind,Aw,if_neg hk];exact ih _
theorem Cr {env:Env} {scope:Scope} (h:∀ y∈scope.names,y.2= .free->∃ c,env.cells.lookup y.1=some c):closureFor scope env=pure (Aw env.cells scope.names []):=by
  have e:=Ec (env:=env) scope.names [] h;unfold closureFor;simp only [bind_pure_comp,bind_pure,map_pure] at*;exact e
theorem Ey {cells:List (Str × Addr)}:∀ (names:List (Str × NameKind)) (acc:List (Str × Addr)),(∀ x c,acc.lookup x=some c->cells.lookup x=some c)->∀ x c,(Aw cells names acc).lookup x=some c->cells.lookup x=some c
  | [],acc,h,x,c,e=>h x c e
  | (n,k)::r,acc,h,x,c,e=>by
    refine Ey r _ ?_ x c e;intro y d q;split at q
    · split at q
      · rename_i a ha
        rw [List.lookup_cons] at q;split at q
        · rename_i hy
          cases q;rw [eq_of_beq hy];exact ha
        · exact h y d q
      · exact h y d q
    · exact h y d q
theorem EH {cells:List (Str × Addr)}:∀ (names:List (Str × NameKind)) (acc:List (Str × Addr)) (x:Str),(((x,NameKind.free)∈names/\∃ c,cells.lookup x=some c)\/∃ c,acc.lookup x=some c)->∃ c,(Aw cells names acc).lookup x=some c
  | [],acc,x,h=>by
    rcases h with ⟨h,_⟩ | h
    · cases h
    · exact h
  | (n,k)::r,acc,x,h=>by
    refine EH r _ x ?_;have up:(∃ c,acc.lookup x=some c)->∃ c,(if k= .free then (match cells.lookup n with | some a=>(n,a)::acc | none=>acc) else acc).lookup x=some c:=by
      rintro ⟨c,hc⟩;split
      · split
        · rename_i a ha
          rw [List.lookup_cons];split
          · exact ⟨_,rfl⟩
          · exact ⟨c,hc⟩
        · exact ⟨c,hc⟩
      · exact ⟨c,hc⟩
    rcases h with ⟨h,c,hc⟩ | h
    · rcases List.mem_cons.mp h with e | e
      · cases e;right;refine ⟨c,?_⟩;rw [if_pos rfl,hc,List.lookup_cons,beq_self_eq_true]
      · exact .inl ⟨e,c,hc⟩
    · exact .inr (up h)
theorem CP (env:Env) (x:Str):∀ names:List (Str × NameKind),
    (names.map λ (n,k)=>if (k == NameKind.free&&env.scope.kind == .function&&env.kindOf n == some .cell) then (n,NameKind.cell) else (n,k)).lookup x=
      (names.lookup x).map λ k=>if (k == NameKind.free&&env.scope.kind == .function&&env.kindOf x == some .cell)=true then NameKind.cell else k
  | []=>rfl
  | (n,k)::r=>by
    have ih:=CP env x r;show List.lookup x ((if (k == NameKind.free&&env.scope.kind == .function&&env.kindOf n == some .cell)=true then (n,NameKind.cell) else (n,k))::_)=_;cases hx:x == n with
    | true=>
      have e:x=n:=eq_of_beq hx;subst e;by_cases hc:(k == NameKind.free&&env.scope.kind == .function&&env.kindOf x == some .cell)=true
      · rw [if_pos hc,List.lookup_cons,List.lookup_cons,beq_self_eq_true];simp only [Option.map_some,if_pos hc]
      · rw [if_neg hc,List.lookup_cons,List.lookup_cons,beq_self_eq_true];simp only [Option.map_some,if_neg hc]
    | false=>
      have e:(List.lookup x ((n,k)::r))=List.lookup x r:=by rw [List.lookup_cons,hx]
      rw [e, <-ih];split <;> rw [List.lookup_cons,hx]
structure BlkScope (X:Cx) (scope:Scope) (own:List Str) (fr:List (Str × Nat)):Prop where
  kind:scope.kind= .function
  nocell:∀ y∈scope.names,y.2≠ .cell
  loc:∀ y∈scope.names,y.2= .local->scope.names.lookup y.1=some .local
  free:∀ y∈scope.names,y.2= .free->(X.env.scope.names.lookup y.1=some .cell\/X.env.scope.names.lookup y.1=some .free)
  fr:∀ p∈fr,X.N[p.2]?=some p.1/\(p.1,NameKind.free)∈scope.names
  only:∀ x,(x,NameKind.free)∈scope.names->scope.names.lookup x=some .free
def AU (X:Cx) (scope:Scope) (own:List Str) (fr:List (Str × Nat)) (C:Addr) (ex:List Addr) (s:Shared) (H:Hp):Cx where
  prog:=X.prog
  w:=X.w
  K:=X.K
  mg:=X.mg
  base:=X.base
  A:=X.A
  N:=own++fr.map (·.1)
  s₀:=s
  H₀:=H
  env:=compEnvC scope (Aw X.env.cells scope.names []) C X.env
  outer:=X.stack
  stack:=X.stack
  ex:=ex
  fn:=λ _=>false
  calm:=X.calm
  pn:=[]
  xe:=λ _ _=>False
def B5 (own:List Str) (fr:List (Str × Nat)) (σ:St):St:=own.map (λ _=>none)++fr.map (λ p=>(σ[p.2]?).getD none)
section
variable {X:Cx} {pins:List (Addr × Obj)} {σ:St} {H:Hp} {s:Shared} {scope:Scope} {own:List Str} {fr:List (Str × Nat)} {fp:List Addr}
theorem BlkScope.cells (S:BlkScope X scope own fr) (ok:X.Ok):∀ y∈scope.names,y.2= .free->∃ c,X.env.cells.lookup y.1=some c:=λ y hy e=>ok.has y.1 (S.free y hy e)
theorem Inv.block {h':Heap} {t':Nat} {m:Str->Option Value} (I:Inv X pins σ H s) (S:BlkScope X scope own fr) (hf:∀ b∈fp,B7 X pins H b) (hlt:∀ b∈fp,b<s.heap.objs.size)
    (hns:h'.Ns s.heap.objs.size m) (k:∀ b o,s.heap.get? b=some o->h'.get? b=some o):
    Inv (AU X scope own fr s.heap.objs.size fp s H) [] (B5 own fr σ) H { s with heap:=h',toks:=t' }:=by
  have cs:∀ x c,(Aw X.env.cells scope.names []).lookup x=some c->X.env.cells.lookup x=some c:=Ey _ _ (λ _ _ e=>by simp at e);have ck:∀ c v,s.heap.IsCell c v->h'.IsCell c v:=λ c v ⟨o,ho,hd⟩=>⟨o,k _ _ ho,hd⟩;have kf:∀ x,(x,NameKind.free)∈scope.names->∃ c,X.env.cells.lookup x=some c/\(Aw X.env.cells scope.names []).lookup x=some c:=λ x hx=>by
    obtain ⟨c0,e0⟩:=S.cells I.ok (x, .free) hx rfl;obtain ⟨c,e⟩:=EH (cells:=X.env.cells) scope.names [] x (.inl ⟨hx,c0,e0⟩);exact ⟨c,cs _ _ e,e⟩
  have rel:∀ x,(compEnvC scope (Aw X.env.cells scope.names []) s.heap.objs.size X.env).kindOf x=(scope.names.lookup x).map λ k=>if (k == NameKind.free&&X.env.scope.kind == .function&&X.env.kindOf x == some .cell)=true then NameKind.cell else k:=λ x=>CP X.env x scope.names
  have nc:∀ x,scope.names.lookup x≠some .cell:=λ x e=>S.nocell _ (PySem.mem_of_lookup e) rfl;refine ⟨⟨I.ok.mod,S.kind,I.ok.glob,I.ok.blt,Nat.le_refl _,λ x y c e1 e2=>I.ok.inj x y c (cs _ _ e1) (cs _ _ e2),λ x hx=> ?_,λ x c e _=>(nomatch e),I.ok.hd,I.ok.frames, .inl rfl,
    λ b hb=>⟨Nat.ne_of_lt (hlt b hb),λ x c e=>(hf b hb).2.2.2.2.1 x c (cs _ _ e)⟩,I.bs,Nat.le_trans I.ok.bsz I.sz,λ b o e hb=> ?_,λ b hb z=>(List.mem_cons.mp (I.stkSub b z)).elim (hf b hb).2.1 (hf b hb).2.2.1,I.stack,I.stkFree⟩,
    rfl,I.bare,Un.kept k,⟨m,hns,λ i x v e1 e2 e3=> ?_⟩,λ x c e=> ?_,I.hok.fresh (Nat.le_refl _),λ x c e=>I.freeC x c (cs _ _ e),λ p hp=>absurd (show p∈([]:List (Addr × Obj)) from hp) (by simp),I.hok.kept k,?_⟩
  · have hx:(compEnvC scope (Aw X.env.cells scope.names []) s.heap.objs.size X.env).kindOf x=some .cell\/(compEnvC scope (Aw X.env.cells scope.names []) s.heap.objs.size X.env).kindOf x=some .free:=hx;rw [rel x] at hx;have q:scope.names.lookup x=some .free:=by
      cases e:scope.names.lookup x with
      | none=>rw [e] at hx;simp at hx
      | some kk=>
        rw [e] at hx;simp only [Option.map_some,Option.some.injEq] at hx;by_cases hk:kk= .free
        · rw [hk]
        · have hb:(kk == NameKind.free)=false:=by simpa using hk
          simp only [hb,Bool.false_and,Bool.false_eq_true,if_false] at hx;rcases hx with hx | hx
          · rw [hx] at e;exact absurd e (nc x)
          · exact absurd hx hk
    obtain ⟨c,_,e⟩:=kf x (PySem.mem_of_lookup q);exact ⟨c,e⟩
  · rcases (hf b hb).2.2.2.1 with z | z
    · exact I.ok.noex b o e z
    · exact absurd (Nat.lt_of_lt_of_le (Heap.lt_size (I.ok.bs b o e).1) z) (Nat.lt_irrefl _)
  · have e1:(own++fr.map (·.1))[i]?=some x:=e1;have e2:(B5 own fr σ)[i]?=some (some v):=e2;unfold B5 at e2;by_cases hi:i<own.length
    · rw [List.getElem?_append_left (by simpa using hi),List.getElem?_map] at e2;rw [List.getElem?_eq_getElem hi] at e2;simp at e2
    · rw [List.getElem?_append_right (by simpa using hi),List.getElem?_map,List.length_map] at e2;rw [List.getElem?_append_right (by omega),List.getElem?_map] at e1;cases ep:fr[i - own.length]? with
      | none=>rw [ep] at e1;simp at e1
      | some p=>
        rw [ep] at e1 e2;simp only [Option.map_some,Option.some.injEq] at e1 e2;subst e1;obtain ⟨h1,h2⟩:=S.fr p (List.mem_of_getElem? ep);have e4:σ[p.2]?=some (some v):=by
          cases q:σ[p.2]? with
          | none=>rw [q] at e2;simp at e2
          | some z=>rw [q] at e2;simp at e2;rw [e2]
        have kx:=S.free _ h2 rfl;obtain ⟨m0,hn0,hl0⟩:=I.loc;obtain ⟨u,r,l⟩:=hl0 p.2 p.1 v h1 e4 (kx.elim (λ z=> .inr (.inl z)) λ z=> .inr (.inr z));refine ⟨u,r,?_⟩;rcases l with ⟨z,_⟩ | ⟨_,c,hc,hcell⟩
        · have z:X.env.scope.names.lookup p.1=some .local:=z;rcases kx with y | y <;> (rw [y] at z;cases z)
        · obtain ⟨c',q1,q2⟩:=kf p.1 h2;rw [hc] at q1;cases q1;refine .inr ⟨?_,c,q2,ck _ _ hcell⟩;show (compEnvC scope (Aw X.env.cells scope.names []) s.heap.objs.size X.env).kindOf p.1=some .cell\/(compEnvC scope (Aw X.env.cells scope.names []) s.heap.objs.size X.env).kindOf p.1=some .free;have e3:(compEnvC scope (Aw X.env.cells scope.names []) s.heap.objs.size X.env).kindOf p.1=some .local\/(compEnvC scope (Aw X.env.cells scope.names []) s.heap.objs.size X.env).kindOf p.1=some .cell\/(compEnvC scope (Aw X.env.cells scope.names []) s.heap.objs.size X.env).kindOf p.1=some .free:=e3;rcases e3 with e3 | e3
          · exfalso;rw [rel] at e3;cases e:scope.names.lookup p.1 with
            | none=>rw [e] at e3;cases e3
            | some kk=>
              rw [e] at e3;simp only [Option.map_some,Option.some.injEq] at e3;by_cases hk:kk= .free
              · subst hk;split at e3 <;> cases e3
              · have hb:(kk == NameKind.free)=false:=by simpa using hk
                simp only [hb,Bool.false_and,Bool.false_eq_true,if_false] at e3;subst e3;have:=S.only p.1 h2;rw [this] at e;cases e
          · exact e3
  · obtain ⟨v,z⟩:=I.cell x c (cs _ _ e);exact ⟨v,ck _ _ z⟩
  · unfold B5;show _=(own++fr.map (·.1)).length;simp
end
theorem Fz {prog:Program} {w:World} {A:Around} {R:Result->Shared->Prop} {s:Shared} {elt target iter:Expr} {ifs:List Expr} {scope:Scope} {pos:Pos} {it acc:Value} {env:Env} (I:Nat->Shared->Prop)
    (turn:∀ n s,I n s->wpAny (model prog w) A (pyNext it) (λ r s₁=>match r with
      | none=>R (.ok .next) s₁
      | some v=>wpAny (model prog w) A (letOwnedTupleGo target it v) (λ _ s₁'=>wpAny (model prog w) A (assign target env v) (λ _ s₂=>
          wpAny (model prog w) A (forIn ifs true λ c r=>if r=true then do let ok <-isTrue c env (eval c env);pure (ForInStep.yield ok) else pure (ForInStep.yield r)) (λ ok s₃=>
            if ok=true then wpAny (model prog w) A (eval elt env) (λ x s₄=>
              wpAny (model prog w) A (call (.builtin "list.append") [acc,x]) (λ _ s₅=>∃ m,m<n/\I m s₅) (λ _ _=>False) s₄) (λ _ _=>False) s₃
            else ∃ m,m<n/\I m s₃) (λ _ _=>False) s₂) (λ _ _=>False) s₁') (λ _ _=>False) s₁) (λ _ _=>False) s)
    (n:Nat) (h:I n s):codeAny (model prog w) A (.compLoop (.ListComp elt [⟨target,iter,ifs,0⟩] scope pos) 0 it acc env) R s:=by
  refine codeAny_loop rfl I (λ n s hI=> ?_) n h;show wpAny _ A ((compTurn (.ListComp elt [⟨target,iter,ifs,0⟩] scope pos) 0 it acc env).onRaise (λ x=>do noteFrame x env;theTreesLotGoes x)) _ _ s;refine wpAny_noted ?_;rw [compTurn_list];refine wpAny_bind (wpAny_standAt (wpAny_bind (wpAny_mono (turn n s hI) (λ r s₁ h₁=> ?_) λ _ _ f=>f.elim)));cases r with
  | none=>exact wpAny_pure h₁
  | some v=>
    refine wpAny_bind (wpAny_mono h₁ (λ _ s₁' h₁'=>wpAny_bind (wpAny_mono h₁' (λ _ s₂ h₂=>wpAny_bind (wpAny_mono h₂ (λ ok s₃ h₃=> ?_) λ _ _ f=>f.elim)) λ _ _ f=>f.elim)) λ _ _ f=>f.elim);cases ok with
    | false=>exact wpAny_pure ⟨rfl,h₃⟩
    | true=>
      exact wpAny_bind (wpAny_bind (wpAny_mono h₃ (λ x s₄ h₄=>wpAny_bind (wpAny_mono h₄ (λ _ s₅ h₅=>wpAny_pure (wpAny_pure ⟨rfl,h₅⟩)) λ _ _ f=>f.elim)) λ _ _ f=>f.elim))
section
variable {X:Cx}
def PTs (X:Cx) (ifs:List Expr) (tc:TT):Prop:=
  ∀ (pins:List (Addr × Obj)) (s:Shared) (σ:St) (H:Hp) (Q:Bool->Hp->Prop),Inv X pins σ H s->tc σ H Q->
    wpAny (model X.prog X.w) X.A (forIn ifs true λ c r=>if r=true then do let ok <-isTrue c X.env (eval c X.env);pure (ForInStep.yield ok) else pure (ForInStep.yield r)) (TP X pins σ Q) X.xe s
def Mi:TT:=λ _ H Q=>Q true H
theorem AY:PTs X [] Mi:=λ _ _ _ H _ I h=>wpAny_tests_nil ⟨H,I,h⟩
theorem Di {c:Expr} {tc:TT} (h:PT X c tc):PTs X [c] tc:=λ pins s σ H Q I q=>wpAny_tests_one (h pins s σ H Q I q)
def Kp (σ0 σ:St):Prop:=σ.length=σ0.length/\∀ (i:Nat) (v:V),σ0[i]?=some (some v)->σ[i]?=some (some v)
theorem Kp.refl (σ:St):Kp σ σ:=⟨rfl,λ _ _ h=>h⟩
theorem Kp.set {σ0 σ:St} {i:Nat} {v:V} (k:Kp σ0 σ) (h:σ0[i]?=some none):Kp σ0 (σ.set i (some v)):=by
  refine ⟨by rw [List.length_set];exact k.1,λ j u e=> ?_⟩;by_cases hj:i=j
  · subst hj;rw [h] at e;cases e
  · rw [List.getElem?_set_ne hj];exact k.2 j u e
def Eb (J:It) (σ0:St) (g:TG) (tc:TT) (te:TE) (Q:VK) (H1:Hp) (D:Addr):Prop:=
  ∃ W:Nat->Nat->List V->Hp->Prop,(∃ m,W 0 m [] (upd H1 D (.lst [])))/\∀ i m ys H,W i m ys H->
    (J.stop i H/\Q (.ref D) H)\/(J.go i H/\∃ N:List V->Hp->Prop,(∀ ys' H',N ys' H'->∃ m',m'<m/\W (i+1) m' ys' H')/\∀ x H',J.yld i H x H'->g x σ0 H' λ σ2 H2=>Kp σ0 σ2/\tc σ2 H2 λ b H3=>
      if b=true then te σ2 H3 λ y H4=>H4 D=some (.lst ys)/\ys.length<sizeLine/\N (ys++[y]) (upd H4 D (.lst (ys++[y]))) else N ys H3)
def Ei (wi:TI) (own:List Str) (fr:List (Str × Nat)) (g:TG) (tc:TT) (te:TE):TE:=λ σ H Q=>wi σ H λ J H1=>∀ D,H1 D=none->Eb J (B5 own fr σ) g tc te Q H1 D
theorem Ju {elt tg iter:Expr} {ifs:List Expr} {scope:Scope} {pos:Pos} {own:List Str} {fr:List (Str × Nat)} {g:TG} {tc:TT} {te:TE} (hc:X.calm=true) (S:BlkScope X scope own fr)
    (hg:∀ C ex s H,PG (AU X scope own fr C ex s H) tg g) (ht:∀ C ex s H,PTs (AU X scope own fr C ex s H) ifs tc) (he:∀ C ex s H,PE (AU X scope own fr C ex s H) elt te)
    {pins:List (Addr × Obj)} {σ:St} {H:Hp} {s:Shared} {it:Addr} {fp:List Addr} {tn:Nat->Heap->Prop} {J:It} {E:Value->Shared->Prop}
    (I:Inv X pins σ H s) (T:Turn X.prog X.w X.K tg J fp it tn) (st:tn 0 s.heap) (hf:∀ b∈fp,B7 X pins H b) {Q:VK}
    (h:∀ D,H D=none->Eb J (B5 own fr σ) g tc te Q H D)
    {RR:Value->Addr->Result->Shared->Prop}
    (hR:∀ D C H' s',Inv X pins σ H' s'->(∃ m,s'.heap.Ns C m)->B7 X pins H' C->Q (.ref D) H'->RR (.ref D) C (.ok .next) s'):
    wpAny (model X.prog X.w) X.A (newList []) (λ acc s₃=>wpAny (model X.prog X.w) X.A (newFunctionEnv scope X.env.globals (Aw X.env.cells scope.names []) [] X.env.qual none .none (some X.env)) (λ cenv s₄=>
      codeAny (model X.prog X.w) X.A (.compStart (.ListComp elt [⟨tg,iter,ifs,0⟩] scope pos) 0 (.ref it) acc { cenv with scope:=relabel scope X.env }) (RR acc cenv.locals) s₄) E s₃) E s:=by
  have hDn:H s.heap.objs.size=none:=I.fresh;obtain ⟨W,⟨m0,w0⟩,turn⟩:=h s.heap.objs.size hDn;have I3:Inv X pins σ (upd H s.heap.objs.size (.lst [])) { s with heap:=s.heap.push { cls:= .type "list",data:= .seq ([]:List Value).toArray },toks:=s.toks }:=I.lnew .nil (Nat.zero_le _);refine wpAny_newObj_type ?_;generalize hs3:({ s with heap:=s.heap.push { cls:= .type "list",data:= .seq ([]:List Value).toArray } }:Shared)=s3 at I3 ⊢;have I3:Inv X pins σ (upd H s.heap.objs.size (.lst [])) s3:=I3;have old3:∀ b o,s.heap.get? b=some o->s3.heap.get? b=some o:=λ b o e=>by rw [<-hs3];exact Heap.get?_push_of_some _ e
  have hobj:∀ b∈fp,∃ o,s.heap.get? b=some o/\∀ v,o.data≠ .cell v:=T.obj 0 _ st;have hne:∀ b∈fp,b≠s.heap.objs.size:=λ b hb=>by obtain ⟨o,e,_⟩:=hobj b hb;exact Nat.ne_of_lt (Heap.lt_size e)
  have hf3:∀ b∈fp,B7 X pins (upd H s.heap.objs.size (.lst [])) b:=λ b hb=>⟨by rw [Am (hne b hb)];exact (hf b hb).1,(hf b hb).2⟩;have hlt3:∀ b∈fp,b<s3.heap.objs.size:=λ b hb=>by obtain ⟨o,e,_⟩:=hobj b hb;exact Heap.lt_size (old3 b o e)
  refine wpAny_newFunctionEnv S.nocell (by intro y hy;simp at hy) (λ h₁ hns hsb=> ?_) S.kind;have keep:∀ b o,s3.heap.get? b=some o->h₁.get? b=some o:=λ b o e=>hsb.extBut b o (Nat.ne_of_lt (Heap.lt_size e)) (Heap.get?_push_of_some _ e);have J0:=I3.block (t':=s3.toks+([]:List (Str × Value)).length) S hf3 hlt3 hns keep;have st3:tn 0 h₁:=T.keep 0 _ _ st λ b hb o e=>keep b o (old3 b o e);have loop:codeAny (model X.prog X.w) X.A (.compLoop (.ListComp elt [⟨tg,iter,ifs,0⟩] scope pos) 0 (.ref it) (.ref s.heap.objs.size) (compEnvC scope (Aw X.env.cells scope.names []) s3.heap.objs.size X.env))
      (RR (.ref s.heap.objs.size) s3.heap.objs.size) { s3 with heap:=h₁,toks:=s3.toks+([]:List (Str × Value)).length }:=by
    have stat:∀ {H':Hp},(∀ b∈fp,H' b=none)->∀ b∈fp,B7 (AU X scope own fr s3.heap.objs.size fp s3 (upd H s.heap.objs.size (.lst []))) [] H' b:=λ {H'} hn b hb=>
      ⟨hn b hb,Nat.ne_of_lt (hlt3 b hb),J0.ok.exfs b hb, .inl hb,(J0.ok.exf b hb).2,λ p hp=>absurd (show p∈([]:List (Addr × Obj)) from hp) (by simp)⟩
    refine Fz (λ n s'=>∃ i ys H',Inv (AU X scope own fr s3.heap.objs.size fp s3 (upd H s.heap.objs.size (.lst []))) [] (B5 own fr σ) H' s'/\tn i s'.heap/\(∀ b∈fp,H' b=none)/\W i n ys H') ?_ m0
      ⟨0,[],_,J0,st3,λ b hb=>(hf3 b hb).1,w0⟩
    rintro n s4 ⟨i,ys,H4,I4,st4,fr4,w4⟩;rcases turn i n ys H4 w4 with ⟨stop,q⟩ | ⟨go,N,hN,step⟩
    · refine thn (T.done (AU X scope own fr s3.heap.objs.size fp s3 (upd H s.heap.objs.size (.lst []))) rfl rfl rfl hc i [] s4 _ H4 (λ _ _=>False) I4 (stat fr4) st4 stop) λ r s5 ⟨hr,I5⟩=> ?_;subst hr;obtain ⟨m,hn,_⟩:=id I5.loc;exact hR _ _ H4 s5 (I3.call' I5.os I5.base I5.hok I5.bare λ b hb=>⟨(hf3 b hb).2.2.2.1,(hf3 b hb).2.1,(hf3 b hb).2.2.2.2.1,(hf3 b hb).2.2.2.2.2⟩) ⟨m,hn⟩ (I3.fpOk (Nat.le_refl _) I5.free) q
    · refine thn (T.item (AU X scope own fr s3.heap.objs.size fp s3 (upd H s.heap.objs.size (.lst []))) rfl rfl rfl hc i [] s4 _ H4 (λ _ _=>False) I4 (stat fr4) st4 go) λ r s5 ⟨u,hr,h5⟩=> ?_;subst hr;refine thn h5 λ _ s6 ⟨x,H6,I6,r6,y6,st6,fr6⟩=> ?_;have I6':=I6.pinned (stat fr6) (T.obj _ _ st6);refine thn (hg _ _ _ _ _ s6 _ H6 x u _ I6' r6 (step x H6 y6)) λ _ s7 ⟨σ7,H7,I7,kp,q7⟩=> ?_;refine thn (ht _ _ _ _ _ s7 σ7 H7 _ I7 q7) λ b s8 ⟨H8,I8,q8⟩=> ?_;have again:∀ {s9:Shared} {H9:Hp} {ys':List V},Inv (AU X scope own fr s3.heap.objs.size fp s3 (upd H s.heap.objs.size (.lst []))) ([]++Fo fp s6.heap) σ7 H9 s9->N ys' H9->
          ∃ m,m<n/\∃ i ys H',Inv (AU X scope own fr s3.heap.objs.size fp s3 (upd H s.heap.objs.size (.lst []))) [] (B5 own fr σ) H' s9/\tn i s9.heap/\(∀ b∈fp,H' b=none)/\W i m ys H':=λ {s9 H9 ys'} I9 n9=>by
        obtain ⟨m',hm,w9⟩:=hN ys' H9 n9;refine ⟨m',hm,i+1,ys',H9,I9.unpinned.weak kp.1.symm kp.2,T.keep _ _ _ st6 λ b hb o e=>(I9.pin (b,o) (List.mem_append_right _ (List.mem_append_right _ (BG hb e)))).1,λ b hb=> ?_,w9⟩;obtain ⟨o,e,d⟩:=T.obj _ _ st6 b hb;exact (I9.pin (b,o) (List.mem_append_right _ (List.mem_append_right _ (BG hb e)))).2.1
      cases b with
      | false=>
        rw [if_neg Bool.false_ne_true] at q8 ⊢;exact again I8 q8
      | true=>
        rw [if_pos rfl] at q8 ⊢;refine thn (he _ _ _ _ _ s8 σ7 H8 _ I8 q8) λ xv s9 ⟨y,H9,I9,r9,hD,hl,n9⟩=> ?_;refine thn (Bb _ s9 σ7 H9 (.ref s.heap.objs.size) [y] (.ref s.heap.objs.size) [xv] (λ _ H'=>H'=upd H9 s.heap.objs.size (.lst (ys++[y]))) I9 rfl (.cons r9 .nil) ⟨_,ys,y,rfl,rfl,hD,hl,rfl⟩) λ _ s10 ⟨_,H10,I10,_,q10⟩=> ?_;subst q10;exact again I10 n9
  exact codeAny_compStart_list loop (T.self _ 0 _ _ _ st3 loop)
theorem Iw {elt tg iter:Expr} {ifs:List Expr} {scope:Scope} {pos:Pos} {own:List Str} {fr:List (Str × Nat)} {wi:TI} {g:TG} {tc:TT} {te:TE} (hc:X.calm=true) (S:BlkScope X scope own fr) (hi:PI X tg iter wi)
    (hg:∀ C ex s H,PG (AU X scope own fr C ex s H) tg g) (ht:∀ C ex s H,PTs (AU X scope own fr C ex s H) ifs tc) (he:∀ C ex s H,PE (AU X scope own fr C ex s H) elt te)
    (hs:∀ x,foldedSetIterable iter X.env x=pure x:=by intro _;rfl):PE X (.ListComp elt [⟨tg,iter,ifs,0⟩] scope pos) (Ei wi own fr g tc te):=by
  intro pins s σ H Q I h;rw [eval_ListComp];refine wpAny_comprehension_free (use:=none) rfl hs (Cr (S.cells I.ok)) S.kind S.loc (thn (hi pins s σ H _ I h) λ xv s₁ h₁=>thn h₁ λ itv s₂ h₂=> ?_);obtain ⟨it,fp,tn,J,H2,rfl,I2,T,st2,f2,h2⟩:=h₂;refine Ju (RR:=λ acc C=>compPost (model X.prog X.w) X.A X.xe none (EP X pins σ Q) acc C) hc S hg ht he I2 T st2 f2 h2 ?_;rintro D C H' s' I' ⟨m,hn⟩ f q;exact ⟨m,hn,λ h' sb=>⟨.ref D,H',I'.turned (t':=s'.toks) (it:=C) (λ b o hb e=>(sb.2 b hb).trans e) f.1 f.2.1 f.2.2.2.1 f.2.2.2.2.1 f.2.2.2.2.2,rfl,q⟩⟩
theorem Lb {i:Nat} {x:Str} {px spos:Pos} {elt tg iter:Expr} {ifs:List Expr} {scope:Scope} {pos:Pos} {own:List Str} {fr:List (Str × Nat)} {wi:TI} {g:TG} {tc:TT} {te:TE} (hN:X.N.Nodup) (hix:X.N[i]?=some x) (hx:Loc X.env.scope x)
    (hc:X.calm=true) (S:BlkScope X scope own fr) (hi:PI X tg iter wi)
    (hg:∀ C ex s H,PG (AU X scope own fr C ex s H) tg g) (ht:∀ C ex s H,PTs (AU X scope own fr C ex s H) ifs tc) (he:∀ C ex s H,PE (AU X scope own fr C ex s H) elt te)
    (hsw:swapsWith (.ListComp elt [⟨tg,iter,ifs,0⟩] scope pos) (some (.Name x px)) spos.line X.env=pure true:=by rfl)
    (hf:X.fn x=true\/X.env.scope.names.lookup x=some .local:=by first | exact .inl rfl | exact .inr rfl | assumption)
    (hs:∀ x,foldedSetIterable iter X.env x=pure x:=by intro _;rfl):PS X (.Assign [.Name x px] (.ListComp elt [⟨tg,iter,ifs,0⟩] scope pos) spos) (Ln (Ei wi own fr g tc te) (AG i)):=by
  intro pins s σ H D I h;rw [exec_Assign_Name_used _ _ _ _ hsw];refine wpAny_bind (wpAny_standAt (wpAny_bind ?_));show wpAny _ X.A (do let _ <-comprehension (.ListComp elt [⟨tg,iter,ifs,0⟩] scope pos) scope X.env _ (newList []) false (eval iter X.env) (some (assign (.Name x px) X.env))) _ _ s;refine wpAny_bind (wpAny_mono (wpAny_comprehension_free (use:=some (assign (.Name x px) X.env)) (Q:=λ _ s'=>SP X pins D .next s') rfl hs (Cr (S.cells I.ok)) S.kind S.loc
    (thn (hi pins s σ H _ I h) λ xv s₁ h₁=>thn h₁ λ itv s₂ h₂=> ?_)) (λ _ s' hq=>wpAny_pure (wpAny_pure hq)) λ _ _ e=>e)
  obtain ⟨it,fp,tn,J,H2,rfl,I2,T,st2,f2,h2⟩:=h₂;refine Ju (Q:=λ x H1=>AG i x σ H1 D.nx) (RR:=λ acc C=>compPost (model X.prog X.w) X.A X.xe (some (assign (.Name x px) X.env)) (λ _ s'=>SP X pins D .next s') acc C) hc S hg ht he I2 T st2 f2 h2 ?_;rintro Dl C H' s' I' ⟨m,hn⟩ f q;obtain ⟨o,es,ep,ho,hd,r⟩:=hn;have pinC:∀ v,o.data≠ .cell v:=λ v z=>by rw [hd] at z;cases z
  have I'':Inv X (pins++[(C,o)]) σ H' s':=I'.pins_of λ p hp=>(List.mem_append.mp hp).elim (λ z=>I'.pin p (List.mem_append_right _ z)) λ z=>by
    have e:p=(C,o):=by simpa using z
    subst e;exact ⟨ho,f.1,f.2.1,f.2.2.1,pinC⟩
  show wpAny _ X.A (assign (.Name x px) X.env (.ref Dl)) _ _ s';refine wpAny_assign_Name (CI I'' hN hix hx (v:= .ref Dl) rfl (λ s2 I2=> ?_) hf);have pc:=(I2.pin (C,o) (List.mem_append_right _ (List.mem_append_right _ (by simp)))).1;refine ⟨m,⟨o,es,ep,pc,hd,r⟩,λ h' sb=>⟨_,H',?_,q⟩⟩;exact (I2.unpinned (pl:=[(C,o)])).turned (t':=s2.toks) (it:=C) (λ b o hb e=>(sb.2 b hb).trans e) f.1 f.2.1 f.2.2.2.1 f.2.2.2.2.1 f.2.2.2.2.2
end
section
variable {X:Cx} {tg:Expr}
end
section
variable {X:Cx}
theorem Fx:∀ {ns:List Int} {l:List (Int × Tok)},Vals (ns.map V.int) (l.map λ p=>Value.int p.1 p.2)->l.map (·.1)=ns
  | [],[],_=>rfl
  | n::ns,p::l,r=>by
    cases r with
    | cons r1 r2=>
      obtain ⟨t,e⟩:=r1;injection e with e1 e2;rw [List.map_cons,Fx r2,e1]
  | [],_::_,r=>by cases r
  | _::_,[],r=>by cases r
theorem Mp (hc:X.calm=true):A7 X (.builtin "sum") (λ xs H Q=>∃ (p:Addr) (ns:List Int),xs=[.ref p]/\SqL X.K H p (ns.map V.int)/\Q (.int ns.sum) H):=by
  intro pins s σ H xs us Q I r h;obtain ⟨p,ns,rfl,hq,q⟩:=h;obtain ⟨u,rfl,rx⟩:=DF r;cases rx;obtain ⟨its,rv,pl,_⟩:=I.list hq;obtain ⟨ps,e⟩:=(IntsAre.allInts (JJ rv)).items;have e':its=ps.toList.map λ p=>Value.int p.1 p.2:=by
    have:=congrArg Array.toList e;simpa [intItems] using this
  have hl:=pl.isList;rw [e] at hl;refine sum_intListG (I.ok.hd hc) hl λ h' tk t' hk=> ?_;have es:preSum (numAt ps) ps.size=ns.sum:=by
    rw [preSum_eq,List.take_of_length_le (by simp),Fx (ns:=ns) (l:=ps.toList) (by rw [<-e'];exact rv)]
  rw [es];exact ⟨.int ns.sum,H,I.kept hk,⟨t',rfl⟩,q⟩
theorem LW (bs:List Bool):(List.range bs.length).all (λ i=>bs.getD i true)=bs.all id:=by
  rw [Bool.eq_iff_iff,List.all_eq_true,List.all_eq_true];constructor
  · intro h b hb;obtain ⟨i,hi,rfl⟩:=List.getElem_of_mem hb;have:=h i (by simpa using hi);rw [List.getD_eq_getElem?_getD,List.getElem?_eq_getElem hi] at this;exact this
  · intro h i hi;have hi:i<bs.length:=by simpa using hi
    rw [List.getD_eq_getElem?_getD,List.getElem?_eq_getElem hi];exact h _ (List.getElem_mem hi)
theorem MF (hc:X.calm=true):A7 X (.builtin "all") (λ xs H Q=>∃ (p:Addr) (bs:List Bool),xs=[.ref p]/\SqL X.K H p (bs.map V.bl)/\Q (.bl (bs.all id)) H):=by
  intro pins s σ H xs us Q I r h;obtain ⟨p,bs,rfl,hq,q⟩:=h;obtain ⟨u,rfl,rx⟩:=DF r;cases rx;obtain ⟨its,rv,pl,_⟩:=I.list hq;have hl:=rv.length;rw [List.length_map] at hl;obtain ⟨o,ho,_⟩:=id pl.isList;have hne:p≠s.heap.objs.size:=Nat.ne_of_lt (Heap.lt_size ho);refine call_all_walk (wpAny_pyIter_list pl.isList ?_);refine ⟨s.heap.objs.size,_,_,_,_,_,λ i=>bs.getD i true,rfl,Walks.list (A:=X.A.in1) (I.ok.hd hc) _ p hne its.toArray,⟨⟨_,Heap.get?_push_size _ rfl,rfl,rfl⟩,pl.isList.at λ o e=>Heap.get?_push_of_some _ e⟩,?_,λ h' tk hk=> ?_⟩
  · intro i v s' Q' E' hv hQ';have hv:its[i]?=some v:=by simpa using hv
    have hi:i<bs.length:=by rw [hl];exact (List.getElem?_eq_some_iff.mp hv).1
    obtain ⟨u,hu,ru⟩:=rv.get (i:=i) (x:= .bl (bs.getD i true)) (by rw [List.getElem?_map,List.getD_eq_getElem?_getD,List.getElem?_eq_getElem hi];rfl);rw [hu] at hv;cases hv;cases ru;exact wpAny_truthy_bool hQ'
  · have e:its.toArray.size=bs.length:=by rw [List.size_toArray];exact hl.symm
    rw [e,LW];exact ⟨.bl _,H,I.kept λ b o e=>hk b o (λ z=>by simp at z;exact absurd (Heap.lt_size e) (by rw [z];exact Nat.lt_irrefl _)) (Heap.get?_push_of_some _ e),rfl,q⟩
theorem JE:A7 X (.builtin "isinstance") (λ xs H Q=>∃ x n t b,xs=[x, .ty n]/\TyOf X.K H x t/\PySem.W.kitOne X.K t (.type n)=some b/\Q (.bl b) H):=by
  intro pins s σ H xs us Q I r h;obtain ⟨x,n,t,b,rfl,ty,e,q⟩:=h;obtain ⟨u,c,rfl,rx,rc⟩:=KW r;cases rc;exact LH I rx ty e λ tk=>⟨.bl b,H,I.tok tk,rfl,q⟩
def MW (K:PySem.W.Frag):R2:=λ x y H Q=>∃ l b xs zs,x= .ref l/\y= .ref b/\SqL K H l xs/\SqL K H b zs/\xs.length+zs.length<=sizeLine/\∀ p,H p=none->Q (.ref p) (upd H p (.lst (xs++zs)))
theorem O8:OpR X (binaryOp .Add) (MW X.K):=by
  intro pins s σ H x y v u Q I rx ry h;obtain ⟨l,b,xs,zs,rfl,rfl,hH,hB,hz,q⟩:=h;cases rx;cases ry;obtain ⟨its,r,pl,_⟩:=I.list hH;obtain ⟨its2,r2,pl2,_⟩:=I.list hB;have h1:=r.length;have h2:=r2.length;obtain ⟨⟨cls,dd,data,sl⟩,n,ho,hc,hdd,hd⟩:=pl;obtain ⟨⟨cls2,dd2,data2,sl2⟩,n2,ho2,hc2,hdd2,hd2⟩:=pl2;simp only at hc hdd hd hc2 hdd2 hd2;subst hc hdd hd hc2 hdd2 hd2;refine concat_meets ⟨_,ho,rfl⟩ ⟨_,ho2,rfl⟩ noFill_list_add seq_list_add PySem.F.slot_list_add PySem.F.entry_list_add (PySem.F.args_list_add_2 _ _) (list_addW l b its.toArray its2.toArray n n2 none none sl sl2 (by rw [List.size_toArray,List.size_toArray];omega)) ⟨ho,ho2,?_⟩;have e:its.toArray++its2.toArray=(its++its2).toArray:=by simp
  rw [e];exact ⟨.ref _,_,I.lnew (t':=s.toks) (r.append r2) (by rw [List.length_append];omega),rfl,q _ I.fresh⟩
def Fe (xs ys:List V):Bool:=xs.length == ys.length&&(List.range xs.length).all λ i=>eqV (xs.getD i .non) (ys.getD i .non)
theorem HC {xs:List V} (h:xs.all Ef=true) {i:Nat} (hi:i<xs.length):Ef (xs.getD i .non)=true:=by
  rw [List.getD_eq_getElem?_getD,List.getElem?_eq_getElem hi];exact (List.all_eq_true.mp h) _ (List.getElem_mem hi)
def LP (K:PySem.W.Frag) (neg:Bool):R2:=λ x y H Q=>∃ p q xs ys,x= .ref p/\y= .ref q/\SqL K H p xs/\SqL K H q ys/\xs.all Ef=true/\ys.all Ef=true/\Q (.bl (if neg then !Fe xs ys else Fe xs ys)) H
theorem Gw {A:Around} {s:Shared} {xs ys:List V} {its its2:List Value} (r:Vals xs its) (r2:Vals ys its2) (fx:xs.all Ef=true) (fy:ys.all Ef=true):
    ∀ j (h1:j<its.toArray.size) (h2:j<its2.toArray.size),SeqAt.EqAt A s its.toArray[j] its2.toArray[j] (eqV (xs.getD j .non) (ys.getD j .non)):=λ j h1 h2=>by
  have l1:=r.length;have l2:=r2.length;have h1':j<its.length:=by simpa using h1
  have h2':j<its2.length:=by simpa using h2
  have g1:xs[j]?=some (xs.getD j .non):=by rw [List.getD_eq_getElem?_getD,List.getElem?_eq_getElem (by omega)];rfl
  have g2:ys[j]?=some (ys.getD j .non):=by rw [List.getD_eq_getElem?_getD,List.getElem?_eq_getElem (by omega)];rfl
  obtain ⟨u,e1,ru⟩:=r.get g1;obtain ⟨u2,e2,ru2⟩:=r2.get g2;have q1:its.toArray[j]=u:=by rw [List.getElem?_eq_getElem h1'] at e1;simpa using Option.some.inj e1
  have q2:its2.toArray[j]=u2:=by rw [List.getElem?_eq_getElem h2'] at e2;simpa using Option.some.inj e2
  rw [q1,q2];exact Qk ru ru2 (HC fx (by omega)) (HC fy (by omega))
theorem QH (hu:X.A.units<cLine):OpR X (compareOp .Eq) (LP X.K false):=by
  intro pins s σ H x y v u Q I rx ry h;obtain ⟨p,q,xs,ys,rfl,rfl,h1,h2,fx,fy,hq⟩:=h;cases rx;cases ry;obtain ⟨its,r,pl,_⟩:=I.list h1;obtain ⟨its2,r2,pl2,_⟩:=I.list h2;have l1:=r.length;have l2:=r2.length;by_cases hl:xs.length=ys.length
  · refine SeqAt.eq_listAt pl.isList pl2.isList (by simp;omega) hu (Gw r r2 fx fy) ⟨.bl _,H,I,rfl,?_⟩;have e:Fe xs ys=(List.range its.toArray.size).all λ i=>eqV (xs.getD i .non) (ys.getD i .non):=by
      unfold Fe;rw [hl,beq_self_eq_true,Bool.true_and,List.size_toArray, <-l1,hl]
    rw [<-e];exact hq
  · refine SeqAt.eq_list_lengthsAt pl.isList pl2.isList (by simp;omega) hu ⟨.bl _,H,I,rfl,?_⟩;have e:Fe xs ys=false:=by unfold Fe;rw [beq_eq_false_iff_ne.mpr hl,Bool.false_and]
    rw [<-e];exact hq
theorem RP (hu:X.A.units<cLine):OpR X (compareOp .NotEq) (LP X.K true):=by
  intro pins s σ H x y v u Q I rx ry h;obtain ⟨p,q,xs,ys,rfl,rfl,h1,h2,fx,fy,hq⟩:=h;cases rx;cases ry;obtain ⟨its,r,pl,_⟩:=I.list h1;obtain ⟨its2,r2,pl2,_⟩:=I.list h2;have l1:=r.length;have l2:=r2.length;by_cases hl:xs.length=ys.length
  · refine SeqAt.RcNeAt.lists pl.isList pl2.isList (by simp;omega) hu (Gw r r2 fx fy) _ _ _ _ ⟨.bl _,H,I,rfl,?_⟩;have e:Fe xs ys=(List.range its.toArray.size).all λ i=>eqV (xs.getD i .non) (ys.getD i .non):=by
      unfold Fe;rw [hl,beq_self_eq_true,Bool.true_and,List.size_toArray, <-l1,hl]
    rw [<-e];exact hq
  · refine SeqAt.RcNeAt.lists_lengths pl.isList pl2.isList (by simp;omega) hu _ _ _ _ ⟨.bl _,H,I,rfl,?_⟩;have e:Fe xs ys=false:=by unfold Fe;rw [beq_eq_false_iff_ne.mpr hl,Bool.false_and]
    rw [e] at hq;exact hq
theorem Oo {α:Type} [DecidableEq α] (f:α->V) (hf:∀ a b,eqV (f a) (f b)=decide (a=b)) (as bs:List α):Fe (as.map f) (bs.map f)=decide (as=bs):=by
  unfold Fe;rw [Bool.eq_iff_iff,Bool.and_eq_true,List.all_eq_true,decide_eq_true_iff,beq_iff_eq,List.length_map,List.length_map];constructor
  · rintro ⟨h1,h2⟩;refine List.ext_getElem h1 λ i g1 g2=> ?_;have:=h2 i (by simpa using g1);rw [List.getD_eq_getElem?_getD,List.getD_eq_getElem?_getD,List.getElem?_map,List.getElem?_map,List.getElem?_eq_getElem g1,List.getElem?_eq_getElem g2] at this;have:=(hf _ _).symm.trans this;exact of_decide_eq_true this
  · rintro rfl;refine ⟨rfl,λ i hi=> ?_⟩;have hi:i<as.length:=by simpa using hi
    rw [List.getD_eq_getElem?_getD,List.getElem?_map,List.getElem?_eq_getElem hi];show eqV (f as[i]) (f as[i])=true;rw [hf];exact decide_eq_true rfl
theorem IP (as bs:List Int):Fe (as.map V.int) (bs.map V.int)=decide (as=bs):=Oo V.int (λ a b=>by show (a == b)=_;rw [Bool.eq_iff_iff,beq_iff_eq,decide_eq_true_iff]) as bs
theorem EK (as:List Int):(as.map V.int).all Ef=true:=by simp [Ef]
end
def Ar (P:Program) (w:World) (K:PySem.W.Frag) (mg:Str->Option Value) (base:Heap) (x:Str) (k:Nat) (ps:List Str) (sp:Sp):Prop:=
  ∃ f fd,mg x=some (.ref f)/\PySem.W.keepIn K (.ref f)=true/\FnOk P w K mg base CX0 k f fd ps sp/\Binds K fd ps []
section
variable {X:Cx} {x:Str} {k:Nat} {ps:List Str} {sp:Sp} {e:Expr} {es:List Expr} {t:TA} {p pos:Pos}
theorem Ah (h:Ar X.prog X.w X.K X.mg X.base x k ps sp) (hr:Room k X.A) (ha:PA X (e::es) t) (hg:Gl X x:=by rfl) (hdb:(x == ("__debug__":Str))=false:=by decide)
    (he:starEach (e::es) X.env=(false,eval e X.env)::starEach es X.env:=by rfl) (hpl:(backTo pos (starEach es X.env)).any (·.1)=false:=by rfl):
    PE X (.Call (.Name x p) (e::es) [] pos) (Ks sp [] E0 t):=by
  obtain ⟨f,fd,hm,hk,F,hb⟩:=h;exact OT F hr hg hm hk hb .nil KR ha hdb he hpl
end
structure DefAt (K:PySem.W.Frag) (mg:Str->Option Value) (x:Str) (st:Stmt) (ps:List Str) (f:Addr) (fd:FuncData):Prop where
  fn:Fun K x x st f fd
  at':mg x=some (.ref f)
  bi:Binds K fd ps []
theorem DefAt.call {P:Program} {w:World} {K:PySem.W.Frag} {mg:Str->Option Value} {base:Heap} {x:Str} {st:Stmt} {ps:List Str} {f:Addr} {fd:FuncData} {k:Nat} {sp:Sp} (d:DefAt K mg x st ps f fd)
    (F:FnOk P w K mg base CX0 k f fd ps sp):Ar P w K mg base x k ps sp:=⟨f,fd,d.at',d.fn.kp,F,d.bi⟩
def M3:V->Bool | .int _=>true | _=>false
def Qa:V->Bool | .bl _=>true | _=>false
def Ty (K:PySem.W.Frag) (H:Hp) (x:V):Prop:=∃ n,TyOf K H x (.type n)
def C4 (n T:String):Option Bool:=if (Value.type n == Value.type T)=true then some true else if PySem.W.kitMeta T=true then (fastBuiltinMro n).map (·.contains (.type T)) else none
section
variable {K:PySem.W.Frag} {H:Hp} {x:V} {n:String}
theorem kb {n T:String} {b:Bool} (h:C4 n T=some b):PySem.W.kitOne K (.type n) (.type T)=some b:=h
theorem Pm (h:TyOf K H x (.type n)):PySem.W.kitOne K (.type n) (.type "int")=some (M3 x||Qa x):=by
  cases h <;> first
    | exact (show PySem.W.kitOne K _ _=some true from kb (by decide +kernel))
    | exact (show PySem.W.kitOne K _ _=some false from kb (by decide +kernel))
theorem Mz (h:TyOf K H x (.type n)):PySem.W.kitOne K (.type n) (.type "bool")=some (Qa x):=by
  cases h <;> first
    | exact (show PySem.W.kitOne K _ _=some true from kb (by decide +kernel))
    | exact (show PySem.W.kitOne K _ _=some false from kb (by decide +kernel))
end
section
variable {X:Cx}
def Own (mg:Str->Option Value) (names:List Str):Prop:=∀ x∈names,mg x=none
theorem HF:bootBuiltins "all"=some (.builtin "all"):=by decide +kernel
theorem B4 {x:Str} {T:String} {pos:Pos} (hg:Gl X x) (hm:X.mg x=none) (hv:bootBuiltins x=some (.type T)) (hn:x≠"__name__":=by decide) (hd:(x == ("__debug__":Str))=false:=by decide):PE X (.Name x pos) (tC (.ty T)):=
  O5 hg hm hv (show RelV (.ty T) (.type T) from rfl) hn hd
end
def CM (N:List Str) (scope:Scope):List (Str × Nat):=scope.names.filterMap λ y=>if y.2= .free then (N.findIdx? λ n=>decide (n=y.1)).map λ i=>(y.1,i) else none
def DE (sc:Scope) (N:List Str) (scope:Scope) (own:List Str) (fr:List (Str × Nat)):Bool:=
  decide (scope.kind= .function)&&
  (scope.names.all λ y=>decide (y.2≠ .cell)&&(decide (y.2≠ .local)||decide (scope.names.lookup y.1=some .local))&&
    (decide (y.2≠ .free)||((decide (sc.names.lookup y.1=some .cell)||decide (sc.names.lookup y.1=some .free))&&decide (scope.names.lookup y.1=some .free))))&&
  (fr.all λ p=>decide (N[p.2]?=some p.1)&&decide ((p.1,NameKind.free)∈scope.names))&&
  (own.all λ x=>decide (scope.names.lookup x=some .local))&&decide ((own++fr.map (·.1)).Nodup)
section
variable {X:Cx} {scope:Scope} {own:List Str} {fr:List (Str × Nat)}
theorem BlkScope.of (h:DE X.env.scope X.N scope own fr=true):BlkScope X scope own fr:=by
  unfold DE at h;simp only [Bool.and_eq_true,List.all_eq_true,decide_eq_true_iff,Bool.or_eq_true] at h;obtain ⟨⟨⟨⟨h1,h2⟩,h3⟩,h4⟩,h5⟩:=h;exact ⟨h1,λ y hy=>(h2 y hy).1.1,λ y hy e=>(h2 y hy).1.2.resolve_left (λ z=>z e),λ y hy e=>((h2 y hy).2.resolve_left (λ z=>z e)).1,λ p hp=>h3 p hp,λ x hx=>((h2 _ hx).2.resolve_left (λ z=>z rfl)).2⟩
theorem LC (h:DE X.env.scope X.N scope own fr=true):(∀ x∈own,scope.names.lookup x=some .local)/\(own++fr.map (·.1)).Nodup:=by
  unfold DE at h;simp only [Bool.and_eq_true,List.all_eq_true,decide_eq_true_iff,Bool.or_eq_true] at h;exact ⟨h.1.2,h.2⟩
theorem GJ {i:Nat} {x:Str} {px:Pos} (h:DE X.env.scope X.N scope own fr=true) (hi:own[i]?=some x) (C:Addr) (ex:List Addr) (s:Shared) (H:Hp):PG (AU X scope own fr C ex s H) (.Name x px) (AG i):=by
  obtain ⟨h1,h2⟩:=LC h;have hl:(relabel scope X.env).names.lookup x=some .local:=lookup_relabel_local (h1 x (List.mem_of_getElem? hi));have hlt:=(List.getElem?_eq_some_iff.mp hi).1;refine As h2 ?_ (.inl hl) (.inr hl);show (own++fr.map (·.1))[i]?=some x;rw [List.getElem?_append_left hlt];exact hi
theorem A9 {elt iter:Expr} {x:Str} {px:Pos} {ifs:List Expr} {pos:Pos} {wi:TI} {tc:TT} {te:TE} (hi:PI X (.Name x px) iter wi)
    (ht:∀ C ex s H,PTs (AU X scope [x] (CM X.N scope) C ex s H) ifs tc) (he:∀ C ex s H,PE (AU X scope [x] (CM X.N scope) C ex s H) elt te)
    (hb:DE X.env.scope X.N scope [x] (CM X.N scope)=true:=by with_unfolding_all rfl) (hc:X.calm=true:=by rfl)
    (hs:∀ x,foldedSetIterable iter X.env x=pure x:=by intro _;rfl):PE X (.ListComp elt [⟨.Name x px,iter,ifs,0⟩] scope pos) (Ei wi [x] (CM X.N scope) (AG 0) tc te):=
  Iw hc (.of hb) hi (λ C ex s H=>GJ hb rfl C ex s H) ht he hs
theorem GL {i:Nat} {y x:Str} {py px spos:Pos} {elt iter:Expr} {ifs:List Expr} {pos:Pos} {wi:TI} {tc:TT} {te:TE} (hN:X.N.Nodup) (hix:X.N[i]?=some y) (hx:Loc X.env.scope y) (hi:PI X (.Name x px) iter wi)
    (ht:∀ C ex s H,PTs (AU X scope [x] (CM X.N scope) C ex s H) ifs tc) (he:∀ C ex s H,PE (AU X scope [x] (CM X.N scope) C ex s H) elt te)
    (hb:DE X.env.scope X.N scope [x] (CM X.N scope)=true:=by with_unfolding_all rfl) (hc:X.calm=true:=by rfl)
    (hsw:swapsWith (.ListComp elt [⟨.Name x px,iter,ifs,0⟩] scope pos) (some (.Name y py)) spos.line X.env=pure true:=by rfl)
    (hf:X.fn y=true\/X.env.scope.names.lookup y=some .local:=by first | exact .inl rfl | exact .inr rfl | assumption)
    (hs:∀ x,foldedSetIterable iter X.env x=pure x:=by intro _;rfl):
    PS X (.Assign [.Name y py] (.ListComp elt [⟨.Name x px,iter,ifs,0⟩] scope pos) spos) (Ln (Ei wi [x] (CM X.N scope) (AG 0) tc te) (AG i)):=
  Lb hN hix hx hc (.of hb) hi (λ C ex s H=>GJ hb rfl C ex s H) ht he hsw hf hs
theorem Rt {σ:L2.St} {H:Hp} {A B:Hp->Prop} (h:A H):Mi σ H (λ b H3=>if b=true then A H3 else B H3):=by
  show (if true=true then A H else B H);exact Kb h
end
def O6 (K:PySem.W.Frag):List V->Hp->VK->Prop:=λ xs H Q=>∃ x n,xs=[x]/\Vi K x H n/\Q (.int n) H
def VP (K:PySem.W.Frag):List V->Hp->VK->Prop:=λ xs H Q=>∃ (p:Addr) (ns:List Int),xs=[.ref p]/\SqL K H p (ns.map V.int)/\Q (.int ns.sum) H
def TB (K:PySem.W.Frag):List V->Hp->VK->Prop:=λ xs H Q=>∃ (p:Addr) (bs:List Bool),xs=[.ref p]/\SqL K H p (bs.map V.bl)/\Q (.bl (bs.all id)) H
def Mt (K:PySem.W.Frag):List V->Hp->VK->Prop:=λ xs H Q=>∃ x n t b,xs=[x, .ty n]/\TyOf K H x t/\PySem.W.kitOne K t (.type n)=some b/\Q (.bl b) H
def KH (K:PySem.W.Frag):List V->Hp->VK->Prop:=λ xs H Q=>∃ p ys,xs=[.ref p]/\(SqL K H p ys\/SqT K H p ys)/\∀ l,H l=none->Q (.ref l) (upd H l (.lst ys))
def IH (K:PySem.W.Frag):List V->Hp->VK->Prop:=λ xs H Q=>∃ p ys,xs=[.ref p]/\((SqL K H p ys/\∀ l,H l=none->Q (.ref l) (upd H l (.tup ys)))\/(SqT K H p ys/\Q (.ref p) H))
section
variable {X:Cx} {K:PySem.W.Frag}
theorem A6 (hK:X.K=K:=by rfl):A7 X (.builtin "len") (O6 K):=by subst hK;exact M7
theorem P7 (hK:X.K=K:=by rfl) (hc:X.calm=true:=by rfl):A7 X (.builtin "sum") (VP K):=by subst hK;exact Mp hc
theorem P4 (hK:X.K=K:=by rfl) (hc:X.calm=true:=by rfl):A7 X (.builtin "all") (TB K):=by subst hK;exact MF hc
theorem CC (hK:X.K=K:=by rfl):A7 X (.builtin "isinstance") (Mt K):=by subst hK;exact JE
theorem NO (hK:X.K=K:=by rfl):A7 X (.type "list") (KH K):=by subst hK;exact Ib
theorem K7 (hK:X.K=K:=by rfl):A7 X (.type "tuple") (IH K):=by subst hK;exact G6
theorem Bc (hK:X.K=K:=by rfl):IxR X (Qe K):=by subst hK;exact OC
theorem Bl (hK:X.K=K:=by rfl):IxR X (RO K):=by subst hK;exact Qi
theorem K5 (hK:X.K=K:=by rfl):OpR X (binaryOp .Add) (MW K):=by subst hK;exact O8
theorem T2 (hu:X.A.units<cLine) (hK:X.K=K:=by rfl):OpR X (compareOp .Eq) (LP K false):=by subst hK;exact QH hu
theorem PJ (hu:X.A.units<cLine) (hK:X.K=K:=by rfl):OpR X (compareOp .NotEq) (LP K true):=by subst hK;exact RP hu
theorem Pz (hK:X.K=K:=by rfl):SlR X (QW K):=by subst hK;exact OD
theorem B0 {tg l:Expr} {tl:TE} (hl:PE X l tl) (hK:X.K=K:=by rfl):PI X tg l (Ny K tl):=by subst hK;exact OW hl
theorem P6 {tg l:Expr} {tl:TE} (hl:PE X l tl) (hK:X.K=K:=by rfl):PI X tg l (Q5 K tl):=by subst hK;exact QM hl
end
section
variable {X:Cx} {pins:List (Addr × Obj)} {σ:St} {H:Hp} {s:Shared} {h':Heap}
theorem Inv.turnedL {t':Nat} (ch:List Addr) (I:Inv X pins σ H s) (hf:∀ b∈ch,B7 X pins H b) (k:∀ b o,b∉ch->s.heap.get? b=some o->h'.get? b=some o):Inv X pins σ H { s with heap:=h',toks:=t' }:=by
  have nit:∀ b u,H b=some u->b∉ch:=λ b u e z=>by rw [(hf b z).1] at e;cases e
  refine I.step (g':=s.gens) (d':=s.drawn) (ch:=ch) (λ b hb=> ?_) (λ b o _ _ hc e _=>k b o hc e) (λ b o _ _ hc e _=>⟨o.slots,k b o hc e⟩) (λ _ _ _ _ n=>n)
    (λ b o hc e=>⟨o,k b o hc e⟩) (λ _ _ e=>e) (λ _ _ _ e=>e) (λ b ps e=>⟨#[],by rw [e];simp⟩) (λ m hm=> ?_) (λ b u e=> ?_) I.bare
  · obtain ⟨f0,f1,f2,f3,f4,f5⟩:=hf b hb;exact ⟨f3,f1,f4,f5⟩
  · obtain ⟨o,es,ep,ho,r⟩:=hm;exact ⟨o,es,ep,k _ o (λ z=>(hf _ z).2.1 rfl) ho,r⟩
  · refine (I.hok b u e).stay (λ c v hc q=>k c v ?_ q) (λ _ q=>q) λ _ _ q=>q;rcases hc with z | z
    · rw [z];exact nit b u e
    · exact nit c _ z
end
def Ite (K:PySem.W.Frag) (a:Addr):It:=
  ⟨λ i H=>∃ xs x,SqL K H a xs/\xs[i]?=some x,λ i H v H'=>∃ p x,H p=none/\v= .ref p/\H'=upd H p (.tup [.int i,x])/\∀ xs,SqL K H a xs->xs[i]?=some x,λ i H=>∃ xs,SqL K H a xs/\xs.length<=i⟩
theorem Ik {X:Cx} {pins:List (Addr × Obj)} {H:Hp} {b p:Addr} {o:HO} (h:B7 X pins H b) (n:b≠p):B7 X pins (upd H p o) b:=⟨by rw [Am n];exact h.1,h.2⟩
theorem LG {P:Program} {w:World} {K:PySem.W.Frag} {elts:List Expr} {k:Nat} {pos:Pos} (a e it:Addr) (hne:e≠it):
    Turn P w K (.Tuple elts k pos) (Ite K a) [e,it] e (λ i h=>(∃ old,IsEnum h e it i old)/\h.IsListIter it a i) where
  mem:=by simp
  obj:=λ i h st b hb=>by
    obtain ⟨⟨old,he⟩,o,eo,c,d⟩:=st;rcases List.mem_cons.mp hb with z | z
    · subst z;exact ⟨_,he,λ v z=>by cases (show Data.fields _=Data.cell v from z)⟩
    · have z:b=it:=by simpa using z
      subst z;exact ⟨o,eo,λ v z=>by rw [d] at z;cases z⟩
  keep:=λ i h h' st kp=>by
    obtain ⟨⟨old,he⟩,hi⟩:=st;exact ⟨⟨old,kp e (by simp) _ he⟩,hi.at λ o z=>kp it (by simp) o z⟩
  item:=by
    intro X hP hw hK hc i pins s σ H E I hf st hg;subst hP hw hK;obtain ⟨xs,x,hq,hx⟩:=hg;obtain ⟨its,rv,p,hz⟩:=I.list hq;obtain ⟨u,hu,ru⟩:=rv.get hx;obtain ⟨⟨old,he⟩,hi⟩:=st;have hel:e<s.heap.objs.size:=Heap.lt_size he;have hil:it<s.heap.objs.size:=by obtain ⟨_,z,_⟩:=hi;exact Heap.lt_size z
    refine wpAny_pyNext_enum_item he hi p.isList (x:=u) (by simpa using hu) hne λ h' ho hi' hT hsz hk=> ?_;have I0:=I.laid (h':=s.heap.push { cls:= .type "tuple",data:= .seq #[.int i s.toks,u] }) (a:=s.heap.objs.size) (o:= .tup [.int i,x]) (t':=s.toks+1) (λ _ _ q=>Heap.get?_push_of_some _ q) (Nat.le_refl _)
      ⟨(by show 2<=sizeLine;decide),[.int i s.toks,u], .cons ⟨_,rfl⟩ (.cons ru .nil),⟨_,Heap.get?_push_size _ rfl,rfl,_,rfl⟩⟩
    have f0:∀ b∈[e,it],B7 X pins (upd H s.heap.objs.size (.tup [.int i,x])) b:=λ b hb=>Ik (hf b hb) (by
      rcases List.mem_cons.mp hb with z | z
      · rw [z];exact Nat.ne_of_lt hel
      · rw [show b=it by simpa using z];exact Nat.ne_of_lt hil)
    have I1:=Inv.turnedL (t':=s.toks+1) (h':=h') [e,it] I0 f0 (λ b o hb z=>by
      have hb1:b≠e:=λ q=>hb (by simp [q]);have hb2:b≠it:=λ q=>hb (by simp [q]);rcases Heap.get?_push_cases (show (s.heap.push { cls:= .type "tuple",data:= .seq #[.int i s.toks,u] }).get? b=some o from z) with ⟨q1,q2⟩ | q
      · rw [q1,q2];exact hT
      · exact hk b o hb1 hb2 q)
    refine ⟨.ref s.heap.objs.size,rfl,wpAny_letOwnedTupleGo_enum (s:={ s with heap:=h',toks:=s.toks+1 }) ho λ h2 he2 sb=> ?_⟩;refine ⟨.ref s.heap.objs.size,_,Inv.turnedL (t':=s.toks+1) (h':=h2) [e,it] I1 f0 (λ b o hb z=>(sb.2 b λ q=>hb (by simp [q])).trans z),rfl,⟨_,x,I.fresh,rfl,rfl,λ ys hy=>by rw [I.list_inj hy hq];exact hx⟩,⟨⟨u,by simpa using he2⟩,hi'.at λ o z=>(sb.2 it hne.symm).trans z⟩,λ b hb=>(f0 b hb).1⟩
  done:=by
    intro X hP hw hK hc i pins s σ H E I hf st hg;subst hP hw hK;obtain ⟨xs,hq,hx⟩:=hg;obtain ⟨its,rv,p,hz⟩:=I.list hq;obtain ⟨⟨old,he⟩,hi⟩:=st;have hl:=rv.length;exact wpAny_pyNext_enum_end (I.ok.hd hc) he hi p.isList (by simp;omega) λ h' eb=>⟨rfl,I.turnedL (t':=s.toks) [e,it] hf λ b o hb z=>eb b o (λ q=>hb (by simp [q])) z⟩
  self:=λ _ _ _ _ _ st h=>by
    obtain ⟨⟨old,he⟩,_⟩:=st;exact wpAny_pyIter_enum he h
section
variable {X:Cx} {elts:List Expr} {k:Nat} {tpos:Pos} {K:PySem.W.Frag}
def PU (K:PySem.W.Frag) (ta:TA):TI:=λ σ H R=>ta σ H λ vs H1=>∃ a,vs=[.ref a]/\(∃ xs,SqL K H1 a xs)/\R (Ite K a) H1
theorem HK:bootBuiltins "enumerate"=some (.type "enumerate"):=by decide +kernel
theorem Nf:bootBuiltins "zip"=some (.type "zip"):=by decide +kernel
theorem FY {l:Expr} {ta:TA} {p pos:Pos} (hg:Gl X "enumerate") (hm:X.mg "enumerate"=none) (ha:PA X [l] ta) (hK:X.K=K:=by rfl) (hs:starEach [l] X.env=[(false,eval l X.env)]:=by rfl):PI X (.Tuple elts k tpos) (.Call (.Name "enumerate" p) [l] [] pos) (PU K ta):=by
  subst hK;intro pins s σ H R I h;refine Call_ (CD I hg hm HK (PyProof.Rows.callWith_type1 (thn (ha pos pins s σ H _ I h) λ us s1 ⟨vs,H1,I1,r1,q1⟩=> ?_) hs rfl));obtain ⟨a,e,⟨xs,hq⟩,q⟩:=q1;subst e;cases r1 with
  | cons r rr=>
    cases rr;cases r;obtain ⟨its,rv,pl,hz⟩:=I1.list hq;refine call_enumerate_list pl.isList λ h' he hi hsz hk=> ?_;refine wpAny_pyIter_enum he ?_;have I2:=I1.kept (t':=s1.toks) hk;refine ⟨s1.heap.objs.size+1,[s1.heap.objs.size+1,s1.heap.objs.size],_,_,H1,rfl,I2,LG a _ _ (Nat.succ_ne_self _),⟨⟨_,he⟩,hi⟩,λ b hb=> ?_,q⟩;have hb':s1.heap.objs.size<=b:=by
      rcases List.mem_cons.mp hb with z | z
      · rw [z];exact Nat.le_succ _
      · have z:b=s1.heap.objs.size:=by simpa using z
        rw [z];exact Nat.le_refl _
    exact I1.fpOk hb' (I1.hok.fresh hb')
end
section
variable {X:Cx} {elts:List Expr} {k:Nat} {tpos:Pos} {K:PySem.W.Frag}
end
def Bv (tp:Bool) (h:Heap) (it l:Addr) (i:Nat):Prop:=if tp=true then h.IsTupleIter it l i else h.IsListIter it l i
def BF (tp:Bool) (h:Heap) (l:Addr) (xs:Array Value):Prop:=if tp=true then h.IsTuple l xs else h.IsList l xs
theorem AH {tp:Bool} {h h':Heap} {it l:Addr} {i:Nat} (x:Bv tp h it l i) (k:∀ o,h.get? it=some o->h'.get? it=some o):Bv tp h' it l i:=by
  cases tp with
  | false=>obtain ⟨o,e,r⟩:=(show h.IsListIter it l i from x);exact (show h'.IsListIter it l i from ⟨o,k o e,r⟩)
  | true=>obtain ⟨o,e,r⟩:=(show h.IsTupleIter it l i from x);exact (show h'.IsTupleIter it l i from ⟨o,k o e,r⟩)
theorem Cj {tp:Bool} {h h':Heap} {l:Addr} {xs:Array Value} (x:BF tp h l xs) (k:∀ o,h.get? l=some o->h'.get? l=some o):BF tp h' l xs:=by
  cases tp with
  | false=>obtain ⟨o,e,r⟩:=(show h.IsList l xs from x);exact (show h'.IsList l xs from ⟨o,k o e,r⟩)
  | true=>obtain ⟨o,e,r⟩:=(show h.IsTuple l xs from x);exact (show h'.IsTuple l xs from ⟨o,k o e,r⟩)
theorem Bu {tp:Bool} {h:Heap} {it l:Addr} {i:Nat} (x:Bv tp h it l i):∃ o,h.get? it=some o/\o.data= .fields #[.ref l, .int i 0]:=by
  cases tp with
  | false=>obtain ⟨o,e,_,d⟩:=(show h.IsListIter it l i from x);exact ⟨o,e,d⟩
  | true=>obtain ⟨o,e,_,d⟩:=(show h.IsTupleIter it l i from x);exact ⟨o,e,d⟩
theorem DW {tp:Bool} {h:Heap} {l:Addr} {xs:Array Value} (x:BF tp h l xs):∃ o n,h.get? l=some o/\o.data= .seq xs n:=by
  cases tp with
  | false=>obtain ⟨o,e,_,n,d⟩:=(show h.IsList l xs from x);exact ⟨o,n,e,d⟩
  | true=>obtain ⟨o,e,_,n,d⟩:=(show h.IsTuple l xs from x);exact ⟨o,n,e,d⟩
section
variable {prog:Program} {w:World} {A:Around} {E:Value->Shared->Prop} {s:Shared}
theorem ER {tp:Bool} {it l:Addr} {i:Nat} {xs:Array Value} {x:Value} {Q:Value->Shared->Prop} (ht:Bv tp s.heap it l i) (hq:BF tp s.heap l xs) (hx:xs[i]?=some x)
    (k:∀ h',Bv tp h' it l (i+1)->Heap.SameBut it s.heap h'->Q x { s with heap:=h' }):wpAny (model prog w) A (Builtin.SmallTypes.nextOf (.ref it)) Q E s:=by
  cases tp with
  | false=>exact wpAny_nextOf_list_item (show s.heap.IsListIter it l i from ht) (show s.heap.IsList l xs from hq) hx k
  | true=>
    have ht:s.heap.IsTupleIter it l i:=ht;obtain ⟨ob,eb,cb,db⟩:=id ht;obtain ⟨ol,el,_,nl,dl⟩:=(show s.heap.IsTuple l xs from hq);unfold Builtin.SmallTypes.nextOf;refine wpAny_bind (wpAny_callSpecial?_slot (name:=Str.ofString "__next__") ht.typeIs F.slot_tuple_iterator_next (wpAny_call_entry F.slot_tuple_iterator_next ht.typeIs F.entry_tuple_iterator_next ?_ (F.args_tuple_iterator_next_1 _)));show wpAny _ _ (field (.ref it) 0 >>= _) _ _ s;refine wpAny_bind (wpAny_field eb db (x:= .ref l) rfl ?_);show wpAny _ _ (if (Value.ref l == Value.none)=true then _ else _) _ _ s;rw [if_neg (show ¬ ((Value.ref l == Value.none)=true) from Bool.false_ne_true)];show wpAny _ _ (field (.ref it) 1 >>= _) _ _ s;refine wpAny_bind (wpAny_field eb db (x:= .int i 0) rfl ?_);show wpAny _ _ (seqItems? (.ref l) >>= _) _ _ s;refine wpAny_bind (wpAny_seqItems el dl ?_);simp only [Int.toNat_natCast,hx];refine wpAny_bind (wpAny_setField eb db (by simp) (wpAny_pure ⟨x,rfl,wpAny_pure (k _ ?_ (Heap.SameBut.update ..))⟩));exact (show Heap.IsTupleIter _ it l (i+1) from ⟨_,Heap.get?_update_self _ eb (Obj.isFreed_of_fields (Obj.data_mapFields db _)),(Obj.cls_mapFields ..).trans cb,by rw [Obj.data_mapFields db];simp [rawInt]⟩)
theorem FU {tp:Bool} {it l:Addr} {i:Nat} {xs:Array Value} {Q:Value->Shared->Prop} (hh:A.handled=none) (ht:Bv tp s.heap it l i) (hq:BF tp s.heap l xs) (hx:xs[i]?=none)
    (k:∀ h' e,Heap.ExtBut it s.heap h'->(∃ o,h'.get? e=some o/\o.cls= .type "StopIteration")->E (.ref e) { s with heap:=h' }):wpAny (model prog w) A (Builtin.SmallTypes.nextOf (.ref it)) Q E s:=by
  cases tp with
  | false=>exact wpAny_nextOf_list_end hh (show s.heap.IsListIter it l i from ht) (show s.heap.IsList l xs from hq) hx k
  | true=>
    have ht:s.heap.IsTupleIter it l i:=ht;obtain ⟨ob,eb,cb,db⟩:=id ht;obtain ⟨ol,el,_,nl,dl⟩:=(show s.heap.IsTuple l xs from hq);unfold Builtin.SmallTypes.nextOf;refine wpAny_bind (wpAny_callSpecial?_slot (name:=Str.ofString "__next__") ht.typeIs F.slot_tuple_iterator_next (wpAny_call_entry F.slot_tuple_iterator_next ht.typeIs F.entry_tuple_iterator_next ?_ (F.args_tuple_iterator_next_1 _)));show wpAny _ _ (field (.ref it) 0 >>= _) _ _ s;refine wpAny_bind (wpAny_field eb db (x:= .ref l) rfl ?_);show wpAny _ _ (if (Value.ref l == Value.none)=true then _ else _) _ _ s;rw [if_neg (show ¬ ((Value.ref l == Value.none)=true) from Bool.false_ne_true)];show wpAny _ _ (field (.ref it) 1 >>= _) _ _ s;refine wpAny_bind (wpAny_field eb db (x:= .int i 0) rfl ?_);show wpAny _ _ (seqItems? (.ref l) >>= _) _ _ s;refine wpAny_bind (wpAny_seqItems el dl ?_);simp only [Int.toNat_natCast,hx];refine wpAny_bind (wpAny_rule (wpAny_bind (wpAny_setField eb db (by simp) ?_)));show wpAny _ _ (newExc (.type "StopIteration") [] >>= _) _ _ _;refine wpAny_bind ?_;simp only [newExc,newTuple];refine wpAny_bind (wpAny_newObj_type ?_ (by size_fits));refine wpAny_bind (m:=firstArgMember _ _) (wpAny_of_eq (a:=Value.none) (by first | rfl | (simp only [firstArgMember];rfl)) ?_);refine wpAny_newObj_type ?_ (by size_fits);simp only [raiseNew];refine wpAny_bind (wpAny_handled ?_)
    first | rw [show A.in1.handled=none from hh] | rw [hh]
    exact wpAny_bind (wpAny_pure (wpAny_throw (k _ _ (((Heap.SameBut.update ..).extBut.push _).push _) ⟨_,Heap.get?_push_size _ rfl,rfl⟩)))
end
section
variable {prog:Program} {w:World} {A:Around} {E:Value->Shared->Prop} {s:Shared}
structure ZipSt (t1 t2:Bool) (h:Heap) (z TI TO i1 i2 l1 l2:Addr) (k:Nat):Prop where
  hz:IsZip h z TI TO .none
  hTI:IsPair h TI (.ref i1) (.ref i2)
  hTO:∃ c d,IsPair h TO c d
  h1:Bv t1 h i1 l1 k
  h2:Bv t2 h i2 l2 k
theorem Lo {t1 t2:Bool} {z TI TO i1 i2 l1 l2:Addr} {k:Nat} {xs ys:Array Value} {x y:Value} {Q:Value->Shared->Prop} (D:ZipApart z TI TO i1 i2 l1 l2) (Z:ZipSt t1 t2 s.heap z TI TO i1 i2 l1 l2 k)
    (q1:BF t1 s.heap l1 xs) (q2:BF t2 s.heap l2 ys) (hx:xs[k]?=some x) (hy:ys[k]?=some y)
    (fin:∀ h',IsZip h' z TI TO (rawInt s.heap.objs.size)->IsPair h' TO x y->Bv t1 h' i1 l1 (k+1)->Bv t2 h' i2 l2 (k+1)->IsPair h' s.heap.objs.size x y->
      (∀ c o,c≠z->c≠TO->c≠i1->c≠i2->s.heap.get? c=some o->h'.get? c=some o)->Q (.ref s.heap.objs.size) { s with heap:=h' }):
    wpAny (model prog w) A (Builtin.«zip.__next__» ⟨[.ref z],[]⟩) (λ fin s'=>∃ v,fin= .done (.ret v)/\Q v s') E s:=by
  obtain ⟨hz,hTI,⟨c0,d0,hTO⟩,g1,g2⟩:=Z;show wpAny _ _ (field (.ref z) 2 >>= _) _ _ _;refine wpAny_bind (wpAny_field hz rfl (x:= .bool false) rfl ?_);show wpAny _ _ (field (.ref z) 3 >>= _) _ _ _;refine wpAny_bind (wpAny_field hz rfl (x:= .ref TI) rfl (wpAny_bind (wpAny_seqItems hTI rfl ?_)));show wpAny _ _ (Builtin.SmallTypes.ownedTupleIsFree (.ref z) >>= _) _ _ _;refine wpAny_bind ?_;unfold Builtin.SmallTypes.ownedTupleIsFree;refine wpAny_bind (wpAny_field hz rfl (x:= .none) rfl (wpAny_pure ?_));simp only [if_true];refine wpAny_bind (wpAny_rule (wpAny_bind (wpAny_field hz rfl (x:= .ref TO) rfl (wpAny_bind (wpAny_setField_rec hz (by simp) λ a1 za b1=> ?_)))));replace za:IsZip a1 z TI TO .ellipsis:=za;refine wpAny_bind ?_;simp only [List.zipIdx_cons,List.zipIdx_nil,List.forIn_cons,List.forIn_nil];refine wpAny_bind (wpAny_bind (wpAny_onRaise ?_));show wpAny _ _ (Builtin.SmallTypes.nextOf (.ref i1) >>= _) _ _ _;refine wpAny_bind (ER (s:={ s with heap:=a1 }) (AH g1 λ o e=>b1.extBut _ o D.i1z e) (Cj q1 λ o e=>b1.extBut _ o D.l1z e) hx λ a2 i1a b2=>wpAny_pure ?_);have to2:IsPair a2 TO c0 d0:=b2.extBut _ _ D.TOi1 (b1.extBut _ _ D.TOz hTO);refine wpAny_bind (wpAny_seqItems to2 rfl (wpAny_bind (wpAny_updateSeq_pair to2 λ a3 to3 b3=> ?_)));replace to3:IsPair a3 TO x d0:=to3;refine wpAny_bind (wpAny_letGo (wpAny_pure (wpAny_bind (wpAny_bind (wpAny_onRaise ?_)))));show wpAny _ _ (Builtin.SmallTypes.nextOf (.ref i2) >>= _) _ _ _;have up3:∀ c o,c≠z->c≠i1->c≠TO->s.heap.get? c=some o->a3.get? c=some o:=λ c o n1 n2 n3 e=>b3.extBut _ o n3 (b2.extBut _ o n2 (b1.extBut _ o n1 e));refine wpAny_bind (ER (s:={ s with heap:=a3 }) (AH g2 λ o e=>up3 _ o D.i2z D.i12.symm D.TOi2.symm e) (Cj q2 λ o e=>up3 _ o D.l2z D.l2i1 D.l2TO e) hy λ a4 i2a b4=>wpAny_pure ?_);have to4:IsPair a4 TO x d0:=b4.extBut _ _ D.TOi2 to3;refine wpAny_bind (wpAny_seqItems to4 rfl (wpAny_bind (wpAny_updateSeq_pair to4 λ a5 to5 b5=> ?_)));replace to5:IsPair a5 TO x y:=to5;refine wpAny_bind (wpAny_letGo (wpAny_pure (wpAny_pure (wpAny_bind (wpAny_seqItems to5 rfl (wpAny_bind (wpAny_newTuple ?_)))))));have sz:a5.objs.size=s.heap.objs.size:=by rw [b5.1,b4.1,b3.1,b2.1,b1.1]
  have z5:IsZip a5 z TI TO .ellipsis:=b5.extBut _ _ D.TOz.symm (b4.extBut _ _ D.i2z.symm (b3.extBut _ _ D.TOz.symm (b2.extBut _ _ D.i1z.symm za)));have k5:∀ c o,c≠z->c≠TO->c≠i1->c≠i2->s.heap.get? c=some o->a5.get? c=some o:=λ c o n1 n2 n3 n4 e=>b5.extBut _ _ n2 (b4.extBut _ _ n4 (up3 c o n1 n3 n2 e));have f1:Bv t1 a5 i1 l1 (k+1):=AH i1a λ o e=>b5.extBut _ o D.TOi1.symm (b4.extBut _ o D.i12 (b3.extBut _ o D.TOi1.symm e));have f2:Bv t2 a5 i2 l2 (k+1):=AH i2a λ o e=>b5.extBut _ o D.TOi2.symm e;have zlt:z<a5.objs.size:=Heap.lt_size z5;show wpAny _ _ (Builtin.SmallTypes.ownedTupleHandOut (.ref z) (.ref a5.objs.size) >>= _) _ _ _;refine wpAny_bind ?_;unfold Builtin.SmallTypes.ownedTupleHandOut;have z6:IsZip (a5.push { cls:= .type "tuple",data:= .seq #[x,y] }) z TI TO .ellipsis:=Heap.get?_push_of_some _ z5;refine wpAny_bind (wpAny_setField_rec z6 (by simp) λ a7 z7 b7=> ?_);replace z7:IsZip a7 z TI TO (rawInt a5.objs.size):=z7;refine wpAny_setField_rec z7 (by simp) λ a8 z8 b8=> ?_;replace z8:IsZip a8 z TI TO (rawInt a5.objs.size):=z8;have up:∀ c o,c≠z->a5.get? c=some o->a8.get? c=some o:=λ c o n e=>b8.extBut _ _ n (b7.extBut _ _ n (Heap.get?_push_of_some _ e));have t8:IsPair a8 a5.objs.size x y:=b8.extBut _ _ (Nat.ne_of_gt zlt) (b7.extBut _ _ (Nat.ne_of_gt zlt) (Heap.get?_push_size _ rfl));rw [sz] at z8 t8;refine wpAny_pure ⟨_,rfl,?_⟩;show Q (.ref a5.objs.size) _;rw [sz];exact fin a8 z8 (up _ _ D.TOz to5) (AH f1 λ o e=>up _ o D.i1z e) (AH f2 λ o e=>up _ o D.i2z e) t8 λ c o n1 n2 n3 n4 e=>up c o n1 (k5 c o n1 n2 n3 n4 e)
theorem NE {t1 t2:Bool} {z TI TO i1 i2 l1 l2:Addr} {k:Nat} {xs ys:Array Value} {Q:Fin->Shared->Prop} (hh:A.handled=none) (D:ZipApart z TI TO i1 i2 l1 l2) (Z:ZipSt t1 t2 s.heap z TI TO i1 i2 l1 l2 k)
    (q1:BF t1 s.heap l1 xs) (q2:BF t2 s.heap l2 ys) (hend:xs[k]?=none\/ys[k]?=none)
    (fin:∀ h' e,(∀ c o,c≠z->c≠TO->c≠i1->c≠i2->s.heap.get? c=some o->h'.get? c=some o)->(∃ o,h'.get? e=some o/\o.cls= .type "StopIteration")->E (.ref e) { s with heap:=h' }):
    wpAny (model prog w) A (Builtin.«zip.__next__» ⟨[.ref z],[]⟩) Q E s:=by
  obtain ⟨hz,hTI,⟨c0,d0,hTO⟩,g1,g2⟩:=Z;show wpAny _ _ (field (.ref z) 2 >>= _) _ _ _;refine wpAny_bind (wpAny_field hz rfl (x:= .bool false) rfl ?_);show wpAny _ _ (field (.ref z) 3 >>= _) _ _ _;refine wpAny_bind (wpAny_field hz rfl (x:= .ref TI) rfl (wpAny_bind (wpAny_seqItems hTI rfl ?_)));show wpAny _ _ (Builtin.SmallTypes.ownedTupleIsFree (.ref z) >>= _) _ _ _;refine wpAny_bind ?_;unfold Builtin.SmallTypes.ownedTupleIsFree;refine wpAny_bind (wpAny_field hz rfl (x:= .none) rfl (wpAny_pure ?_));simp only [if_true];refine wpAny_bind (wpAny_rule (wpAny_bind (wpAny_field hz rfl (x:= .ref TO) rfl (wpAny_bind (wpAny_setField_rec hz (by simp) λ a1 za b1=> ?_)))));replace za:IsZip a1 z TI TO .ellipsis:=za;refine wpAny_bind ?_;simp only [List.zipIdx_cons,List.zipIdx_nil,List.forIn_cons,List.forIn_nil];refine wpAny_bind (wpAny_bind (wpAny_onRaise ?_));show wpAny _ _ (Builtin.SmallTypes.nextOf (.ref i1) >>= _) _ _ _;have g1':=AH g1 λ o e=>b1.extBut _ o D.i1z e;have q1':=Cj q1 λ o e=>b1.extBut _ o D.l1z e;cases hx:xs[k]? with
  | none=>
    refine wpAny_bind (FU (s:={ s with heap:=a1 }) hh g1' q1' hx λ a2 e b2 he=> ?_);obtain ⟨oe,eo,ce⟩:=he;have z2:IsZip a2 z TI TO .ellipsis:=b2 _ _ D.i1z.symm za;have nz:e≠z:=λ q=>by subst q;rw [z2] at eo;cases eo;simp at ce
    exact wpAny_setField_rec z2 (by simp) λ a3 _ b3=>fin a3 e (λ c o n1 _ n3 _ q=>b3.extBut _ _ n1 (b2 _ _ n3 (b1.extBut _ _ n1 q))) ⟨oe,b3.extBut _ _ nz eo,ce⟩
  | some x=>
    have hy:ys[k]?=none:=by
      rcases hend with q | q
      · rw [hx] at q;cases q
      · exact q
    refine wpAny_bind (ER (s:={ s with heap:=a1 }) g1' q1' hx λ a2 i1a b2=>wpAny_pure ?_);have to2:IsPair a2 TO c0 d0:=b2.extBut _ _ D.TOi1 (b1.extBut _ _ D.TOz hTO);refine wpAny_bind (wpAny_seqItems to2 rfl (wpAny_bind (wpAny_updateSeq_pair to2 λ a3 to3 b3=> ?_)));refine wpAny_bind (wpAny_letGo (wpAny_pure (wpAny_bind (wpAny_bind (wpAny_onRaise ?_)))));show wpAny _ _ (Builtin.SmallTypes.nextOf (.ref i2) >>= _) _ _ _;have up3:∀ c o,c≠z->c≠i1->c≠TO->s.heap.get? c=some o->a3.get? c=some o:=λ c o n1 n2 n3 e=>b3.extBut _ o n3 (b2.extBut _ o n2 (b1.extBut _ o n1 e));refine wpAny_bind (FU (s:={ s with heap:=a3 }) hh (AH g2 λ o e=>up3 _ o D.i2z D.i12.symm D.TOi2.symm e) (Cj q2 λ o e=>up3 _ o D.l2z D.l2i1 D.l2TO e) hy λ a4 e b4 he=> ?_);obtain ⟨oe,eo,ce⟩:=he;have z4:IsZip a4 z TI TO .ellipsis:=b4 _ _ D.i2z.symm (b3.extBut _ _ D.TOz.symm (b2.extBut _ _ D.i1z.symm za));have nz:e≠z:=λ q=>by subst q;rw [z4] at eo;cases eo;simp at ce
    exact wpAny_setField_rec z4 (by simp) λ a5 _ b5=>fin a5 e (λ c o n1 n2 n3 n4 q=>b5.extBut _ _ n1 (b4 _ _ n4 (up3 c o n1 n3 n2 q))) ⟨oe,b5.extBut _ _ nz eo,ce⟩
def HI (tp:Bool):String:=if tp=true then "tuple_iterator" else "list_iterator"
theorem F2 {tp:Bool} {l:Addr} {xs:Array Value} {Q:Value->Shared->Prop} (hq:BF tp s.heap l xs) (k:Q (.ref s.heap.objs.size) { s with heap:=s.heap.push { cls:= .type (HI tp),data:= .fields #[.ref l, .int 0 0] } }):
    wpAny (model prog w) A (pyIter (.ref l)) Q E s:=by
  cases tp with
  | false=>exact wpAny_pyIter_list (show s.heap.IsList l xs from hq) k
  | true=>exact wpAny_pyIter_tuple (show s.heap.IsTuple l xs from hq) k
theorem E6 {tp:Bool} {h:Heap} {l:Addr}:Bv tp (h.push { cls:= .type (HI tp),data:= .fields #[.ref l, .int 0 0] }) h.objs.size l 0:=by
  cases tp with
  | false=>exact (show Heap.IsListIter _ _ l 0 from ⟨_,Heap.get?_push_size _ rfl,rfl,rfl⟩)
  | true=>exact (show Heap.IsTupleIter _ _ l 0 from ⟨_,Heap.get?_push_size _ rfl,rfl,rfl⟩)
abbrev zs1 (t1:Bool) (h:Heap) (l1:Addr):Heap:=h.push { cls:= .type (HI t1),data:= .fields #[.ref l1, .int 0 0] }
abbrev zs2 (t1 t2:Bool) (h:Heap) (l1 l2:Addr):Heap:=(zs1 t1 h l1).push { cls:= .type (HI t2),data:= .fields #[.ref l2, .int 0 0] }
abbrev zs3 (t1 t2:Bool) (h:Heap) (l1 l2:Addr):Heap:=(zs2 t1 t2 h l1 l2).push { cls:= .type "tuple",data:= .seq #[.ref h.objs.size, .ref (zs1 t1 h l1).objs.size] }
abbrev zs4 (t1 t2:Bool) (h:Heap) (l1 l2:Addr):Heap:=(zs3 t1 t2 h l1 l2).push { cls:= .type "tuple",data:= .seq #[.none, .none] }
abbrev zs5 (t1 t2:Bool) (h:Heap) (l1 l2:Addr):Heap:=(zs4 t1 t2 h l1 l2).push { cls:= .type "zip",data:= .fields #[.none, .bool false, .bool false, .ref (zs2 t1 t2 h l1 l2).objs.size, .ref (zs3 t1 t2 h l1 l2).objs.size] }
theorem JW (t1 t2:Bool) (l1 l2:Addr) (xs ys:Array Value):
    Meets (Builtin.«zip.__new__» ⟨[.type "zip", .ref l1, .ref l2],[]⟩) (λ _ R s=>BF t1 s.heap l1 xs/\BF t2 s.heap l2 ys/\
      R (.ok (.ret (.ref (zs4 t1 t2 s.heap l1 l2).objs.size))) { s with heap:=zs5 t1 t2 s.heap l1 l2 }):=
  .of_wp λ prog w A R s h=>by
    obtain ⟨hp,g,d,tk,os⟩:=s;obtain ⟨m1,m2,h⟩:=h;have hsub:=sub_zip;have M1:BF t1 (Shared.heap ⟨hp,g,d,tk,os⟩) l1 xs:=m1;have M2:BF t2 (Shared.heap ⟨hp.push { cls:= .type (HI t1),data:= .fields #[.ref l1, .int 0 0] },g,d,tk,os⟩) l2 ys:=Cj m2 λ o e=>Heap.get?_push_of_some _ e
    wp_walk using F2 M1,F2 M2
    exact ⟨_,rfl,h⟩
theorem L3 {t1 t2:Bool} {l1 l2:Addr} {xs ys:Array Value} {Q:Value->Shared->Prop} (m1:BF t1 s.heap l1 xs) (m2:BF t2 s.heap l2 ys)
    (k:∀ h',ZipSt t1 t2 h' (s.heap.objs.size+4) (s.heap.objs.size+2) (s.heap.objs.size+3) s.heap.objs.size (s.heap.objs.size+1) l1 l2 0->
      (∀ c o,s.heap.get? c=some o->h'.get? c=some o)->Q (.ref (s.heap.objs.size+4)) { s with heap:=h' }):
    wpAny (model prog w) A (call (.type "zip") [.ref l1, .ref l2]) Q E s:=by
  refine callType_new F.called_zip (by decide) (F.typeCall_zip_2 _ _) (F.newCall_zip_2 _ _) (λ obj=>F.args_object_init_3 obj _ _) F.entry_zip_new (JW t1 t2 l1 l2 xs ys) ⟨m1,m2,?_⟩;have n1:(zs1 t1 s.heap l1).objs.size=s.heap.objs.size+1:=Heap.size_push ..;have n2:(zs2 t1 t2 s.heap l1 l2).objs.size=s.heap.objs.size+2:=by rw [Heap.size_push,n1]
  have n3:(zs3 t1 t2 s.heap l1 l2).objs.size=s.heap.objs.size+3:=by rw [Heap.size_push,n2]
  have n4:(zs4 t1 t2 s.heap l1 l2).objs.size=s.heap.objs.size+4:=by rw [Heap.size_push,n3]
  have g5:(zs5 t1 t2 s.heap l1 l2).get? (zs4 t1 t2 s.heap l1 l2).objs.size=some _:=Heap.get?_push_size _ rfl;have g4:(zs5 t1 t2 s.heap l1 l2).get? (zs3 t1 t2 s.heap l1 l2).objs.size=some _:=Heap.get?_push_of_some _ (Heap.get?_push_size _ rfl);have g3:(zs5 t1 t2 s.heap l1 l2).get? (zs2 t1 t2 s.heap l1 l2).objs.size=some _:=Heap.get?_push_of_some _ (Heap.get?_push_of_some _ (Heap.get?_push_size _ rfl));have up2:∀ c o,(zs2 t1 t2 s.heap l1 l2).get? c=some o->(zs5 t1 t2 s.heap l1 l2).get? c=some o:=λ c o e=>Heap.get?_push_of_some _ (Heap.get?_push_of_some _ (Heap.get?_push_of_some _ e));have s2:Bv t2 (zs5 t1 t2 s.heap l1 l2) (zs1 t1 s.heap l1).objs.size l2 0:=AH E6 λ o e=>up2 _ o e;have s1:Bv t1 (zs5 t1 t2 s.heap l1 l2) s.heap.objs.size l1 0:=AH E6 λ o e=>up2 _ o (Heap.get?_push_of_some _ e);show _/\_;rw [n2,n3,n4] at g5;rw [n1,n2] at g3;rw [n3] at g4;rw [n1] at s2;rw [n4];exact ⟨⟨_,g5,rfl⟩,k _ ⟨g5,g3,⟨_,_,g4⟩,s1,s2⟩ λ c o e=>up2 c o (Heap.get?_push_of_some _ (Heap.get?_push_of_some _ e))⟩
end
def SqS (tp:Bool) (K:PySem.W.Frag) (H:Hp) (a:Addr) (xs:List V):Prop:=if tp=true then SqT K H a xs else SqL K H a xs
theorem B8 {X:Cx} {pins:List (Addr × Obj)} {σ:St} {H:Hp} {s:Shared} {tp:Bool} {a:Addr} {xs:List V} (I:Inv X pins σ H s) (h:SqS tp X.K H a xs):∃ its:List Value,Vals xs its/\BF tp s.heap a its.toArray:=by
  cases tp with
  | false=>
    obtain ⟨its,r,p,_⟩:=I.list (show SqL X.K H a xs from h);exact ⟨its,r,(show s.heap.IsList a its.toArray from p.isList)⟩
  | true=>
    obtain ⟨its,r,p,_⟩:=I.tuple (show SqT X.K H a xs from h);exact ⟨its,r,(show s.heap.IsTuple a its.toArray from p)⟩
theorem Il {X:Cx} {pins:List (Addr × Obj)} {σ:St} {H:Hp} {s:Shared} {tp:Bool} {a:Addr} {xs ys:List V} (I:Inv X pins σ H s) (h:SqS tp X.K H a xs) (h2:SqS tp X.K H a ys):xs=ys:=by
  cases tp with
  | false=>exact I.list_inj h h2
  | true=>exact I.tuple_inj h h2
def Izs (t1 t2:Bool) (K:PySem.W.Frag) (a b:Addr):It:=
  ⟨λ i H=>∃ xs ys x y,SqS t1 K H a xs/\SqS t2 K H b ys/\xs[i]?=some x/\ys[i]?=some y,
   λ i H v H'=>∃ p x y,H p=none/\v= .ref p/\H'=upd H p (.tup [x,y])/\(∀ xs,SqS t1 K H a xs->xs[i]?=some x)/\∀ ys,SqS t2 K H b ys->ys[i]?=some y,
   λ i H=>∃ xs ys,SqS t1 K H a xs/\SqS t2 K H b ys/\(xs.length<=i\/ys.length<=i)⟩
theorem OU {P:Program} {w:World} {K:PySem.W.Frag} {elts:List Expr} {k:Nat} {pos:Pos} (t1 t2:Bool) (a b z TI TO i1 i2:Addr) (D:ZipApart z TI TO i1 i2 a b):
    Turn P w K (.Tuple elts k pos) (Izs t1 t2 K a b) [z,TI,TO,i1,i2] z (λ i h=>ZipSt t1 t2 h z TI TO i1 i2 a b i) where
  mem:=by simp
  obj:=λ i h st c hc=>by
    obtain ⟨hz,hTI,⟨x,y,hTO⟩,h1,h2⟩:=st;obtain ⟨o1,e1,d1⟩:=Bu h1;obtain ⟨o2,e2,d2⟩:=Bu h2;simp only [List.mem_cons,List.not_mem_nil,or_false] at hc;rcases hc with q | q | q | q | q
    · subst q;exact ⟨_,hz,λ v z=>by cases (show Data.fields _=Data.cell v from z)⟩
    · subst q;exact ⟨_,hTI,λ v z=>by cases (show Data.seq _ _=Data.cell v from z)⟩
    · subst q;exact ⟨_,hTO,λ v z=>by cases (show Data.seq _ _=Data.cell v from z)⟩
    · subst q;exact ⟨o1,e1,λ v z=>by rw [d1] at z;cases z⟩
    · subst q;exact ⟨o2,e2,λ v z=>by rw [d2] at z;cases z⟩
  keep:=λ i h h' st kp=>by
    obtain ⟨hz,hTI,⟨x,y,hTO⟩,h1,h2⟩:=st;exact ⟨kp z (by simp) _ hz,kp TI (by simp) _ hTI,⟨x,y,kp TO (by simp) _ hTO⟩,AH h1 λ o q=>kp i1 (by simp) o q,AH h2 λ o q=>kp i2 (by simp) o q⟩
  item:=by
    intro X hP hw hK hc i pins s σ H E I hf st hg;subst hP hw hK;obtain ⟨xs,ys,x,y,hq1,hq2,hx,hy⟩:=hg;obtain ⟨its,rv,p1⟩:=B8 I hq1;obtain ⟨its2,rv2,p2⟩:=B8 I hq2;obtain ⟨u,hu,ru⟩:=rv.get hx;obtain ⟨u2,hu2,ru2⟩:=rv2.get hy;have lt:∀ q∈[z,TI,TO,i1,i2],q<s.heap.objs.size:=λ q hq=>by
      obtain ⟨hz,hTI,⟨c,d,hTO⟩,h1,h2⟩:=id st;obtain ⟨_,e1,_⟩:=Bu h1;obtain ⟨_,e2,_⟩:=Bu h2;simp only [List.mem_cons,List.not_mem_nil,or_false] at hq;rcases hq with q' | q' | q' | q' | q'
      · subst q';exact Heap.lt_size hz
      · subst q';exact Heap.lt_size hTI
      · subst q';exact Heap.lt_size hTO
      · subst q';exact Heap.lt_size e1
      · subst q';exact Heap.lt_size e2
    have hT0:s.TypeIs (.ref z) "zip":=⟨_,st.hz,rfl⟩;unfold pyNext;refine wpAny_bind (wpAny_attempt (wpAny_callSpecial?_slot (name:=Str.ofString "__next__") hT0 F.slot_zip_next (wpAny_call_entry F.slot_zip_next hT0 F.entry_zip_next
      (Lo D st p1 p2 (x:=u) (y:=u2) (by simpa using hu) (by simpa using hu2) λ h' hz' hTO' h1' h2' hT hk=>wpAny_pure ?_) (F.args_zip_next_1 _))))
    have I0:=I.laid (h':=s.heap.push { cls:= .type "tuple",data:= .seq #[u,u2] }) (a:=s.heap.objs.size) (o:= .tup [x,y]) (t':=s.toks) (λ _ _ q=>Heap.get?_push_of_some _ q) (Nat.le_refl _)
      ⟨(by show 2<=sizeLine;decide),[u,u2], .cons ru (.cons ru2 .nil),⟨_,Heap.get?_push_size _ rfl,rfl,_,rfl⟩⟩
    have f0:∀ b∈[z,TI,TO,i1,i2],B7 X pins (upd H s.heap.objs.size (.tup [x,y])) b:=λ b hb=>Ik (hf b hb) (Nat.ne_of_lt (lt b hb));have I1:=Inv.turnedL (t':=s.toks) (h':=h') [z,TI,TO,i1,i2] I0 f0 (λ b o hb q=>by
      rcases Heap.get?_push_cases (show (s.heap.push { cls:= .type "tuple",data:= .seq #[u,u2] }).get? b=some o from q) with ⟨q1,q2⟩ | q
      · rw [q1,q2];exact hT
      · exact hk b o (λ e=>hb (by simp [e])) (λ e=>hb (by simp [e])) (λ e=>hb (by simp [e])) (λ e=>hb (by simp [e])) q)
    refine ⟨.ref s.heap.objs.size,rfl,wpAny_letOwnedTupleGo_zip (s:={ s with heap:=h' }) hz' λ h3 hz3 sb=> ?_⟩;refine ⟨.ref s.heap.objs.size,_,Inv.turnedL (t':=s.toks) (h':=h3) [z,TI,TO,i1,i2] I1 f0 (λ b o hb q=>(sb.2 b λ e=>hb (by simp [e])).trans q),rfl,
      ⟨_,x,y,I.fresh,rfl,rfl,λ l hl=>by rw [Il I hl hq1];exact hx,λ l hl=>by rw [Il I hl hq2];exact hy⟩,
      ⟨hz3,(sb.2 TI D.TIz).trans (hk TI _ D.TIz D.TITO D.TIi1 D.TIi2 st.hTI),⟨u,u2,(sb.2 TO D.TOz).trans hTO'⟩,AH h1' λ o q=>(sb.2 i1 D.i1z).trans q,AH h2' λ o q=>(sb.2 i2 D.i2z).trans q⟩,λ b hb=>(f0 b hb).1⟩
  done:=by
    intro X hP hw hK hc i pins s σ H E I hf st hg;subst hP hw hK;obtain ⟨xs,ys,hq1,hq2,hx⟩:=hg;obtain ⟨its,rv,p1⟩:=B8 I hq1;obtain ⟨its2,rv2,p2⟩:=B8 I hq2;have hl:=rv.length;have hl2:=rv2.length;have hT0:s.TypeIs (.ref z) "zip":=⟨_,st.hz,rfl⟩;unfold pyNext;refine wpAny_bind (wpAny_attempt (wpAny_callSpecial?_slot (name:=Str.ofString "__next__") hT0 F.slot_zip_next (wpAny_call_entry F.slot_zip_next hT0 F.entry_zip_next
      (NE (I.ok.hd hc) D st p1 p2 (hx.elim (λ q=> .inl (by simp;omega)) λ q=> .inr (by simp;omega)) λ h' e eb he=> ?_) (F.args_zip_next_1 _))))
    obtain ⟨oe,eo,ce⟩:=he;refine wpAny_bind (wpAny_isInstance (T:="StopIteration") (b:=true) ⟨oe,eo,ce⟩ isSubtype_stop (wpAny_pure ?_));exact ⟨rfl,I.turnedL (t':=s.toks) [z,TI,TO,i1,i2] hf λ b o hb q=>eb b o (λ e=>hb (by simp [e])) (λ e=>hb (by simp [e])) (λ e=>hb (by simp [e])) (λ e=>hb (by simp [e])) q⟩
  self:=λ _ _ _ _ _ st h=>wpAny_pyIter_zip st.hz h
section
variable {X:Cx} {elts:List Expr} {k:Nat} {tpos:Pos} {K:PySem.W.Frag}
def iZs (K:PySem.W.Frag) (ta:TA):TI:=λ σ H R=>ta σ H λ vs H1=>∃ t1 t2 a b,vs=[.ref a, .ref b]/\(∃ xs,SqS t1 K H1 a xs)/\(∃ ys,SqS t2 K H1 b ys)/\R (Izs t1 t2 K a b) H1
theorem R0 {l m:Expr} {ta:TA} {p pos:Pos} (hg:Gl X "zip") (hm:X.mg "zip"=none) (ha:PA X [l,m] ta) (hK:X.K=K:=by rfl) (hs:starEach [l,m] X.env=[(false,eval l X.env),(false,eval m X.env)]:=by rfl) (hs2:starEach [m] X.env=[(false,eval m X.env)]:=by rfl):
    PI X (.Tuple elts k tpos) (.Call (.Name "zip" p) [l,m] [] pos) (iZs K ta):=by
  subst hK;intro pins s σ H R I h;refine Call_ (CD I hg hm Nf (PyProof.Rows.callWith_type1 (thn (ha pos pins s σ H _ I h) λ us s1 ⟨vs,H1,I1,r1,q1⟩=> ?_) (by rw [hs,hs2]) (by rw [hs2];rfl)));obtain ⟨t1,t2,a,b,e,⟨xs,hq⟩,⟨ys,hq2⟩,q⟩:=q1;subst e;cases r1 with
  | cons r rr=>
    cases rr with
    | cons r' rr=>
    cases rr;cases r;cases r';obtain ⟨its,rv,pl⟩:=B8 I1 hq;obtain ⟨its2,rv2,pl2⟩:=B8 I1 hq2;obtain ⟨oa,_,ea,_⟩:=DW pl;obtain ⟨ob,_,eb,_⟩:=DW pl2;refine L3 pl pl2 λ h' st hk=> ?_;refine wpAny_pyIter_zip st.hz ?_;have I2:=I1.kept (t':=s1.toks) hk;refine ⟨s1.heap.objs.size+4,_,_,_,H1,rfl,I2,OU t1 t2 a b _ _ _ _ _ (PySem.W.ktu_apart s1.heap.objs.size a b (Heap.lt_size ea) (Heap.lt_size eb)),st,λ c hc=> ?_,q⟩;have hb':s1.heap.objs.size<=c:=by
      simp only [List.mem_cons,List.not_mem_nil,or_false] at hc;rcases hc with q | q | q | q | q <;> rw [q] <;> first | exact Nat.le_refl _ | exact Nat.le_add_right _ _
    exact I1.fpOk hb' (I1.hok.fresh hb')
end
section
variable {X:Cx} {K:PySem.W.Frag}
theorem AI:bootBuiltins "list"=some (.type "list"):=by decide +kernel
theorem BV:bootBuiltins "tuple"=some (.type "tuple"):=by decide +kernel
theorem LJ:bootBuiltins "min"=some (.builtin "min"):=by decide +kernel
theorem HM:bootBuiltins "max"=some (.builtin "max"):=by decide +kernel
theorem De:bootBuiltins "sorted"=some (.builtin "sorted"):=by decide +kernel
def N3 (K:PySem.W.Frag):List V->Hp->VK->Prop:=λ xs H Q=>∃ (x:V) (p:Addr) (ns:List String) (t:Value) (b:Bool),xs=[x, .ref p]/\H p=some (.tup (ns.map V.ty))/\TyOf K H x t/\PySem.W.kitAny K t (ns.map Value.type)=some b/\Q (.bl b) H
theorem Kk:∀ {ns:List String} {us:List Value},Vals (ns.map V.ty) us->us=ns.map Value.type
  | [],us,r=>by cases r;rfl
  | n::ns,us,r=>by
    cases r with
    | cons r1 r2=>
      cases r1;rw [Kk r2];rfl
theorem Ig (hK:X.K=K:=by rfl):A7 X (.builtin "isinstance") (N3 K):=by
  subst hK;intro pins s σ H xs us Q I r h;obtain ⟨x,p,ns,t,b,rfl,hp,ty,e,q⟩:=h;obtain ⟨u,c,rfl,rx,rc⟩:=KW r;cases rc;obtain ⟨_,its,rt,ot,e1,e2,nt,e3⟩:=(show ObjOk X.prog X.w H s.heap p (.tup (ns.map V.ty)) from I.hok p _ hp);have ei:=Kk rt;subst ei;have htp:s.heap.get? p=some ⟨.type "tuple",ot.dict, .seq (ns.map Value.type).toArray nt,ot.slots⟩:=by
    rw [e1];obtain ⟨c,d,da,sl⟩:=ot;simp only at e2 e3;rw [e2,e3]
  have fin:∀ tk,EP X pins σ Q (.bool b) { s with toks:=tk }:=λ tk=>⟨.bl b,H,I.tok tk,rfl,q⟩;cases ty with
  | non=>cases (show u=Value.none from rx);exact PySem.W.kia_tup PySem.W.kitx_none I.kIn True.intro htp e (λ z=>nomatch z) fin
  | bl y=>cases (show u=Value.bool y from rx);exact PySem.W.kia_tup PySem.W.kitx_bool I.kIn True.intro htp e (λ z=>nomatch z) fin
  | int i=>obtain ⟨t,q⟩:=(show ∃ t,u=Value.int i t from rx);cases q;exact PySem.W.kia_tup PySem.W.kitx_int I.kIn True.intro htp e (λ z=>nomatch z) fin
  | str y=>obtain ⟨t,q⟩:=(show ∃ t,u=Value.str y t from rx);cases q;exact PySem.W.kia_tup PySem.W.kitx_str I.kIn True.intro htp e (λ z=>nomatch z) fin
  | flt y=>obtain ⟨t,q⟩:=(show ∃ t,u=Value.float y t from rx);cases q;exact PySem.W.kia_tup PySem.W.kitx_float I.kIn True.intro htp e (λ z=>nomatch z) fin
  | @lst a xs ea=>
    cases (show u=Value.ref a from rx);obtain ⟨_,_,n,_,h1⟩:=(show ObjOk X.prog X.w H s.heap a (.lst xs) from I.hok a _ ea);exact PySem.W.kia_tup PySem.W.kitx_list I.kIn ⟨_,h1,rfl⟩ htp e (λ z=>nomatch z) fin
  | @frz a ob xs ea=>
    cases (show u=Value.ref a from rx);obtain ⟨_,_,_,n,_,h1⟩:=(show ObjOk X.prog X.w H s.heap a (.frz ob (.lst xs)) from I.hok a _ ea);exact PySem.W.kia_tup PySem.W.kitx_list I.kIn ⟨_,h1,rfl⟩ htp e (λ z=>nomatch z) fin
  | @tup a xs ea=>
    cases (show u=Value.ref a from rx);obtain ⟨_,_,_,p⟩:=(show ObjOk X.prog X.w H s.heap a (.tup xs) from I.hok a _ ea);obtain ⟨o,h1,h2,_⟩:=p;exact PySem.W.kia_tup PySem.W.kitx_tuple I.kIn ⟨o,h1,h2⟩ htp e (λ z=>nomatch z) fin
  | @dK a kvs ea=>
    cases (show u=Value.ref a from rx);obtain ⟨_,_,vs,_,p⟩:=(show ObjOk X.prog X.w H s.heap a (.dK kvs) from I.hok a _ ea);obtain ⟨o,es,ep,h1,h2,_⟩:=p;exact PySem.W.kia_tup PySem.W.kitx_dict I.kIn ⟨o,h1,h2.1⟩ htp e (λ z=>nomatch z) fin
  | @dT a kvs ea=>
    cases (show u=Value.ref a from rx);obtain ⟨_,_,xs,_,o,es,ep,h1,h2,_⟩:=(show ObjOk X.prog X.w H s.heap a (.dT kvs) from I.hok a _ ea);exact PySem.W.kia_tup PySem.W.kitx_dict I.kIn ⟨o,h1,h2.1⟩ htp e (λ z=>nomatch z) fin
  | @ins a C dx fs ea cl ha hn htk hm=>
    cases (show u=Value.ref a from rx);obtain ⟨mA,O,_⟩:=EX I.hok ea;obtain ⟨od,J,_⟩:=O.look;exact PySem.W.kia_tup (PySem.W.kitx_own (cl.get _) cl.hd ha hn htk hm) I.kIn J htp e (λ z=>nomatch z) fin
theorem Gz {es:List Expr} {k:Nat} {t:TGs} {n:Nat} {pos:Pos} (hc:X.calm=true) (h:PGs X es t) (hK:X.K=K:=by rfl)
    (hn:(assignEach es X.env).length=n:=by rfl) (hst:(assignEach es X.env).findIdx? (·.1)=none:=by rfl):PG X (.Tuple es k pos) (GE K n t):=by
  subst hK;exact M0 hc h hn hst
variable {scope:Scope} {fr:List (Str × Nat)}
theorem Ku {x y:Str} {px py pt:Pos} {k:Nat} (h:DE X.env.scope X.N scope [x,y] fr=true) (hc:X.calm=true) (C:Addr) (ex:List Addr) (s:Shared) (H:Hp) (hK:X.K=K:=by rfl):
    PG (AU X scope [x,y] fr C ex s H) (.Tuple [.Name x px, .Name y py] k pt) (GE K 2 (BE (AG 0) (BE (AG 1) G3))):=by
  subst hK;exact M0 (X:=AU X scope [x,y] fr C ex s H) hc (A3 (GJ h rfl C ex s H) (A3 (GJ h rfl C ex s H) DU))
theorem Gh {elt iter:Expr} {x y:Str} {px py pt:Pos} {k:Nat} {ifs:List Expr} {pos:Pos} {wi:TI} {tc:TT} {te:TE} (hi:PI X (.Tuple [.Name x px, .Name y py] k pt) iter wi)
    (ht:∀ C ex s H,PTs (AU X scope [x,y] (CM X.N scope) C ex s H) ifs tc) (he:∀ C ex s H,PE (AU X scope [x,y] (CM X.N scope) C ex s H) elt te) (hK:X.K=K:=by rfl)
    (hb:DE X.env.scope X.N scope [x,y] (CM X.N scope)=true:=by with_unfolding_all rfl) (hc:X.calm=true:=by rfl)
    (hs:∀ x,foldedSetIterable iter X.env x=pure x:=by intro _;rfl):PE X (.ListComp elt [⟨.Tuple [.Name x px, .Name y py] k pt,iter,ifs,0⟩] scope pos) (Ei wi [x,y] (CM X.N scope) (GE K 2 (BE (AG 0) (BE (AG 1) G3))) tc te):=
  Iw hc (.of hb) hi (λ C ex s H=>Ku hb hc C ex s H hK) ht he hs
theorem Je {i:Nat} {v x y:Str} {pv px py pt spos:Pos} {k:Nat} {elt iter:Expr} {ifs:List Expr} {pos:Pos} {wi:TI} {tc:TT} {te:TE} (hN:X.N.Nodup) (hix:X.N[i]?=some v) (hx:Loc X.env.scope v) (hi:PI X (.Tuple [.Name x px, .Name y py] k pt) iter wi)
    (ht:∀ C ex s H,PTs (AU X scope [x,y] (CM X.N scope) C ex s H) ifs tc) (he:∀ C ex s H,PE (AU X scope [x,y] (CM X.N scope) C ex s H) elt te) (hK:X.K=K:=by rfl)
    (hb:DE X.env.scope X.N scope [x,y] (CM X.N scope)=true:=by with_unfolding_all rfl) (hc:X.calm=true:=by rfl)
    (hsw:swapsWith (.ListComp elt [⟨.Tuple [.Name x px, .Name y py] k pt,iter,ifs,0⟩] scope pos) (some (.Name v pv)) spos.line X.env=pure true:=by rfl)
    (hf:X.fn v=true\/X.env.scope.names.lookup v=some .local:=by first | exact .inl rfl | exact .inr rfl | assumption)
    (hs:∀ x,foldedSetIterable iter X.env x=pure x:=by intro _;rfl):
    PS X (.Assign [.Name v pv] (.ListComp elt [⟨.Tuple [.Name x px, .Name y py] k pt,iter,ifs,0⟩] scope pos) spos) (Ln (Ei wi [x,y] (CM X.N scope) (GE K 2 (BE (AG 0) (BE (AG 1) G3))) tc te) (AG i)):=
  Lb hN hix hx hc (.of hb) hi (λ C ex s H=>Ku hb hc C ex s H hK) ht he hsw hf hs
end
section
variable {K:PySem.W.Frag} {D:Addr} {σ0:St} {tc:TT} {te:TE} {Q:VK} {H:Hp}
theorem Od {t1 t2:Bool} {a b:Addr} {xs zs:List V} (hlen:xs.length=zs.length) (Pv:Nat->List V->Hp->Prop) (h0:Pv 0 [] (upd H D (.lst [])))
    (hl:∀ i ys H,i<=xs.length->Pv i ys H->SqS t1 K H a xs/\SqS t2 K H b zs)
    (hs:∀ i x z ys H p,xs[i]?=some x->zs[i]?=some z->Pv i ys H->H p=none->Kp σ0 ((σ0.set 0 (some x)).set 1 (some z))/\tc ((σ0.set 0 (some x)).set 1 (some z)) (upd H p (.tup [x,z])) λ b H3=>
      if b=true then te ((σ0.set 0 (some x)).set 1 (some z)) H3 λ y H4=>H4 D=some (.lst ys)/\ys.length<sizeLine/\Pv (i+1) (ys++[y]) (upd H4 D (.lst (ys++[y]))) else Pv (i+1) ys H3)
    (hd:∀ ys H,Pv xs.length ys H->Q (.ref D) H):
    Eb (Izs t1 t2 K a b) σ0 (GE K 2 (BE (AG 0) (BE (AG 1) G3))) tc te Q H D:=by
  refine ⟨λ i m ys H=>m=xs.length - i/\i<=xs.length/\Pv i ys H,⟨_,rfl,Nat.zero_le _,h0⟩,?_⟩;rintro i m ys H ⟨rfl,hi,p⟩;obtain ⟨q1,q2⟩:=hl i ys H hi p;by_cases hlt:i<xs.length
  · refine .inr ⟨⟨xs,zs,xs[i],zs[i]'(by omega),q1,q2,by simp [hlt],by simp⟩,Pv (i+1),λ ys' H' p'=>⟨xs.length - (i+1),by omega,rfl,hlt,p'⟩,λ x H' y=> ?_⟩;obtain ⟨pp,v,z,hp,rfl,rfl,hv,hz⟩:=y;exact ⟨pp,_,rfl,SqT.of Ae,rfl,_,_,rfl,_,_,rfl,rfl,hs i v z ys H pp (hv xs q1) (hz zs q2) p hp⟩
  · have e:i=xs.length:=by omega
    subst e;exact .inl ⟨⟨xs,zs,q1,q2, .inl (Nat.le_refl _)⟩,hd ys H p⟩
end
inductive Dt where
  | non | bl (b:Bool) | int (i:Int) | str (z:Str) | lst (xs:List Dt) | tup (xs:List Dt)
inductive Rp (H:Hp) (F:Addr->Prop):Nat->V->Dt->Prop where
  | non {n:Nat}:Rp H F n .non .non
  | bl {n:Nat} (b:Bool):Rp H F n (.bl b) (.bl b)
  | int {n:Nat} (i:Int):Rp H F n (.int i) (.int i)
  | str {n:Nat} (z:Str):Rp H F n (.str z) (.str z)
  | lst {n:Nat} {a:Addr} {vs:List V} {ds:List Dt} (h:H a=some (.lst vs)) (f:F a) (b:vs.length<=100000) (l:vs.length=ds.length) (e:∀ (i:Nat) (v:V) (d:Dt),vs[i]?=some v->ds[i]?=some d->Rp H F n v d):Rp H F (n+1) (.ref a) (.lst ds)
  | tup {n:Nat} {a:Addr} {vs:List V} {ds:List Dt} (h:H a=some (.tup vs)) (b:vs.length<=100000) (l:vs.length=ds.length) (e:∀ (i:Nat) (v:V) (d:Dt),vs[i]?=some v->ds[i]?=some d->Rp H F n v d):Rp H F (n+1) (.ref a) (.tup ds)
theorem Rp.mono {H H':Hp} {F F':Addr->Prop} {n:Nat} {v:V} {d:Dt} (r:Rp H F n v d) (k:∀ a o,H a=some o->(∀ xs,o= .lst xs->F a)->H' a=some o) (f:∀ a,F a->F' a):Rp H' F' n v d:=by
  induction r with
  | non=>exact .non
  | bl b=>exact .bl b
  | int i=>exact .int i
  | str z=>exact .str z
  | lst h p b l e ih=>exact .lst (k _ _ h λ _ _=>p) (f _ p) b l λ i v d h1 h2=>ih i v d h1 h2
  | tup h b l e ih=>exact .tup (k _ _ h λ xs q=>by cases q) b l λ i v d h1 h2=>ih i v d h1 h2
theorem Rp.same {H H':Hp} {F:Addr->Prop} {n:Nat} {v:V} {d:Dt} (r:Rp H F n v d) (s:Same H H'):Rp H' F n v d:=r.mono (λ a o h _=>s a o h) λ _ h=>h
theorem Rp.imp {H:Hp} {F F':Addr->Prop} {n:Nat} {v:V} {d:Dt} (r:Rp H F n v d) (f:∀ a,F a->F' a):Rp H F' n v d:=r.mono (λ a o h _=>h) f
theorem Rp.up {H:Hp} {F:Addr->Prop} {n m:Nat} {v:V} {d:Dt} (r:Rp H F n v d) (h:n<=m):Rp H F m v d:=by
  induction r generalizing m with
  | non=>exact .non
  | bl b=>exact .bl b
  | int i=>exact .int i
  | str z=>exact .str z
  | lst h p b l e ih=>
    cases m with
    | zero=>exact absurd h (by omega)
    | succ m=>exact .lst ‹_› p b l λ i v d h1 h2=>ih i v d h1 h2 (by omega)
  | tup h b l e ih=>
    cases m with
    | zero=>exact absurd h (by omega)
    | succ m=>exact .tup ‹_› b l λ i v d h1 h2=>ih i v d h1 h2 (by omega)
abbrev FT:Addr->Prop:=λ _=>True
abbrev FN (H:Hp):Addr->Prop:=λ a=>H a=none
def PF (ns:List Int):Dt:= .lst (ns.map .int)
theorem K8 {H:Hp} {F:Addr->Prop} {n:Nat} {v:V} {ns:List Int} (r:Rp H F n v (PF ns)):∃ a,v= .ref a/\H a=some (.lst (ns.map V.int))/\F a:=by
  unfold PF at r;cases r with
  | @lst n a vs _ h f b l e=>
    refine ⟨a,rfl,?_,f⟩;rw [h];congr 2;refine List.ext_getElem (by simpa using l) λ i h1 h2=> ?_;have h2':i<ns.length:=by simpa using h2
    have:=e i vs[i] (.int ns[i]) (by simp [h1]) (by simp [h2']);cases hv:vs[i] <;> rw [hv] at this <;> cases this;simp
section
variable {t u:TS} {D:Ends} {σ:St} {H:Hp} {te ta tb tk:TE} {tt tu:TT} {g:TG} {Q:VK} {QT:Bool->Hp->Prop} {QA:List V->Hp->Prop} {i:Nat} {v x y:V} {r:R2} {tr:TA} {K:PySem.W.Frag}
theorem Q1 (h:t { D with nx:=u D } σ H):Ss t u D σ H:=h
theorem O1 (h:D.nx σ H):Mm D σ H:=h
theorem QN (h:te σ H λ x H1=>g x σ H1 D.nx):Ln te g D σ H:=h
theorem Om {QS:St->Hp->Prop} (h:QS (σ.set i (some v)) H):AG i v σ H QS:=h
theorem QC (e:σ[i]?=some (some v)) (h:Q v H):MR i σ H Q:=⟨v,e,h⟩
theorem Wz (h:Q v H):tC v σ H Q:=h
theorem Sg (h:ta σ H λ x H1=>tb σ H1 λ y H2=>r x y H2 Q):tOp r ta tb σ H Q:=h
theorem SO {ru:V->Hp->VK->Prop} (h:ta σ H λ x H1=>ru x H1 Q):tUn ru ta σ H Q:=h
theorem An {C:Int->Int->Prop} {gg:Int->Int->V} {a b:Int} (c:C a b) (h:Q (gg a b) H):rI C gg (.int a) (.int b) H Q:=⟨a,b,rfl,rfl,c,h⟩
theorem QK {gg:Int->Int->V} {a b:Int} (h:Q (gg a b) H):rI0 gg (.int a) (.int b) H Q:=⟨a,b,rfl,rfl,h⟩
theorem Vl {gg:Int->V} {a:Int} (h:Q (gg a) H):rU gg (.int a) H Q:=⟨a,rfl,h⟩
theorem Qq {a b:Int} (h:Q (.bl (decide (a=b))) H):rEq (.int a) (.int b) H Q:=⟨rfl,by rw [show decide (V.int a=V.int b)=decide (a=b) by rw [Bool.eq_iff_iff];simp];exact h⟩
theorem Rs {a b:Int} (h:Q (.bl (!decide (a=b))) H):rNe (.int a) (.int b) H Q:=⟨rfl,by rw [show decide (V.int a=V.int b)=decide (a=b) by rw [Bool.eq_iff_iff];simp];exact h⟩
theorem QX {a b:Str} (h:Q (.bl (decide (a=b))) H):rEq (.str a) (.str b) H Q:=⟨rfl,by rw [show decide (V.str a=V.str b)=decide (a=b) by rw [Bool.eq_iff_iff];simp];exact h⟩
theorem Q3 {a b:Bool} (h:Q (.bl (decide (a=b))) H):rEq (.bl a) (.bl b) H Q:=⟨rfl,by rw [show decide (V.bl a=V.bl b)=decide (a=b) by rw [Bool.eq_iff_iff];simp];exact h⟩
theorem RX {a b:Bool} (h:Q (.bl (!decide (a=b))) H):rNe (.bl a) (.bl b) H Q:=⟨rfl,by rw [show decide (V.bl a=V.bl b)=decide (a=b) by rw [Bool.eq_iff_iff];simp];exact h⟩
theorem Ra (h:tt σ H λ c H1=>QT (!c) H1):UK tt σ H QT:=h
theorem Pe (h:te σ H λ x H'=>∃ k,x= .bl k/\QT k H'):P0 te σ H QT:=h
theorem We (h:te σ H λ x H'=>∃ k,x= .bl k/\QT k H'):tB te σ H QT:=h
theorem VT {b:Bool} {R:Bool->Prop} (h:R b):∃ k,V.bl b= .bl k/\R k:=⟨b,rfl,h⟩
theorem Tm (h:tt σ H λ c H1=>if c=true then QT true H1 else tu σ H1 QT):tOr tt tu σ H QT:=h
theorem QF (h:tt σ H λ c H1=>if c=true then tu σ H1 QT else QT false H1):Vd tt tu σ H QT:=h
theorem Oh (h:ta σ H λ x H1=>∃ c,x= .bl c/\if c=true then tb σ H1 Q else Q (.bl false) H1):PY ta tb σ H Q:=h
theorem O4 (h:ta σ H λ x H1=>∃ c,x= .bl c/\Q (.bl (!c)) H1):P8 ta σ H Q:=h
theorem Qy (h:tt σ H λ b H1=>if b=true then t D σ H1 else u D σ H1):Qc tt t u D σ H:=h
theorem Vp (h:tt σ H λ c H1=>if c=true then ta σ H1 Q else tb σ H1 Q):tIf tt ta tb σ H Q:=h
theorem Rl (h:te σ H D.rt):Tn te D σ H:=h
theorem Oc (h:te σ H λ _ H1=>D.nx σ H1):Nx te D σ H:=h
theorem RF (h:QA [] H):Ll σ H QA:=h
theorem Pd (h:te σ H λ x H1=>tr σ H1 λ xs H2=>QA (x::xs) H2):IZ te tr σ H QA:=h
theorem Rj (h:tr σ H λ xs H1=>xs.length<=sizeLine/\∀ p,H1 p=none->Q (.ref p) (upd H1 p (.lst xs))):VN tr σ H Q:=h
theorem Rz (h:tr σ H λ xs H1=>xs.length<=sizeLine/\∀ p,H1 p=none->Q (.ref p) (upd H1 p (.tup xs))):Tq tr σ H Q:=h
theorem T8 {rr:List V->Hp->VK->Prop} (h:tr σ H λ vs H1=>rr vs H1 Q):tCB rr tr σ H Q:=h
theorem Of {sp:Sp} {E:XK} (h:tr σ H λ vs H1=>sp vs H1 Q E):Ks sp [] E tr σ H Q:=by
  unfold Ks;simpa using h
theorem V2 {rs:V->Option Int->Option Int->Hp->VK->Prop} {tl th:TO} (h:te σ H λ x H1=>tl σ H1 λ l H2=>th σ H2 λ u H3=>rs x l u H3 Q):tSl rs te tl th σ H Q:=h
theorem OE {QO:Option Int->Hp->Prop} (h:te σ H λ x H1=>∃ i,x= .int i/\QO (some i) H1):PK te σ H QO:=h
theorem LV {QO:Option Int->Hp->Prop} (h:QO none H):Km σ H QO:=h
theorem Rn {a:Int} {R:Int->Prop} (h:R a):∃ k,V.int a= .int k/\R k:=⟨a,rfl,h⟩
theorem Nz {p:Addr} {xs:List V} {lo hi:Option Int} (c:SqL K H p xs) (h:∀ q,H q=none->Q (.ref q) (upd H q (.lst (Gi xs lo hi)))):QW K (.ref p) lo hi H Q:=⟨p,xs,rfl,c,h⟩
theorem AD {p:Addr} {xs:List V} (c:SqL K H p xs) (h:Q (.int xs.length) H):O6 K [.ref p] H Q:=⟨_,_,rfl, .inl ⟨xs,c,rfl⟩,h⟩
theorem HY {p:Addr} {xs:List V} (c:SqT K H p xs) (h:Q (.int xs.length) H):O6 K [.ref p] H Q:=⟨_,_,rfl, .inr ⟨xs,c,rfl⟩,h⟩
theorem Nh {p:Addr} {ns:List Int} (c:SqL K H p (ns.map V.int)) (h:Q (.int ns.sum) H):VP K [.ref p] H Q:=⟨p,ns,rfl,c,h⟩
theorem Nt {p:Addr} {bs:List Bool} (c:SqL K H p (bs.map V.bl)) (h:Q (.bl (bs.all id)) H):TB K [.ref p] H Q:=⟨p,bs,rfl,c,h⟩
theorem By {n:String} {ty:Value} {b:Bool} (c:TyOf K H x ty) (e:PySem.W.kitOne K ty (.type n)=some b) (h:Q (.bl b) H):Mt K [x, .ty n] H Q:=⟨x,n,ty,b,rfl,c,e,h⟩
theorem AN {p:Addr} {xs:List V} {k:Int} (c:SqL K H p xs) (e:atI xs k=some v) (h:Q v H):Qe K (.ref p) (.int k) H Q:=⟨p,xs,k,v,rfl,rfl,c,e,h⟩
theorem AS {p:Addr} {xs:List V} {k:Int} (c:SqT K H p xs) (e:atI xs k=some v) (h:Q v H):RO K (.ref p) (.int k) H Q:=⟨p,xs,k,v,rfl,rfl,c,e,h⟩
theorem Qv {xs:List V} {B:Prop} (c:xs.length<=1000) (h:B):xs.length<=sizeLine/\B:=⟨Nat.le_trans c (by decide),h⟩
end
theorem Ev {p A B:Prop} [Decidable p] (h1:p->A) (h2:¬ p->B):if decide p=true then A else B:=by
  by_cases h:p
  · rw [if_pos (decide_eq_true h)];exact h1 h
  · rw [if_neg (λ q=>h (of_decide_eq_true q))];exact h2 h
theorem Mu {p A B:Prop} [Decidable p] (h1:¬ p->A) (h2:p->B):if (!decide p)=true then A else B:=by
  by_cases h:p
  · rw [decide_eq_true h];exact J6 (h2 h)
  · rw [decide_eq_false h];exact Kb (h1 h)
theorem Wu {b:Bool} {A B:Prop} (h1:b=true->A) (h2:b=false->B):if b=true then A else B:=by
  cases b with
  | true=>exact Kb (h1 rfl)
  | false=>exact J6 (h2 rfl)
def tyD:Dt->String | .non=>"NoneType" | .bl _=>"bool" | .int _=>"int" | .str _=>"str" | .lst _=>"list" | .tup _=>"tuple"
def Cn:Dt->Bool | .lst _=>true | _=>false
def B3:Dt->Bool | .tup _=>true | _=>false
def Wo:Dt->Bool | .bl _=>true | _=>false
theorem Rp.ty {K:PySem.W.Frag} {H:Hp} {F:Addr->Prop} {n:Nat} {v:V} {d:Dt} (r:Rp H F n v d):TyOf K H v (.type (tyD d)):=by
  cases r with
  | non=>exact .non
  | bl b=>exact .bl b
  | int i=>exact .int i
  | str z=>exact .str z
  | lst h _ _ _ _=>exact .lst h
  | tup h _ _ _=>exact .tup h
theorem Mb:C4 "NoneType" "list"=some false/\C4 "bool" "list"=some false/\C4 "int" "list"=some false/\C4 "str" "list"=some false/\C4 "list" "list"=some true/\C4 "tuple" "list"=some false:=by decide +kernel
theorem Dd {K:PySem.W.Frag} (d:Dt):PySem.W.kitOne K (.type (tyD d)) (.type "list")=some (Cn d):=by
  obtain ⟨h1,h2,h3,h4,h5,h6⟩:=Mb;cases d with
  | non=>exact kb h1
  | bl _=>exact kb h2
  | int _=>exact kb h3
  | str _=>exact kb h4
  | lst _=>exact kb h5
  | tup _=>exact kb h6
theorem JM:C4 "NoneType" "tuple"=some false/\C4 "bool" "tuple"=some false/\C4 "int" "tuple"=some false/\C4 "str" "tuple"=some false/\C4 "list" "tuple"=some false/\C4 "tuple" "tuple"=some true:=by decide +kernel
theorem Mw {K:PySem.W.Frag} (d:Dt):PySem.W.kitOne K (.type (tyD d)) (.type "tuple")=some (B3 d):=by
  obtain ⟨h1,h2,h3,h4,h5,h6⟩:=JM;cases d with
  | non=>exact kb h1
  | bl _=>exact kb h2
  | int _=>exact kb h3
  | str _=>exact kb h4
  | lst _=>exact kb h5
  | tup _=>exact kb h6
theorem LI:C4 "NoneType" "bool"=some false/\C4 "bool" "bool"=some true/\C4 "int" "bool"=some false/\C4 "str" "bool"=some false/\C4 "list" "bool"=some false/\C4 "tuple" "bool"=some false:=by decide +kernel
theorem Kq {K:PySem.W.Frag} (d:Dt):PySem.W.kitOne K (.type (tyD d)) (.type "bool")=some (Wo d):=by
  obtain ⟨h1,h2,h3,h4,h5,h6⟩:=LI;cases d with
  | non=>exact kb h1
  | bl _=>exact kb h2
  | int _=>exact kb h3
  | str _=>exact kb h4
  | lst _=>exact kb h5
  | tup _=>exact kb h6
theorem GF {K:PySem.W.Frag} {H:Hp} {Q:VK} {x:V} {p:Addr} {ns:List String} {t:Value} {b:Bool} (hp:H p=some (.tup (ns.map V.ty))) (c:TyOf K H x t) (e:PySem.W.kitAny K t (ns.map Value.type)=some b) (h:Q (.bl b) H):N3 K [x, .ref p] H Q:=⟨x,p,ns,t,b,rfl,hp,c,e,h⟩
def CW:Dt->List Dt | .lst ds=>ds | .tup ds=>ds | _=>[]
theorem Rp.seq {K:PySem.W.Frag} {H:Hp} {F:Addr->Prop} {n:Nat} {v:V} {d:Dt} (r:Rp H F n v d) (h:(Cn d||B3 d)=true):
    ∃ m a vs,n=m+1/\v= .ref a/\SqS (B3 d) K H a vs/\vs.length=(CW d).length/\vs.length<=100000/\∀ (i:Nat) (x:V) (e:Dt),vs[i]?=some x->(CW d)[i]?=some e->Rp H F m x e:=by
  cases r with
  | @lst m a vs ds q f b l e=>exact ⟨m,a,vs,rfl,rfl,(show SqL K H a vs from SqL.of q),l,b,e⟩
  | @tup m a vs ds q b l e=>exact ⟨m,a,vs,rfl,rfl,(show SqT K H a vs from SqT.of q),l,b,e⟩
  | non=>cases h
  | bl _=>cases h
  | int _=>cases h
  | str _=>cases h
theorem KI {K:PySem.W.Frag} {H:Hp} {Q:VK} {tp:Bool} {p:Addr} {xs:List V} (c:SqS tp K H p xs) (h:Q (.int xs.length) H):O6 K [.ref p] H Q:=by
  cases tp with
  | false=>exact AD c h
  | true=>exact HY c h
theorem SqS.same {K:PySem.W.Frag} {H H':Hp} {tp:Bool} {p:Addr} {xs:List V} (c:SqS tp K H p xs) (s:Same H H'):SqS tp K H' p xs:=by
  cases tp with
  | false=>exact (show SqL K H' p xs from s.seq c)
  | true=>
    rcases (show SqT K H p xs from c) with (q | ⟨o,q⟩) | q
    · exact (show SqT K H' p xs from .inl (.inl (s _ _ q)))
    · exact (show SqT K H' p xs from .inl (.inr ⟨o,s _ _ q⟩))
    · exact (show SqT K H' p xs from .inr q)
theorem Aj {H:Hp} {p:Addr} {o:HO} (h:H p=none):Same H (upd H p o):=λ b u e=>by rw [Am (Au e h)];exact e
theorem AQ {H H':Hp} {D:Addr} {o:HO} (s:Same H H') (h:H D=none):Same H (upd H' D o):=λ b u e=>by rw [Am (Au e h)];exact s b u e
theorem L1 {v:V} {d:Dt} {H:Hp} {F:Addr->Prop} {n:Nat} (r:Rp H F n v d) (h:(Cn d||B3 d)=false):Q0 v v=true:=by
  cases r with
  | non=>rfl
  | bl _=>rfl
  | int _=>rfl
  | str _=>rfl
  | lst _ _ _ _ _=>cases h
  | tup _ _ _ _=>cases h
theorem Os {v u:V} {d:Dt} {H:Hp} {F:Addr->Prop} {n:Nat} (r:Rp H F n v d) (r2:Rp H F n u d) (h:(Cn d||B3 d)=false):v=u:=by
  cases r with
  | non=>cases r2;rfl
  | bl _=>cases r2;rfl
  | int _=>cases r2;rfl
  | str _=>cases r2;rfl
  | lst _ _ _ _ _=>cases h
  | tup _ _ _ _=>cases h
structure SrcOk (J:It) (g:TG) (σ0:St) (H:Hp) (n:Nat) (st:Nat->St):Prop where
  go:∀ i H',i<n->Same H H'->J.go i H'
  stop:∀ H',Same H H'->J.stop n H'
  yld:∀ i H' x H'' (R:St->Hp->Prop),i<n->Same H H'->J.yld i H' x H''->(∀ H3,Same H' H3->R (st i) H3)->g x σ0 H'' R
  kp:∀ i,i<n->Kp σ0 (st i)
section
variable {J:It} {g:TG} {σ0:St} {H:Hp} {n:Nat} {st:Nat->St} {tc:TT} {te:TE} {Q:VK} {D:Addr}
theorem Rp.off {H:Hp} {F:Addr->Prop} {m:Nat} {v:V} {d:Dt} {D:Addr} {xs:List V} {o:HO} (r:Rp H F m v d) (hD:H D=some (.lst xs)) (hF:¬ F D):Rp (L2.upd H D o) F m v d:=by
  refine r.mono (λ a u e q=> ?_) λ _ h=>h;have n:a≠D:=λ z=>by
    subst z;rw [hD] at e;cases e;exact hF (q _ rfl)
  rw [Am n];exact e
theorem B9 {m:Nat} {p:Nat->Bool} {G:Nat->Dt} (S:SrcOk J g σ0 H n st) (hD:H D=none) (hn:n<=100000)
    (ht:∀ i H' (R:Bool->Hp->Prop),i<n->Same H H'->(∀ H3,Same H' H3->R (p i) H3)->tc (st i) H' R)
    (he:∀ i H' (R:VK),i<n->p i=true->Same H H'->(∀ H3 y,Same H' H3->Rp H3 (FN H') m y (G i)->R y H3)->te (st i) H' R)
    (hd:∀ H' ys,Same H H'->H' D=some (.lst ys)->Rp H' (FN H) (m+1) (.ref D) (.lst (((List.range n).filter p).map G))->Q (.ref D) H'):
    Eb J σ0 g tc te Q H D:=by
  refine ⟨λ i k ys H'=>k=n - i/\i<=n/\Same H H'/\H' D=some (.lst ys)/\ys.length=(((List.range i).filter p).map G).length/\∀ (j:Nat) (y:V) (d:Dt),ys[j]?=some y->(((List.range i).filter p).map G)[j]?=some d->Rp H' (λ a=>H a=none/\a≠D) m y d,
    ⟨_,rfl,Nat.zero_le _,AQ (Same.refl _) hD,Ae,rfl,λ j y d q=>by simp at q⟩,?_⟩
  rintro i k ys H1 ⟨rfl,hi,s1,hl,len,el⟩;have bnd:∀ i,(((List.range i).filter p).map G).length<=i:=λ i=>by
    rw [List.length_map];exact Nat.le_trans (List.length_filter_le _ _) (by simp)
  by_cases hlt:i<n
  · refine .inr ⟨S.go i H1 hlt s1,λ ys' H'=>Same H H'/\H' D=some (.lst ys')/\ys'.length=(((List.range (i+1)).filter p).map G).length/\∀ (j:Nat) (y:V) (d:Dt),ys'[j]?=some y->(((List.range (i+1)).filter p).map G)[j]?=some d->Rp H' (λ a=>H a=none/\a≠D) m y d,
      λ ys' H' q=>⟨n - (i+1),by omega,rfl,hlt,q⟩,λ x H2 y=> ?_⟩
    refine S.yld i H1 x H2 _ hlt s1 y λ H3 s3=>⟨S.kp i hlt,?_⟩;refine ht i H3 _ hlt (s1.trans s3) λ H4 s4=> ?_;have hl4:H4 D=some (.lst ys):=s4 _ _ (s3 _ _ hl);have s14:Same H H4:=s1.trans (s3.trans s4);cases hp:p i with
    | false=>
      refine J6 ⟨s14,hl4,?_,?_⟩
      · rw [List.range_succ,List.filter_append,List.filter_cons,hp];simpa using len
      · intro j y d h1 h2;have e:((List.range (i+1)).filter p).map G=((List.range i).filter p).map G:=by
          rw [List.range_succ,List.filter_append,List.filter_cons,hp];simp
        rw [e] at h2;exact (el j y d h1 h2).same (s3.trans s4)
    | true=>
      refine Kb ?_;refine he i H4 _ hlt hp s14 λ H5 y s5 ry=> ?_;have hl5:H5 D=some (.lst ys):=s5 _ _ hl4;have e:((List.range (i+1)).filter p).map G=((List.range i).filter p).map G++[G i]:=by
        rw [List.range_succ,List.filter_append,List.filter_cons,hp];simp
      refine ⟨hl5,?_,?_,Ae,?_,?_⟩
      · have:=bnd i;exact Nat.lt_of_le_of_lt (by omega:ys.length<=100000) (by decide)
      · exact AQ (s14.trans s5) hD
      · rw [e,List.length_append,List.length_append,len];rfl
      · intro j z d h1 h2;rw [e] at h2;have nF:¬ (H D=none/\D≠D):=λ q=>q.2 rfl;by_cases hj:j<ys.length
        · rw [List.getElem?_append_left hj] at h1;rw [List.getElem?_append_left (by omega)] at h2;exact ((el j z d h1 h2).same (s3.trans (s4.trans s5))).off hl5 nF
        · have ej:j=ys.length:=by
            have:=(List.getElem?_eq_some_iff.mp h1).1;rw [List.length_append] at this;have:([y]:List V).length=1:=rfl;omega
          subst ej;rw [List.getElem?_append_right (Nat.le_refl _),Nat.sub_self] at h1;rw [len,List.getElem?_append_right (Nat.le_refl _),Nat.sub_self] at h2;cases h1;cases h2;refine (ry.imp (F':=λ a=>H a=none/\a≠D) λ a ha=>⟨s14.free ha,λ q=> ?_⟩).off hl5 nF;subst q;rw [show H4 a=none from ha] at hl4;cases hl4
  · have e:i=n:=by omega
    subst e;refine .inl ⟨S.stop H1 s1,hd H1 ys s1 hl (.lst hl hD ?_ len λ j y d h1 h2=>(el j y d h1 h2).imp λ a q=>q.1)⟩;have:=bnd i;omega
theorem Cf {m:Nat} {G:Nat->Dt} (S:SrcOk J g σ0 H n st) (hD:H D=none) (hn:n<=100000)
    (he:∀ i H' (R:VK),i<n->Same H H'->(∀ H3 y,Same H' H3->Rp H3 (FN H') m y (G i)->R y H3)->te (st i) H' R)
    (hd:∀ H' ys,Same H H'->H' D=some (.lst ys)->Rp H' (FN H) (m+1) (.ref D) (.lst ((List.range n).map G))->Q (.ref D) H'):
    Eb J σ0 g Mi te Q H D:=by
  refine B9 (p:=λ _=>true) (m:=m) (G:=G) S hD hn (λ i H' R _ _ k=>k H' (Same.refl _)) (λ i H' R hi _ s k=>he i H' R hi s k) λ H' ys s hl r=>hd H' ys s hl ?_;have e:(List.range n).filter (λ _=>true)=List.range n:=by simp
  rw [e] at r;exact r
variable {K:PySem.W.Frag} {a b:Addr} {xs zs:List V}
theorem BW (h:SqL K H a xs) (h0:σ0[0]?=some none):SrcOk (Itl K a) (AG 0) σ0 H xs.length (λ i=>σ0.set 0 (some (xs.getD i .non))) where
  go:=λ i H' hi s=>⟨xs,xs[i],s.seq h,by simp [hi]⟩
  stop:=λ H' s=>⟨xs,s.seq h,Nat.le_refl _⟩
  yld:=λ i H' x H'' R hi s y k=>by
    obtain ⟨e,hv⟩:=y;subst e;have e:x=xs.getD i .non:=by
      have:=hv xs (s.seq h);rw [List.getD_eq_getElem?_getD,this];rfl
    subst e;exact k _ (Same.refl _)
  kp:=λ i hi=>(Kp.refl _).set h0
theorem K2 (h:SqT K H a xs) (h0:σ0[0]?=some none):SrcOk (Itt K a) (AG 0) σ0 H xs.length (λ i=>σ0.set 0 (some (xs.getD i .non))) where
  go:=λ i H' hi s=>⟨xs,xs[i],(SqS.same (tp:=true) h s),by simp [hi]⟩
  stop:=λ H' s=>⟨xs,(SqS.same (tp:=true) h s),Nat.le_refl _⟩
  yld:=λ i H' x H'' R hi s y k=>by
    obtain ⟨e,hv⟩:=y;subst e;have e:x=xs.getD i .non:=by
      have:=hv xs (SqS.same (tp:=true) h s);rw [List.getD_eq_getElem?_getD,this];rfl
    subst e;exact k _ (Same.refl _)
  kp:=λ i hi=>(Kp.refl _).set h0
theorem HE {lo:Int} {n:Nat} (h0:σ0[0]?=some none):SrcOk (Itr lo n) (AG 0) σ0 H n (λ i=>σ0.set 0 (some (.int (lo+i)))) where
  go:=λ i H' hi s=>hi
  stop:=λ H' s=>Nat.le_refl _
  yld:=λ i H' x H'' R hi s y k=>by
    obtain ⟨e,hv⟩:=y;subst e hv;exact k _ (Same.refl _)
  kp:=λ i hi=>(Kp.refl _).set h0
theorem F5 (h:SqL K H a xs) (h0:σ0[0]?=some none) (h1:σ0[1]?=some none):SrcOk (Ite K a) (GE K 2 (BE (AG 0) (BE (AG 1) G3))) σ0 H xs.length (λ i=>(σ0.set 0 (some (.int i))).set 1 (some (xs.getD i .non))) where
  go:=λ i H' hi s=>⟨xs,xs[i],s.seq h,by simp [hi]⟩
  stop:=λ H' s=>⟨xs,s.seq h,Nat.le_refl _⟩
  yld:=λ i H' x H'' R hi s y k=>by
    obtain ⟨p,v,hp,rfl,rfl,hv⟩:=y;have e:v=xs.getD i .non:=by
      have:=hv xs (s.seq h);rw [List.getD_eq_getElem?_getD,this];rfl
    subst e;exact ⟨p,_,rfl,SqT.of Ae,rfl,_,_,rfl,_,_,rfl,rfl,k _ (Aj hp)⟩
  kp:=λ i hi=>((Kp.refl _).set h0).set h1
end
theorem AK {α β:Type} (f:α->β) (xs:List α) (d:α):(List.range xs.length).map (λ i=>f (xs.getD i d))=xs.map f:=by
  refine List.ext_getElem (by simp) λ i h1 h2=> ?_;have hi:i<xs.length:=by simpa using h2
  simp [List.getD_eq_getElem?_getD,hi]
section
variable {X:Cx} {tg:Expr}
def S5:List V->Hp->VK->Prop:=λ xs H Q=>∃ b:Bool,xs=[.bl b]/\Q (.int (if b=true then 1 else 0)) H
end
theorem Ql {X:Cx}:A7 X (.type "int") S5:=by
  intro pins s σ H xs us Q I r h;obtain ⟨b,rfl,q⟩:=h;exact LM pins s σ H _ us Q I r (.inr ⟨b,rfl,q⟩)
def PZ (K:PySem.W.Frag):R2:=λ x y H Q=>∃ a xs,x= .ref a/\y= .int (-1)/\SqL K H a xs/\∀ p,H p=none->Q (.ref p) (upd H p (.lst xs.reverse))
section
variable {X:Cx} {K:PySem.W.Frag} {e st:Expr} {te ts:TE} {pos p2:Pos}
theorem Qp (he:PE X e te) (hst:PE X st ts) (hK:X.K=K:=by rfl):PE X (.Subscript e (.Slice none none (some st) p2) pos) (tOp (PZ K) te ts):=by
  subst hK;intro pins s σ H Q I h;refine Subscript_ (thn (he pins s σ H _ I h) λ v s1 ⟨x,H1,I1,r1,q1⟩=> ?_);refine wpAny_Slice ?_;rw [evalPart_none];refine wpAny_pure (wpAny_pure ?_);rw [evalPart_some];refine thn (hst pins s1 σ H1 _ I1 q1) λ u s2 ⟨y,H2,I2,r2,q2⟩=> ?_;obtain ⟨a,xs,rfl,rfl,hx,q⟩:=q2;obtain ⟨t,rfl⟩:=r2;cases r1;have I3:Inv X pins σ H2 { s2 with heap:=s2.heap.push { cls:= .type "slice",data:= .fields #[.none, .none, .int (-1) t] } }:=I2.kept (t':=s2.toks) λ b ob q=>Heap.get?_push_of_some _ q;obtain ⟨its,r,ht,hz⟩:=I3.list hx;have hlen:=r.length;show wpAny (model X.prog X.w) X.A (subscriptTail e (.Slice none none (some st) p2) (.ref a) (.ref s2.heap.objs.size)) (EP X pins σ Q) X.xe { s2 with heap:=s2.heap.push { cls:= .type "slice",data:= .fields #[.none, .none, .int (-1) t] } };refine tail_any (ops:=[.ref a, .ref s2.heap.objs.size]) ht.isList.typeIs slot_list_getitem.lookup ?_ (by with_unfolding_all rfl);refine wpAny_getItem_list_slice (lo:=none) (hi:=none) (st:=some (-1)) ht.isList (Heap.IsSliceOf.new ..) .none .none (.int (-1) t) (by decide) ?_ (by rw [List.size_toArray] <;> omega);rw [PySem.W.krv_pick];refine ⟨.ref _,_,I3.laid (t':=s2.toks) (o:= .lst xs.reverse) (λ b ob q=>Heap.get?_push_of_some _ q) (Nat.le_refl _) ?_,rfl,q _ (I3.hok.fresh (Nat.le_refl _))⟩;exact ⟨by rw [List.length_reverse];exact hz,_,0,r.reverse,Heap.get?_push_size _ rfl⟩
theorem RN {p:Addr} {xs:List V} {H:Hp} {Q:VK} (c:SqL K H p xs) (h:∀ q,H q=none->Q (.ref q) (upd H q (.lst xs.reverse))):PZ K (.ref p) (.int (-1)) H Q:=⟨p,xs,rfl,rfl,c,h⟩
end
end L2
namespace MM
theorem snoc_ind {α:Type} {p:List α->Prop} (h0:p []) (h1:∀ l a,p l->p (l++[a])):∀ l,p l:=λ l=>by
  have h:∀ r:List α,p r.reverse:=λ r=>by
    induction r with
    | nil=>exact h0
    | cons a r ih=>rw [List.reverse_cons];exact h1 _ _ ih
  have:=h l.reverse
  rwa [List.reverse_reverse] at this
theorem or_add_and (a:Nat):∀ b:Nat,(a ||| b)+(a &&& b)=a+b:=by
  induction a using Nat.strongRecOn with
  | ind a ih=>
    intro b;by_cases h:a=0
    · subst h;simp
    · have ih':=ih (a / 2) (by omega) (b / 2);have e1:(a ||| b)=2*((a ||| b) / 2)+(a ||| b)%2:=by omega
      have e2:(a &&& b)=2*((a &&& b) / 2)+(a &&& b)%2:=by omega
      have d1:(a ||| b) / 2=a / 2 ||| b / 2:=by simpa using Nat.or_div_two (a:=a) (b:=b)
      have d2:(a &&& b) / 2=a / 2 &&& b / 2:=by simpa using Nat.and_div_two (a:=a) (b:=b)
      have m1:(a ||| b)%2+(a &&& b)%2=a%2+b%2:=by
        have z:∀ x:Nat,x%2=(x.testBit 0).toNat:=λ x=>by rw [Nat.toNat_testBit];simp
        rw [z (a ||| b),z (a &&& b),z a,z b,Nat.testBit_or,Nat.testBit_and];cases a.testBit 0 <;> cases b.testBit 0 <;> rfl
      rw [d1] at e1;rw [d2] at e2;omega
theorem xor_eq (a b:Nat):(a ^^^ b)+(a &&& b)=(a ||| b):=by
  have h1:=or_add_and (a ^^^ b) (a &&& b);have e1:((a ^^^ b) ||| (a &&& b))=(a ||| b):=by
    refine Nat.eq_of_testBit_eq λ i=> ?_;simp only [Nat.testBit_or,Nat.testBit_xor,Nat.testBit_and];cases a.testBit i <;> cases b.testBit i <;> rfl
  have e2:((a ^^^ b) &&& (a &&& b))=0:=by
    refine Nat.eq_of_testBit_eq λ i=> ?_;simp only [Nat.testBit_and,Nat.testBit_xor,Nat.zero_testBit];cases a.testBit i <;> cases b.testBit i <;> rfl
  rw [e1,e2] at h1;omega
def ofB (f:Nat->Bool):Nat->Nat
  | 0=>0
  | w+1=>ofB f w+(f w).toNat*2 ^ w
theorem ofB_lt (f:Nat->Bool):∀ w,ofB f w<2 ^ w
  | 0=>by simp [ofB]
  | w+1=>by
    have:=ofB_lt f w;unfold ofB;rw [Nat.pow_succ];cases f w <;> simp <;> omega
theorem ofB_bit (f:Nat->Bool):∀ w i,(ofB f w).testBit i=(decide (i<w)&&f i)
  | 0,i=>by simp [ofB]
  | w+1,i=>by
    have hl:=ofB_lt f w;unfold ofB;have e:ofB f w+(f w).toNat*2 ^ w=2 ^ w*(f w).toNat+ofB f w:=by rw [Nat.mul_comm];omega
    rw [e,Nat.testBit_two_pow_mul_add _ hl];by_cases h:i<w
    · rw [if_pos h,ofB_bit f w i];simp [h,Nat.lt_succ_of_lt h]
    · rw [if_neg h];by_cases h2:i=w
      · subst h2;cases f i <;> simp
      · have h3:¬ i<w+1:=by omega
        have h4:i - w≠0:=by omega
        have h5:(1:Nat).testBit (i - w)=false:=by
          obtain ⟨d,hd⟩:∃ d,i - w=d+1:=⟨i - w - 1,by omega⟩;rw [hd,Nat.testBit_succ];simp
        cases f w
        · simp [h3]
        · simp only [Bool.toNat_true,h5,h3,decide_false,Bool.false_and]
theorem MD (m w:Nat) (h:m<2 ^ w):ofB m.testBit w=m:=by
  refine Nat.eq_of_testBit_eq λ i=> ?_;rw [ofB_bit];by_cases hi:i<w
  · simp [hi]
  · have:m.testBit i=false:=Nat.testBit_lt_two_pow (Nat.lt_of_lt_of_le h (Nat.pow_le_pow_right (by decide) (by omega)));simp [hi,this]
theorem Lw {f g:Nat->Bool} {w:Nat} (h:∀ i,i<w->f i=g i):ofB f w=ofB g w:=by
  refine Nat.eq_of_testBit_eq λ i=> ?_;rw [ofB_bit,ofB_bit];by_cases hi:i<w
  · simp [hi,h i hi]
  · simp [hi]
theorem eq_ofB {m w:Nat} {f:Nat->Bool} (h:m<2 ^ w) (b:∀ i,i<w->m.testBit i=f i):m=ofB f w:=by
  rw [<-MD m w h];exact Lw b
theorem bit_div (m e:Nat):m / 2 ^ e%2=(m.testBit e).toNat:=by
  rw [Nat.testBit_eq_decide_div_mod_eq];have:m / 2 ^ e%2<2:=Nat.mod_lt _ (by decide);by_cases h:m / 2 ^ e%2=1
  · simp [h]
  · have:m / 2 ^ e%2=0:=by omega
    simp [this]
def mOf (ns:List Nat):Nat:=ns.foldl (λ m n=>m ||| 2 ^ (n - 1)) 0
theorem mOf_snoc (ns:List Nat) (n:Nat):mOf (ns++[n])=mOf ns ||| 2 ^ (n - 1):=by unfold mOf;rw [List.foldl_append];rfl
theorem mOf_bit (ns:List Nat) (i:Nat):(mOf ns).testBit i=ns.any λ n=>decide (n - 1=i):=by
  refine snoc_ind (p:=λ ns=>(mOf ns).testBit i=ns.any λ n=>decide (n - 1=i)) (by simp [mOf]) (λ l a ih=> ?_) ns
  · rw [mOf_snoc,Nat.testBit_or,ih,List.any_append,Nat.testBit_two_pow];simp
def bits (m:Nat):Nat:=if m=0 then 0 else m.log2+1
theorem Pr (m:Nat):m<2 ^ bits m:=by
  unfold bits;split
  · subst_vars;decide
  · exact Nat.lt_log2_self
theorem bits_le {m w:Nat} (h:m<2 ^ w):bits m<=w:=by
  unfold bits;split
  · exact Nat.zero_le _
  · rename_i h0
    exact (Nat.log2_lt h0).mpr h
def nOf (m:Nat):List Nat:=((List.range (bits m)).filter m.testBit).map (· + 1)
theorem nOf_wide {m w:Nat} (h:m<2 ^ w):nOf m=((List.range w).filter m.testBit).map (· + 1):=by
  unfold nOf;have hb:=bits_le h;obtain ⟨d,rfl⟩:∃ d,w=bits m+d:=⟨w - bits m,by omega⟩;congr 1;rw [List.range_add,List.filter_append];have e:((List.range d).map (bits m+ ·)).filter m.testBit=[]:=by
    rw [List.filter_eq_nil_iff];intro x hx;obtain ⟨k,_,rfl⟩:=List.mem_map.mp hx;rw [Nat.testBit_lt_two_pow (Nat.lt_of_lt_of_le (Pr m) (Nat.pow_le_pow_right (by decide) (Nat.le_add_right _ _)))];simp
  rw [e,List.append_nil]
theorem nOf_len {m w:Nat} (h:m<2 ^ w):(nOf m).length<=w:=by
  rw [nOf_wide h,List.length_map];exact Nat.le_trans (List.length_filter_le _ _) (by simp)
theorem M6 (w i:Nat):(2 ^ w - 1).testBit i=decide (i<w):=Nat.testBit_two_pow_sub_one w i
theorem other_bit {m w i:Nat} (hi:i<w):((2 ^ w - 1) ^^^ m).testBit i= !m.testBit i:=by
  rw [Nat.testBit_xor,M6];simp [hi]
theorem other_lt {m w:Nat} (h:m<2 ^ w):((2 ^ w - 1) ^^^ m)<2 ^ w:=Nat.xor_lt_two_pow (by have:0<2 ^ w:=Nat.two_pow_pos w;omega) h
end MM
namespace L2
open PySem PySem.Spec PyProof.Rows
section
variable {X:Cx}
theorem PV {x:Str} {i:Int} {pos:Pos} (h:∃ t,X.mg x=some (.int i t)) (hg:Gl X x:=by rfl) (hd:(x == ("__debug__":Str))=false:=by decide):PE X (.Name x pos) (tC (.int i)):=by
  obtain ⟨t,e⟩:=h;exact KU hg e ⟨t,rfl⟩ hd
theorem Lg {x z:Str} {pos:Pos} (h:∃ t,X.mg x=some (.str z t)) (hg:Gl X x:=by rfl) (hd:(x == ("__debug__":Str))=false:=by decide):PE X (.Name x pos) (tC (.str z)):=by
  obtain ⟨t,e⟩:=h;exact KU hg e ⟨t,rfl⟩ hd
theorem Ir:∀ {xs:List V} {us:List Value},us.length=xs.length->(∀ (j:Nat) (u:Value),us[j]?=some u->∃ x,xs[j]?=some x/\RelV x u)->Vals xs us
  | [],[],_,_=> .nil
  | x::xs,u::us,hl,h=>by
    obtain ⟨y,e,r⟩:=h 0 u rfl;simp only [List.getElem?_cons_zero,Option.some.injEq] at e;subst e;exact .cons r (Ir (by simpa using hl) λ j v hv=>by simpa using h (j+1) v (by simpa using hv))
  | [],_::_,hl,_=>by simp at hl
  | _::_,[],hl,_=>by simp at hl
end
section
variable {H:Hp} {Q:VK} {σ:St} {td ty tv:TE} {D:Ends} {a:Addr} {kvs:List (Key × V)}
theorem Oq (h:td σ H λ x H1=>ty σ H1 λ y H2=>∃ a v,x= .ref a/\DGet H2 a y (some v)/\Q v H2):PH td ty σ H Q:=h
theorem Q4 (h:ty σ H λ y H1=>td σ H1 λ x H2=>∃ a o,x= .ref a/\DGet H2 a y o/\Q (.bl o.isSome) H2):R6 ty td σ H Q:=h
theorem Li (h:ty σ H λ y H1=>td σ H1 λ x H2=>∃ a o,x= .ref a/\DGet H2 a y o/\Q (.bl (!o.isSome)) H2):Ko ty td σ H Q:=h
theorem OH (h:tv σ H λ v H1=>td σ H1 λ x H2=>ty σ H2 λ y H3=>∃ a H4,x= .ref a/\DPut H3 a y v H4/\D.nx σ H4):Py td ty tv D σ H:=h
theorem Pt {R:List (V × V)->Hp->Prop} (h:R [] H):Em [] σ H R:=h
theorem NT {tk tw:TE} {r:List (TE × TE)} {R:List (V × V)->Hp->Prop} (h:tk σ H λ x H1=>tw σ H1 λ y H2=>Em r σ H2 λ ps H3=>R ((x,y)::ps) H3):Em ((tk,tw)::r) σ H R:=h
end
theorem Room.units1 {k:Nat} {A:Around} (r:Room k A):A.units+1<cLine:=by have:=r.un;omega
section
variable {H:Hp} {Q:VK} {σ:St} {K:PySem.W.Frag} {to:TE} {t:TA} {r:V->List V->Hp->VK->Prop} {T:String} {l p q:Addr} {xs ys:List V} {y:V}
theorem Qs (h:to σ H λ x H1=>tyV K T x H1/\r x [] H1 Q):Re K T r to σ H Q:=h
theorem Vo (h:to σ H λ x H1=>tyV K T x H1/\t σ H1 λ xs H2=>r x xs H2 Q):tBM K T r to t σ H Q:=h
theorem tyL {B:Prop} (c:SqL K H l xs) (h:B):tyV K "list" (.ref l) H/\B:=⟨.inl ⟨rfl,xs,c⟩,h⟩
theorem tyI {B:Prop} {i:Int} (h:B):tyV K "int" (.int i) H/\B:=⟨rfl,h⟩
theorem DM (c:H l=some (.lst xs)) (b:xs.length<16777216) (h:Q .non (upd H l (.lst (xs++[y])))):rAppend (.ref l) [y] H Q:=⟨l,xs,y,rfl,rfl,c,by rw [sizeLine_eq];exact b,h⟩
theorem HZ (c:SqL K H l xs) (d:SqL K H p ys) (b:xs.length+ys.length<=16777216) (h:∀ q,H q=none->Q (.ref q) (upd H q (.lst (xs++ys)))):MW K (.ref l) (.ref p) H Q:=⟨l,p,xs,ys,rfl,rfl,c,d,by rw [sizeLine_eq];exact b,h⟩
theorem No {k:Int} (c:H l=some (.lst xs)) (b1:0<=k) (b2:k<=100000) (b3:xs.length<=100) (h:∀ q,H q=none->Q (.ref q) (upd H q (.lst (List.replicate k.toNat xs).flatten))):R9 (.ref l) (.int k) H Q:=
  ⟨l,k,xs,rfl,rfl,c,by omega,by omega,by
    rw [sizeLine_eq];have h1:k.toNat<=100000:=by omega
    exact Nat.le_trans (Nat.mul_le_mul b3 h1) (by decide),h⟩
theorem Pn {as bs:List Int} (c:SqL K H l (as.map V.int)) (d:SqL K H p (bs.map V.int)) (h:Q (.bl (decide (as=bs))) H):LP K false (.ref l) (.ref p) H Q:=
  ⟨l,p,_,_,rfl,rfl,c,d,EK as,EK bs,by rw [IP];exact h⟩
theorem KD {as bs:List Int} (c:SqL K H l (as.map V.int)) (d:SqL K H p (bs.map V.int)) (h:Q (.bl (!decide (as=bs))) H):LP K true (.ref l) (.ref p) H Q:=
  ⟨l,p,_,_,rfl,rfl,c,d,EK as,EK bs,by rw [IP];exact h⟩
theorem HJ {z:Addr} (c:SqL K H z xs) (h:∀ q,H q=none->Q (.ref q) (upd H q (.lst xs))):KH K [.ref z] H Q:=⟨z,xs,rfl, .inl c,h⟩
theorem Jz {z:Addr} (c:SqL K H z xs) (h:∀ q,H q=none->Q (.ref q) (upd H q (.tup xs))):IH K [.ref z] H Q:=⟨z,xs,rfl, .inl ⟨c,h⟩⟩
end
end L2
namespace L2
open PySem
open Sem (wp)
open AutoSeq1 (wpAny_loadPart')
section
variable {prog:Program} {w:World} {A:Around} {E:Value->Shared->Prop} {s:Shared}
theorem Jq {T newId:String} {Bn:Builtin} {v:Value} {x:Str} {u:Value} {Q:Value->Shared->Prop} (ft:TypeCalled T newId "object.__init__") (hne:(some newId != some "object.__new__")=true)
    (hct:checkTypeCall T ⟨[v],[(x,u)]⟩=pure ()) (hcn:checkBuiltinCall newId ⟨[.type T,v],[(x,u)]⟩=pure ()) (hok:∀ obj,argsOk "object.__init__" ⟨[obj,v],[(x,u)]⟩) (entryN:entryFor table newId=some Bn)
    (g:wpAny (model prog w) A.in1.in1 (Bn ⟨[.type T,v],[(x,u)]⟩) (λ fin s1=>∃ obj,fin= .done (.ret obj)/\s1.TypeIs obj T/\Q obj s1) E s):wpAny (model prog w) A (call (.type T) [v] [(x,u)]) Q E s:=by
  obtain ⟨c,tl,hmro⟩:=ft.mro;have hmade:=ft.made;have hsub:=ft.sub;refine wpAny_call (codeAny_of_tree ?_);show wpAny _ _ (callAny (.type T) _) _ _ _;refine wpAny_pure ⟨Code.quiet_builtin _ (by decide +kernel),codeAny_builtin F.entry_type_call ?_⟩;rw [Around.under_plain (weight_type_call_type T [v] [(x,u)]) (units_type_call_type T [v] [(x,u)])];have h1:=ft.notType;have h2:=ft.canCreate
  repeat (any_goals (first | assumption | wp_step))
  refine codeAny_call_builtin ft.plain entryN (wpAny_of_eq hcn (wpAny_mono g (λ fin s1 q=> ?_) λ _ _ q=>q));obtain ⟨obj,rfl,hT,q⟩:=q;have hli:=ft.init.lookup;have hbi:=ft.init.bind obj;show wpAny _ _ _ _ _ _
  repeat (any_goals (first | assumption | wp_step))
  refine codeAny_call_builtin ft.init.plain F.entry_object_init (ft.init.check _ _ _ _ _ _ _ _ hT (hok obj) ?_)
  repeat (any_goals (first | assumption | wp_step))
  trace_state
theorem Jc {v:Value} {t:Tok} {Q:Value->Shared->Prop}
    (h:wpAny (model prog w) A (pyIter v) (λ itv s1=>Q (.ref s1.heap.objs.size) { s1 with heap:=s1.heap.push { cls:= .type "enumerate",data:= .fields #[.none, .bool false,itv,rawInt 1, .none, .none] } }) E s):
    wpAny (model prog w) A (Builtin.«enumerate.__new__» ⟨[.type "enumerate",v],[("start", .int 1 t)]⟩) (λ fin s1=>∃ obj,fin= .done (.ret obj)/\Q obj s1) E s:=by
  have hsub:=sub_enumerate;have hit:∀ {R:Value->Shared->Prop},(∀ itv s1,Q (.ref s1.heap.objs.size) { s1 with heap:=s1.heap.push { cls:= .type "enumerate",data:= .fields #[.none, .bool false,itv,rawInt 1, .none, .none] } }->R itv s1)->wpAny (model prog w) A (pyIter v) R E s:=λ k=>wpAny_mono h k λ _ _ q=>q;unfold Builtin.«enumerate.__new__»
  wp_walk
  refine wpAny_stack_any λ st=>wpAny_pure ?_;split
  · rename_i c _ _ _ _ _
    cases (c == Value.type "enumerate")
    · wp_walk using hit
      intro itv s1 q
      wp_walk
      exact ⟨_,rfl,q⟩
    · wp_walk using hit
      intro itv s1 q
      wp_walk
      exact ⟨_,rfl,q⟩
  · wp_walk using hit
    intro itv s1 q
    wp_walk
    exact ⟨_,rfl,q⟩
theorem J9 {v:Value} {t:Tok} {Q:Value->Shared->Prop}
    (h:wpAny (model prog w) A.in1.in1 (pyIter v) (λ itv s1=>∃ it,itv= .ref it/\∀ h',IsEnum h' s1.heap.objs.size it 1 .none->(∀ b o,s1.heap.get? b=some o->h'.get? b=some o)->h'.objs.size=s1.heap.objs.size+1->Q (.ref s1.heap.objs.size) { s1 with heap:=h' }) E s):
    wpAny (model prog w) A (call (.type "enumerate") [v] [("start", .int 1 t)]) Q E s:=by
  refine Jq F.called_enumerate (by decide) (by kernel_rfl) (by kernel_rfl) (λ obj=>by unfold argsOk;kernel_rfl) F.entry_enumerate_new (Jc (wpAny_mono h (λ itv s1 q=> ?_) λ _ _ q=>q));obtain ⟨it,rfl,q⟩:=q;refine ⟨⟨_,Heap.get?_push_size _ rfl,rfl⟩,q _ (Heap.get?_push_size _ rfl) (λ b o e=>Heap.get?_push_of_some _ e) (Heap.size_push ..)⟩
end
theorem Q6 {prog:Program} {w:World} {A:Around} {it:Addr} {fp:List Addr} {n:Nat} {Pv:Nat->Value->Prop} {St:Nat->Heap->Prop} (k:Nat) (D:Draws prog w A it fp n Pv St):
    Draws prog w A it fp (n+k) (λ i v=>∃ j,i=j+k/\Pv j v) (λ i h=>∃ j,i=j+k/\St j h) where
  live:=λ i h ⟨j,_,st⟩=>D.live j h st
  frame:=λ i h h' ⟨j,e,st⟩ q=>⟨j,e,D.frame j h h' st q⟩
  item:=λ i s Q E hi ⟨j,e,st⟩ hQ=>D.item j s Q E (by omega) st λ x h' tk p st' sb=>hQ x h' tk ⟨j,e,p⟩ ⟨j+1,by omega,st'⟩ sb
  done:=λ s Q E ⟨j,e,st⟩ hE=>D.done s Q E (by
    have q:j=n:=by omega
    rw [q] at st;exact st) hE
theorem Jb {M:Model} {A:Around} {E:Value->Shared->Prop} {s:Shared} {pos:Pos} {T:String} {args:List (Bool × Sem Value)} {kws:List (Option Str × Sem Value)} {Q:Value->Shared->Prop}
    (hp:args.any (·.1)=false) (hk:kws.any (·.1.isNone)=false) (h:wpAny M A (evalArgs (.type T) true args kws) (λ a s1=>wpAny M A (call (.type T) a.pos a.kw) Q E s1) E s):wpAny M A (callWith pos (.type T) [] args kws) Q E s:=by
  unfold callWith;refine wpAny_bind (wpAny_holding (wpAny_mono h (λ a s1 h1=>wpAny_bind (wpAny_standAt ?_)) λ _ _ q=>q));simp only [hp,hk,Bool.or_false];refine wpAny_bind (wpAny_pure ?_);refine wpAny_bind (wpAny_mono h1 (λ r s2 hr=> ?_) λ _ _ q=>q);exact wpAny_bind (wpAny_holding (wpAny_point (wpAny_pure hr)))
end L2
namespace L2
open PySem PySem.Spec PyProof.Rows
theorem Qh {prog:Program} {w:World} {A:Around} (hh:A.handled=none) (tp:Bool) (it l:Addr) (hne:l≠it) (items:Array Value):
    Draws prog w A it [it,l] items.size (λ i v=>items[i]?=some v) (λ i h=>Bv tp h it l i/\BF tp h l items) where
  live:=λ _ _ st=>let ⟨o,e,_⟩:=Bu st.1;⟨o,e⟩
  frame:=λ _ _ _ st hk=>⟨AH st.1 λ o e=>hk it (by simp) o e,Cj st.2 λ o e=>hk l (by simp) o e⟩
  item:=λ i s Q E hi st hQ=>ER st.1 st.2 (x:=items[i]) (by simp [hi]) λ h' hit sb=>hQ _ h' s.toks (by simp [hi]) ⟨hit,Cj st.2 λ o e=>(sb.2 l hne).trans e⟩ sb
  done:=λ s Q E st hE=>FU hh st.1 st.2 (by simp) hE
def Mx (tp:Bool) (K:PySem.W.Frag) (a:Addr):It:=
  ⟨λ i H=>∃ xs x,SqS tp K H a xs/\xs[i]?=some x,λ i H v H'=>∃ p x,H p=none/\v= .ref p/\H'=upd H p (.tup [.int ((i+1:Nat):Int),x])/\∀ xs,SqS tp K H a xs->xs[i]?=some x,λ i H=>∃ xs,SqS tp K H a xs/\xs.length<=i⟩
theorem JQ {P:Program} {w:World} {K:PySem.W.Frag} {elts:List Expr} {k:Nat} {pos:Pos} (tp:Bool) (a e it:Addr) (hne:e≠it):
    Turn P w K (.Tuple elts k pos) (Mx tp K a) [e,it] e (λ i h=>(∃ old,IsEnum h e it ((i+1:Nat):Int) old)/\Bv tp h it a i) where
  mem:=by simp
  obj:=λ i h st b hb=>by
    obtain ⟨⟨old,he⟩,hi⟩:=st;obtain ⟨o,eo,d⟩:=Bu hi;rcases List.mem_cons.mp hb with z | z
    · subst z;exact ⟨_,he,λ v z=>by cases (show Data.fields _=Data.cell v from z)⟩
    · have z:b=it:=by simpa using z
      subst z;exact ⟨o,eo,λ v z=>by rw [d] at z;cases z⟩
  keep:=λ i h h' st kp=>by
    obtain ⟨⟨old,he⟩,hi⟩:=st;exact ⟨⟨old,kp e (by simp) _ he⟩,AH hi λ o z=>kp it (by simp) o z⟩
  item:=by
    intro X hP hw hK hc i pins s σ H E I hf st hg;subst hP hw hK;obtain ⟨xs,x,hq,hx⟩:=hg;obtain ⟨its,rv,p⟩:=B8 I hq;obtain ⟨u,hu,ru⟩:=rv.get hx;obtain ⟨⟨old,he⟩,hi⟩:=st;obtain ⟨oi,ei,di⟩:=Bu hi;obtain ⟨oa,na,ea,da⟩:=DW p;have hel:e<s.heap.objs.size:=Heap.lt_size he;have hil:it<s.heap.objs.size:=Heap.lt_size ei;have nia:a≠it:=λ z=>by
      subst z;rw [ei] at ea;cases ea;rw [di] at da;cases da
    have nea:e≠a:=λ z=>by
      subst z;rw [show s.heap.get? e=_ from he] at ea;cases ea;cases (show Data.fields _=Data.seq _ _ from da)
    have hlt:i<its.toArray.size:=by
      have:=(List.getElem?_eq_some_iff.mp hu).1;simpa using this
    have D:=Q6 1 (Qh (prog:=X.prog) (w:=X.w) (A:=X.A.in1) (I.ok.hd hc) tp it a nia its.toArray);refine wpAny_pyNext_enum_itemD (i:=i+1) D he ⟨i,rfl,hi,p⟩ (by omega) hne (by simp [hne,nea]) λ v h' tk pv ho st' hT hsz hk=> ?_;obtain ⟨j,ej,ev⟩:=pv;obtain ⟨j2,ej2,hi',p'⟩:=st';have ej:j=i:=by omega
    have ej2:j2=i+1:=by omega
    subst ej ej2;have ev:v=u:=by
      rw [show its.toArray[j]?=some u by simpa using hu] at ev;exact (Option.some.inj ev).symm
    subst ev;have I0:=I.laid (h':=s.heap.push { cls:= .type "tuple",data:= .seq #[.int ((j+1:Nat):Int) tk,v] }) (a:=s.heap.objs.size) (o:= .tup [.int ((j+1:Nat):Int),x]) (t':=tk+1) (λ _ _ q=>Heap.get?_push_of_some _ q) (Nat.le_refl _)
      ⟨(by show 2<=sizeLine;decide),[.int ((j+1:Nat):Int) tk,v], .cons ⟨_,rfl⟩ (.cons ru .nil),⟨_,Heap.get?_push_size _ rfl,rfl,_,rfl⟩⟩
    have f0:∀ b∈[e,it],B7 X pins (upd H s.heap.objs.size (.tup [.int ((j+1:Nat):Int),x])) b:=λ b hb=>Ik (hf b hb) (by
      rcases List.mem_cons.mp hb with z | z
      · rw [z];exact Nat.ne_of_lt hel
      · rw [show b=it by simpa using z];exact Nat.ne_of_lt hil)
    have I1:=Inv.turnedL (t':=tk+1) (h':=h') [e,it] I0 f0 (λ b o hb z=>by
      have hb1:b≠e:=λ q=>hb (by simp [q]);have hb2:b≠it:=λ q=>hb (by simp [q]);rcases Heap.get?_push_cases (show (s.heap.push { cls:= .type "tuple",data:= .seq #[.int ((j+1:Nat):Int) tk,v] }).get? b=some o from z) with ⟨q1,q2⟩ | q
      · rw [q1,q2];exact hT
      · exact hk b o hb1 hb2 q)
    refine ⟨.ref s.heap.objs.size,rfl,wpAny_letOwnedTupleGo_enum (s:={ s with heap:=h',toks:=tk+1 }) ho λ h2 he2 sb=> ?_⟩;exact ⟨.ref s.heap.objs.size,_,Inv.turnedL (t':=tk+1) (h':=h2) [e,it] I1 f0 (λ b o hb z=>(sb.2 b λ q=>hb (by simp [q])).trans z),rfl,⟨_,x,I.fresh,rfl,rfl,λ ys hy=>by rw [Il I hy hq];exact hx⟩,
      ⟨⟨v,by simpa using he2⟩,AH hi' λ o z=>(sb.2 it hne.symm).trans z⟩,λ b hb=>(f0 b hb).1⟩
  done:=by
    intro X hP hw hK hc i pins s σ H E I hf st hg;subst hP hw hK;obtain ⟨xs,hq,hx⟩:=hg;obtain ⟨its,rv,p⟩:=B8 I hq;obtain ⟨⟨old,he⟩,hi⟩:=st;obtain ⟨oi,ei,di⟩:=Bu hi;obtain ⟨oa,na,ea,da⟩:=DW p;have hT:s.TypeIs (.ref e) "enumerate":=⟨_,he,rfl⟩;have hl:=rv.length;unfold pyNext;refine wpAny_bind (wpAny_attempt (wpAny_callSpecial?_slot (name:=Str.ofString "__next__") hT F.slot_enumerate_next (wpAny_call_entry F.slot_enumerate_next hT F.entry_enumerate_next ?_ (F.args_enumerate_next_1 _))));show wpAny _ _ (field (.ref e) 2 >>= _) _ _ _;refine wpAny_bind (wpAny_field he rfl (x:= .ref it) rfl ?_);refine wpAny_bind (FU (A:=X.A.in1) (I.ok.hd hc) hi p (by simp;omega) λ h' x eb hx'=> ?_);obtain ⟨o,ho,hc2⟩:=hx';exact wpAny_bind (wpAny_isInstance (T:="StopIteration") (b:=true) ⟨o,ho,hc2⟩ isSubtype_stop (wpAny_pure ⟨rfl,I.turnedL (t':=s.toks) [e,it] hf λ b o hb z=>eb b o (λ q=>hb (by simp [q])) z⟩))
  self:=λ _ _ _ _ _ st h=>by
    obtain ⟨⟨old,he⟩,_⟩:=st;exact wpAny_pyIter_enum he h
section
variable {X:Cx} {elts:List Expr} {k:Nat} {tpos:Pos} {K:PySem.W.Frag}
def ND (K:PySem.W.Frag) (ta:TA):TI:=λ σ H R=>ta σ H λ vs H1=>∃ tp a,vs=[.ref a]/\(∃ xs,SqS tp K H1 a xs)/\R (Mx tp K a) H1
theorem MZ {l:Expr} {ta:TA} {p pos kp cp:Pos} {cj:Nat} (hg:Gl X "enumerate") (hm:X.mg "enumerate"=none) (ha:PA X [l] ta) (hK:X.K=K:=by rfl) (hs:starEach [l] X.env=[(false,eval l X.env)]:=by rfl):
    PI X (.Tuple elts k tpos) (.Call (.Name "enumerate" p) [l] [⟨some "start", .Constant (.int 1) cj cp,kp⟩] pos) (ND K ta):=by
  subst hK;intro pins s σ H R I h;refine wpAny_Call_Name_kw (CD I hg hm HK (Jb (by rw [hs];rfl) rfl (PyProof.Rows.evalArgs_kw2 rfl ?_ (by rw [hs];rfl))));refine thn (ha pos pins s σ H _ I h) λ us s1 ⟨vs,H1,I1,r1,q1⟩=>PyProof.Rows.kwAll_cons ?_;refine Ac pins s1 σ H1 (λ v H2=>v= .int 1/\H2=H1) I1 ⟨rfl,rfl⟩ |> λ z=>thn z λ u s2 ⟨v,H2,I2,r2,ev,eh⟩=> ?_
  subst ev eh;obtain ⟨t,rfl⟩:=r2;refine PyProof.Rows.kwAll_nil ?_;obtain ⟨tp,a,e,⟨xs,hq⟩,q⟩:=q1;subst e;cases r1 with
  | cons r rr=>
    cases rr;cases r;obtain ⟨its,rv,pl⟩:=B8 I2 hq;refine J9 ?_;refine F2 pl ⟨_,rfl,λ h' he hk hsz=> ?_⟩;refine wpAny_pyIter_enum he ?_;have hz:(s2.heap.push { cls:= .type (HI tp),data:= .fields #[.ref a, .int 0 0] }).objs.size=s2.heap.objs.size+1:=Heap.size_push ..;have hk2:∀ b o,s2.heap.get? b=some o->h'.get? b=some o:=λ b o z=>hk b o (Heap.get?_push_of_some _ z);have I3:=I2.kept (t':=s2.toks) hk2;have st:Bv tp h' s2.heap.objs.size a 0:=AH E6 λ o z=>hk _ o z;refine ⟨_,[_,s2.heap.objs.size],_,_,H2,rfl,I3,JQ tp a _ _ (by rw [hz];exact Nat.succ_ne_self _),⟨⟨_,he⟩,st⟩,λ b hb=> ?_,q⟩;have hb':s2.heap.objs.size<=b:=by
      rcases List.mem_cons.mp hb with z | z
      · rw [z,hz];exact Nat.le_succ _
      · have z:b=s2.heap.objs.size:=by simpa using z
        rw [z];exact Nat.le_refl _
    exact I2.fpOk hb' (I2.hok.fresh hb')
end
def Isq (tp:Bool) (K:PySem.W.Frag) (a:Addr):It:=if tp=true then Itt K a else Itl K a
section
variable {X:Cx} {tg:Expr} {K:PySem.W.Frag}
def iSq (K:PySem.W.Frag) (tl:TE):TI:=λ σ H R=>tl σ H λ x H1=>∃ tp a,x= .ref a/\(∃ xs,SqS tp K H1 a xs)/\R (Isq tp K a) H1
theorem Pw {l:Expr} {tl:TE} (hl:PE X l tl) (hK:X.K=K:=by rfl):PI X tg l (iSq K tl):=by
  subst hK;intro pins s σ H R I h;refine thn (hl pins s σ H _ I h) λ v s1 ⟨x,H1,I1,r1,q1⟩=> ?_;obtain ⟨tp,a,e,⟨xs,hq⟩,q⟩:=q1;subst e;cases r1;cases tp with
  | false=>
    obtain ⟨its,rv,p,hz⟩:=I1.list (show SqL X.K H1 a xs from hq);refine wpAny_pyIter_list p.isList ?_;refine ⟨s1.heap.objs.size,[s1.heap.objs.size],_,_,H1,rfl,I1.kept (t':=s1.toks) λ b o e=>Heap.get?_push_of_some _ e,Hs a _,⟨_,Heap.get?_push_size _ rfl,rfl,rfl⟩,λ b hb=> ?_,q⟩;have e:b=s1.heap.objs.size:=by simpa using hb
    subst e;exact I1.fpOk (Nat.le_refl _) (I1.hok.fresh (Nat.le_refl _))
  | true=>
    obtain ⟨its,rv,p,hz⟩:=I1.tuple (show SqT X.K H1 a xs from hq);refine wpAny_pyIter_tuple (show s1.heap.IsTuple a its.toArray from p) ?_;refine ⟨s1.heap.objs.size,[s1.heap.objs.size],_,_,H1,rfl,I1.kept (t':=s1.toks) λ b o e=>Heap.get?_push_of_some _ e,Gc a _,⟨_,Heap.get?_push_size _ rfl,rfl,rfl⟩,λ b hb=> ?_,q⟩;have e:b=s1.heap.objs.size:=by simpa using hb
    subst e;exact I1.fpOk (Nat.le_refl _) (I1.hok.fresh (Nat.le_refl _))
end
structure FSrc (J:It) (g:TG) (H:Hp) (n:Nat) (set:Nat->St->St):Prop where
  go:∀ i H',i<n->Same H H'->J.go i H'
  stop:∀ H',Same H H'->J.stop n H'
  yld:∀ i σ H' x H'' (R:St->Hp->Prop),i<n->Same H H'->J.yld i H' x H''->(∀ H3,Same H' H3->R (set i σ) H3)->g x σ H'' R
theorem ES {J:It} {g:TG} {H:Hp} {n:Nat} {set:Nat->St->St} {tb:TS} {D:Ends} {σ:St} (S:FSrc J g H n set) (Pv:Nat->St->Hp->Prop) (h0:Pv 0 σ H) (hk:∀ i σ H',Pv i σ H'->Same H H')
    (hs:∀ i σ H' H3,i<n->Pv i σ H'->Same H' H3->tb { D with nx:=Pv (i+1),ct:=Pv (i+1),bk:=D.nx } (set i σ) H3) (hd:∀ σ H',Pv n σ H'->D.nx σ H'):
    ∃ W:Nat->Nat->St->Hp->Prop,(∃ m,W 0 m σ H)/\∀ i m σ H,W i m σ H->
      (J.stop i H/\D.nx σ H)\/(J.go i H/\∃ N:St->Hp->Prop,(∀ σ' H',N σ' H'->∃ m',m'<m/\W (i+1) m' σ' H')/\∀ x H',J.yld i H x H'->g x σ H' λ σ2 H2=>tb { D with nx:=N,ct:=N,bk:=D.nx } σ2 H2):=by
  refine ⟨λ i m σ H'=>m=n - i/\i<=n/\Pv i σ H',⟨n,by simp,Nat.zero_le _,h0⟩,?_⟩;rintro i m σ H1 ⟨rfl,hi,p⟩;by_cases hlt:i<n
  · exact .inr ⟨S.go i H1 hlt (hk _ _ _ p),Pv (i+1),λ σ' H' p'=>⟨n - (i+1),by omega,rfl,hlt,p'⟩,λ x H' y=>S.yld i σ H1 x H' _ hlt (hk _ _ _ p) y λ H3 s3=>hs i σ H1 H3 hlt p s3⟩
  · have e:i=n:=by omega
    subst e;exact .inl ⟨S.stop H1 (hk _ _ _ p),hd σ H1 p⟩
section
variable {K:PySem.W.Frag} {H:Hp} {a b:Addr} {xs zs:List V} {tp t1 t2:Bool} {i1 i2:Nat}
theorem Kz (h:SqS tp K H a xs):FSrc (Isq tp K a) (AG i1) H xs.length (λ i σ=>σ.set i1 (some (xs.getD i .non))):=by
  cases tp with
  | false=>exact {
      go:=λ i H' hi s=>⟨xs,xs[i],SqS.same (tp:=false) h s,by simp [hi]⟩
      stop:=λ H' s=>⟨xs,SqS.same (tp:=false) h s,Nat.le_refl _⟩
      yld:=λ i σ H' x H'' R hi s y k=>by
        obtain ⟨e,hv⟩:=y;subst e;have e:x=xs.getD i .non:=by
          rw [List.getD_eq_getElem?_getD,hv xs (SqS.same (tp:=false) h s)];rfl
        subst e;exact k _ (Same.refl _) }
  | true=>exact {
      go:=λ i H' hi s=>⟨xs,xs[i],SqS.same (tp:=true) h s,by simp [hi]⟩
      stop:=λ H' s=>⟨xs,SqS.same (tp:=true) h s,Nat.le_refl _⟩
      yld:=λ i σ H' x H'' R hi s y k=>by
        obtain ⟨e,hv⟩:=y;subst e;have e:x=xs.getD i .non:=by
          rw [List.getD_eq_getElem?_getD,hv xs (SqS.same (tp:=true) h s)];rfl
        subst e;exact k _ (Same.refl _) }
theorem Co (h:SqL K H a xs):FSrc (Itl K a) (AG i1) H xs.length (λ i σ=>σ.set i1 (some (xs.getD i .non))):=Kz (tp:=false) h
theorem Gj {lo:Int} {n:Nat}:FSrc (Itr lo n) (AG i1) H n (λ i σ=>σ.set i1 (some (.int (lo+i)))) where
  go:=λ i H' hi s=>hi
  stop:=λ H' s=>Nat.le_refl _
  yld:=λ i σ H' x H'' R hi s y k=>by
    obtain ⟨e,hv⟩:=y;subst e hv;exact k _ (Same.refl _)
theorem NA (h:SqS tp K H a xs):FSrc (Mx tp K a) (GE K 2 (BE (AG i1) (BE (AG i2) G3))) H xs.length (λ i σ=>(σ.set i1 (some (.int ((i+1:Nat):Int)))).set i2 (some (xs.getD i .non))) where
  go:=λ i H' hi s=>⟨xs,xs[i],h.same s,by simp [hi]⟩
  stop:=λ H' s=>⟨xs,h.same s,Nat.le_refl _⟩
  yld:=λ i σ H' x H'' R hi s y k=>by
    obtain ⟨p,v,hp,rfl,rfl,hv⟩:=y;have e:v=xs.getD i .non:=by
      rw [List.getD_eq_getElem?_getD,hv xs (h.same s)];rfl
    subst e;exact ⟨p,_,rfl,SqT.of Ae,rfl,_,_,rfl,_,_,rfl,rfl,k _ (Aj hp)⟩
theorem Ow (h:SqL K H a xs):FSrc (Ite K a) (GE K 2 (BE (AG i1) (BE (AG i2) G3))) H xs.length (λ i σ=>(σ.set i1 (some (.int i))).set i2 (some (xs.getD i .non))) where
  go:=λ i H' hi s=>⟨xs,xs[i],s.seq h,by simp [hi]⟩
  stop:=λ H' s=>⟨xs,s.seq h,Nat.le_refl _⟩
  yld:=λ i σ H' x H'' R hi s y k=>by
    obtain ⟨p,v,hp,rfl,rfl,hv⟩:=y;have e:v=xs.getD i .non:=by
      rw [List.getD_eq_getElem?_getD,hv xs (s.seq h)];rfl
    subst e;exact ⟨p,_,rfl,SqT.of Ae,rfl,_,_,rfl,_,_,rfl,rfl,k _ (Aj hp)⟩
theorem FSrc.src {J:It} {g:TG} {n:Nat} {set:Nat->St->St} {σ0:St} (S:FSrc J g H n set) (kp:∀ i,i<n->Kp σ0 (set i σ0)):SrcOk J g σ0 H n (λ i=>set i σ0) where
  go:=S.go
  stop:=S.stop
  yld:=λ i H' x H'' R hi s y k=>S.yld i σ0 H' x H'' R hi s y k
  kp:=kp
theorem LS {σ0:St} (h:SqS tp K H a xs) (h0:σ0[0]?=some none) (h1:σ0[1]?=some none):SrcOk (Mx tp K a) (GE K 2 (BE (AG 0) (BE (AG 1) G3))) σ0 H xs.length (λ i=>(σ0.set 0 (some (.int ((i+1:Nat):Int)))).set 1 (some (xs.getD i .non))):=
  (NA h).src λ i _=>((Kp.refl _).set h0).set h1
end
theorem bA (a b:Nat):Builtin.bitAnd (a:Int) (b:Int)=((a &&& b:Nat):Int):=by
  rw [PyProof.Rows.bitAnd_pp (by omega) (by omega)];rfl
theorem bO (a b:Nat):Builtin.bitOr (a:Int) (b:Int)=((a ||| b:Nat):Int):=by
  have h:=MM.or_add_and a b;rw [PyProof.Rows.bitOr_and,bA];omega
theorem bX (a b:Nat):Builtin.bitXor (a:Int) (b:Int)=((a ^^^ b:Nat):Int):=by
  have h:=MM.xor_eq a b;show Builtin.bitOr (a:Int) b - Builtin.bitAnd (a:Int) b=_;rw [bO,bA];omega
theorem HW (m:Nat):((Builtin.Int.intBits (m:Int):Nat):Int)=((MM.bits m:Nat):Int):=by
  unfold Builtin.Int.intBits MM.bits;by_cases h:m=0
  · subst h;rfl
  · have e:((m:Int) == 0)=false:=by simp [h]
    rw [e,if_neg h];simp
theorem Jy (n:Nat):(1:Int)*2 ^ n=((2 ^ n:Nat):Int):=by
  rw [Int.one_mul];push_cast;rfl
section
variable {X:Cx}
def rBits:V->List V->Hp->VK->Prop:=λ x vs H Q=>∃ i:Int,x= .int i/\vs=[]/\Q (.int (Builtin.Int.intBits i:Nat)) H
theorem G1:MtM X "int.bit_length" rBits:=by
  intro pins s σ H x vs v us Q I rx rv h;obtain ⟨i,rfl,rfl,q⟩:=h;obtain ⟨t,rfl⟩:=rx;have hus:=rv.zero;subst hus;exact PyProof.Rows.call_int_bit_length ⟨.int _,H,I.tok _,⟨_,rfl⟩,q⟩
end
section
variable {H:Hp} {Q:VK} {σ:St} {D:Ends} {te:TE} {ti:TIp} {i:Nat} {x:V}
theorem Ox {m:Nat} (h:Q (.int (MM.bits m:Nat)) H):rBits (.int (m:Nat)) [] H Q:=⟨m,rfl,rfl,by rw [HW];exact h⟩
theorem Rr (e:σ[i]?=some (some x)) (h:te σ H λ y H1=>ti x y H1 λ z H2=>D.nx (σ.set i (some z)) H2):UQ i te ti D σ H:=⟨x,e,h⟩
end
abbrev nV (n:Nat):V:= .int (n:Nat)
theorem BU {ns:List Nat} {i:Nat} (h:i<(ns.map nV).length):(ns.map nV).getD i .non= .int (ns.getD i 0:Nat):=by
  have h':i<ns.length:=by simpa using h
  simp [List.getD_eq_getElem?_getD,h']
theorem My {ns:List Int} {i:Nat} (h:i<(ns.map V.int).length):(ns.map V.int).getD i .non= .int (ns.getD i 0):=by
  have h':i<ns.length:=by simpa using h
  simp [List.getD_eq_getElem?_getD,h']
theorem DQ {ns:List Int} {k:Int} (h0:0<=k) (h1:k<ns.length):atI (ns.map V.int) k=some (.int (ns.getD k.toNat 0)):=by
  obtain ⟨j,rfl⟩:∃ j:Nat,k=j:=⟨k.toNat,by omega⟩;have h':j<ns.length:=by omega
  refine Ax ?_;rw [show ((j:Int)).toNat=j by omega];simp [List.getD_eq_getElem?_getD,h']
theorem Bp {ns:List Nat} {k:Int} (h0:0<=k) (h1:k<ns.length):atI (ns.map nV) k=some (.int (ns.getD k.toNat 0:Nat)):=by
  obtain ⟨j,rfl⟩:∃ j:Nat,k=j:=⟨k.toNat,by omega⟩;have h':j<ns.length:=by omega
  refine Ax ?_;rw [show ((j:Int)).toNat=j by omega];simp [List.getD_eq_getElem?_getD,h']
theorem LR {ns:List Nat} {i:Nat} (h:i<ns.length):ns.take (i+1)=ns.take i++[ns.getD i 0]:=by
  rw [List.take_succ_eq_append_getElem h];simp [List.getD_eq_getElem?_getD,h]
theorem Bk {J:It} {g:TG} {σ0:St} {H:Hp} {n:Nat} {st:Nat->St} {te:TE} {Q:VK} {D:Addr} {G:Nat->Int} (S:SrcOk J g σ0 H n st) (hD:H D=none) (hn:n<=100000)
    (he:∀ i H' (R:VK),i<n->Same H H'->(∀ H3,Same H' H3->R (.int (G i)) H3)->te (st i) H' R)
    (hd:∀ H',Same H H'->H' D=some (.lst (((List.range n).map G).map V.int))->Q (.ref D) H'):Eb J σ0 g Mi te Q H D:=by
  refine Cf (m:=0) (G:=λ i=> .int (G i)) S hD hn (λ i H' R hi s k=>he i H' R hi s λ H3 s3=>k H3 _ s3 (.int _)) λ H' ys s hl r=> ?_;have e:(List.range n).map (λ i=>Dt.int (G i))=((List.range n).map G).map Dt.int:=by rw [List.map_map];rfl
  rw [e] at r;obtain ⟨b,eb,hb,fb⟩:=K8 r;cases eb;exact hd H' s hb
theorem El {J:It} {g:TG} {σ0:St} {H:Hp} {n:Nat} {st:Nat->St} {tc:TT} {te:TE} {Q:VK} {D:Addr} {p:Nat->Bool} {G:Nat->Int} (S:SrcOk J g σ0 H n st) (hD:H D=none) (hn:n<=100000)
    (ht:∀ i H' (R:Bool->Hp->Prop),i<n->Same H H'->(∀ H3,Same H' H3->R (p i) H3)->tc (st i) H' R)
    (he:∀ i H' (R:VK),i<n->p i=true->Same H H'->(∀ H3,Same H' H3->R (.int (G i)) H3)->te (st i) H' R)
    (hd:∀ H',Same H H'->H' D=some (.lst ((((List.range n).filter p).map G).map V.int))->Q (.ref D) H'):Eb J σ0 g tc te Q H D:=by
  refine B9 (m:=0) (p:=p) (G:=λ i=> .int (G i)) S hD hn ht (λ i H' R hi hp s k=>he i H' R hi hp s λ H3 s3=>k H3 _ s3 (.int _)) λ H' ys s hl r=> ?_;have e:((List.range n).filter p).map (λ i=>Dt.int (G i))=(((List.range n).filter p).map G).map Dt.int:=by rw [List.map_map];rfl
  rw [e] at r;obtain ⟨b,eb,hb,fb⟩:=K8 r;cases eb;exact hd H' s hb
theorem Nv {J:It} {g:TG} {σ0:St} {H:Hp} {n:Nat} {st:Nat->St} {te:TE} {Q:VK} {D:Addr} {G:Nat->Bool} (S:SrcOk J g σ0 H n st) (hD:H D=none) (hn:n<=100000)
    (he:∀ i H' (R:VK),i<n->Same H H'->(∀ H3,Same H' H3->R (.bl (G i)) H3)->te (st i) H' R)
    (hd:∀ H',Same H H'->H' D=some (.lst (((List.range n).map G).map V.bl))->Q (.ref D) H'):Eb J σ0 g Mi te Q H D:=by
  refine Cf (m:=0) (G:=λ i=> .bl (G i)) S hD hn (λ i H' R hi s k=>he i H' R hi s λ H3 s3=>k H3 _ s3 (.bl _)) λ H' ys s hl r=> ?_;have e:ys=((List.range n).map G).map V.bl:=by
    cases r with
    | @lst _ _ vs _ q f b l ee=>
      rw [hl] at q;cases q;refine List.ext_getElem (by simpa using l) λ i h1 h2=> ?_;have hi:i<n:=by simpa using h2
      have:=ee i ys[i] (.bl (G i)) (by simp [h1]) (by simp [hi]);cases hv:ys[i] <;> rw [hv] at this <;> cases this;simp
  rw [e] at hl;exact hd H' s hl
def Lc (P:Program) (w:World) (K:PySem.W.Frag) (mg:Str->Option Value) (base:Heap) (x:Str) (C:Addr) (k:Nat) (ps:List Str) (sp:Sp):Prop:=
  ∃ f fd,mg x=some (.ref C)/\Mk K C f/\FnOk P w K mg base CX0 k f fd ps sp/\Binds K fd ps []
def Cl (P:Program) (w:World) (K:PySem.W.Frag) (mg:Str->Option Value) (base:Heap) (C:Addr) (m:Str) (k:Nat) (ps:List Str) (sp:Sp):Prop:=
  ∃ f fd,Cls K C/\Meth K C m f/\FnOk P w K mg base CX0 k f fd ps sp/\Binds K fd ps []
section
variable {X:Cx} {x m:Str} {C:Addr} {k:Nat} {ps:List Str} {sp:Sp} {o e:Expr} {es:List Expr} {t:TA} {ta:TE} {p pos apos:Pos}
theorem GC (h:Lc X.prog X.w X.K X.mg X.base x C k ps sp) (hr:Room (k+1) X.A) (ha:PA X (e::es) t) (hg:Gl X x:=by rfl) (hdb:(x == ("__debug__":Str))=false:=by decide)
    (he:starEach (e::es) X.env=(false,eval e X.env)::starEach es X.env:=by rfl) (hpl:(backTo pos (starEach es X.env)).any (·.1)=false:=by rfl):
    PE X (.Call (.Name x p) (e::es) [] pos) (KJ C sp [] E0 t):=by
  obtain ⟨f,fd,hm,M,F,hb⟩:=h;exact Pu M F hr hg hm hb .nil KR ha hdb he hpl
theorem Jg {pl:Sem Bool} (he:PE X o ta) (h:Cl X.prog X.w X.K X.mg X.base C m k ps sp) (hr:Room k X.A) (ha:PA X (e::es) t)
    (hst:starEach (e::es) X.env=(false,eval e X.env)::starEach es X.env:=by rfl) (hpl:(backTo pos (starEach es X.env)).any (·.1)=false:=by rfl)
    (ht:eval (.Call (.Attribute o m apos) (e::es) [] pos) X.env=(do
      let ov <-eval o X.env
      standAt apos.atName
      let (f,first) <-holding [ov] (getMethod ov m pl)
      callWith pos f first (backTo pos (starEach (e::es) X.env)) (backToKw pos (keywordEach [] X.env))):=by rfl):
    PE X (.Call (.Attribute o m apos) (e::es) [] pos) (Ht C m sp [] E0 ta t):=by
  obtain ⟨f,fd,c,hm,F,hb⟩:=h;exact Ol (pl:=pl) he c hm F hr hb .nil KR ha hst hpl ht
theorem BK {pl:Sem Bool} (he:PE X o ta) (h:Cl X.prog X.w X.K X.mg X.base C m k ps sp) (hr:Room k X.A)
    (ht:eval (.Call (.Attribute o m apos) [] [] pos) X.env=(do
      let ov <-eval o X.env
      standAt apos.atName
      let (f,first) <-holding [ov] (getMethod ov m pl)
      callWith pos f first (backTo pos (starEach [] X.env)) (backToKw pos (keywordEach [] X.env))):=by rfl):
    PE X (.Call (.Attribute o m apos) [] [] pos) (Ht C m sp [] E0 ta Ll):=by
  obtain ⟨f,fd,c,hm,F,hb⟩:=h;exact Ng (pl:=pl) he c hm F hr hb .nil KR ht
end
structure Kind (K:PySem.W.Frag) (C:Addr):Prop where
  cl:Cls K C
  ha:PySem.W.findIn K (.ref C) "__class__"=some (some (.builtin "object.__class__"))
  hn:PySem.W.specialIn K (.builtin "object.__class__") "__get__"=some (some (.builtin "getset_descriptor.__get__"))
  htk:PySem.W.takesIn K (.builtin "object.__class__")=some true
  hm:PySem.W.mroIn K C (.type "object")=some true
section
variable {K:PySem.W.Frag} {H:Hp} {Q:VK} {σ:St} {D:Ends} {te tv:TE} {t:TA} {a C dx:Addr} {fs:List (Str × V)} {f:Str} {v:V} {sp:Sp}
theorem Qx (h:te σ H λ x H1=>∃ a C dx fs v,x= .ref a/\H1 a=some (.ins C dx fs)/\Cls K C/\NoAttr K C f/\fs.lookup f=some v/\Q v H1):QB K te f σ H Q:=h
theorem Qo (h:tv σ H λ y H1=>te σ H1 λ x H2=>∃ a C dx fs,x= .ref a/\H2 a=some (.ins C dx fs)/\Cls K C/\NoAttr K C f/\fs.length<1000/\D.nx σ (upd H2 a (.ins C dx (C8 f y fs)))):V7 K te tv f D σ H:=h
theorem Mg {y:V} (e:H a=some (.ins C dx fs)) (c:Cls K C) (n:NoAttr K C f) (l:fs.length<1000) (h:D.nx σ (upd H a (.ins C dx (C8 f y fs)))):∃ a' C' dx' fs',V.ref a= .ref a'/\H a'=some (.ins C' dx' fs')/\Cls K C'/\NoAttr K C' f/\fs'.length<1000/\D.nx σ (upd H a' (.ins C' dx' (C8 f y fs'))):=⟨a,C,dx,fs,rfl,e,c,n,l,h⟩
theorem Pi (h:t σ H λ vs H1=>∀ x dx,H1 x=none->H1 dx=none->dx≠x->sp (.ref x::vs) (upd (upd H1 dx (.own x)) x (.ins C dx [])) (λ v H2=>v= .non/\Q (.ref x) H2) E0):KJ C sp [] E0 t σ H Q:=by
  unfold KJ;simpa using h
theorem Pg {m:Str} (h:te σ H λ x H1=>∃ a dx fs,x= .ref a/\H1 a=some (.ins C dx fs)/\fs.lookup m=none/\t σ H1 λ vs H2=>sp (x::vs) H2 Q E0):Ht C m sp [] E0 te t σ H Q:=by
  unfold Ht;simpa using h
end
theorem N7 {r r':R2} {ta tb tc:TE} {σ:St} {H:Hp} {Q:VK} (h:ta σ H λ x H1=>tb σ H1 λ y H2=>r x y H2 λ z H3=>∃ k,z= .bl k/\(if k=true then tc σ H3 λ w' H4=>r' y w' H4 Q else Q (.bl false) H3)):MQ r r' ta tb tc σ H Q:=h
def Iq (x:V) (a b:Int):Bool:=match x with | .int i=>decide (a<=i)&&decide (i<=b) | _=>false
theorem Jv {b b':Bool} {Q:VK} {H:Hp} (e:b=b') (h:Q (.bl b') H):Q (.bl b) H:=e▸h
theorem ME {b:Bool} {A B:Prop} (h1:b=true->A) (h2:b=false->B):if b=true then A else B:=by
  cases b with
  | true=>exact h1 rfl
  | false=>exact h2 rfl
theorem Jf {H:Hp} {x dx:Addr} {o:HO} {u:HO} (h1:H x=none) (h2:H dx=none):Same H (upd (upd H dx u) x o):=λ b q e=>by
  rw [Am (Au e h1),Am (Au e h2)];exact e
mutual
def eqD:Dt->Dt->Bool
  | .non, .non=>true
  | .bl a, .bl b=>a == b
  | .int a, .int b=>a == b
  | .str a, .str b=>a == b
  | .bl a, .int b=>(if a then 1 else 0) == b
  | .int a, .bl b=>a == (if b then 1 else 0)
  | .lst xs, .lst ys=>Eu xs ys
  | .tup xs, .tup ys=>Eu xs ys
  | _,_=>false
def Eu:List Dt->List Dt->Bool
  | [],[]=>true
  | x::xs,y::ys=>eqD x y&&Eu xs ys
  | _,_=>false
end
theorem Dw:∀ {xs ys:List Dt},xs.length≠ys.length->Eu xs ys=false
  | [],[],h=>absurd rfl h
  | [],_::_,_=>by unfold Eu;rfl
  | _::_,[],_=>by unfold Eu;rfl
  | x::xs,y::ys,h=>by
    unfold Eu;rw [Dw (xs:=xs) (ys:=ys) (λ e=>h (by simp [e])),Bool.and_false]
theorem Dx:∀ {xs ys:List Dt},xs.length=ys.length->Eu xs ys=(List.range xs.length).all λ i=>eqD (xs.getD i .non) (ys.getD i .non)
  | [],[],_=>by unfold Eu;rfl
  | [],_::_,h=>by simp at h
  | _::_,[],h=>by simp at h
  | x::xs,y::ys,h=>by
    unfold Eu;rw [Dx (xs:=xs) (ys:=ys) (by simpa using h),List.length_cons,List.range_succ_eq_map,List.all_cons,List.all_map];rfl
mutual
theorem GB:∀ d:Dt,eqD d d=true
  | .non=>by unfold eqD;rfl
  | .bl a=>by unfold eqD;simp
  | .int a=>by unfold eqD;simp
  | .str a=>by unfold eqD;simp
  | .lst xs=>by unfold eqD;exact Fk xs
  | .tup xs=>by unfold eqD;exact Fk xs
theorem Fk:∀ d:List Dt,Eu d d=true
  | []=>by unfold Eu;rfl
  | x::xs=>by unfold Eu;rw [GB x,Fk xs];rfl
end
theorem Rp.inj {H:Hp} {F G:Addr->Prop} {n m:Nat} {v:V} {d e:Dt} (r:Rp H F n v d) (r2:Rp H G m v e):d=e:=by
  induction r generalizing m e with
  | non=>cases r2;rfl
  | bl b=>cases r2;rfl
  | int i=>cases r2;rfl
  | str z=>cases r2;rfl
  | @lst n a vs ds h f b l el ih=>
    cases r2 with
    | @lst m _ vs2 ds2 h2 f2 b2 l2 el2=>
      rw [h] at h2;cases h2;congr 1;refine List.ext_getElem (by omega) λ i h1 h3=> ?_;have hv:i<vs.length:=by omega
      exact ih i vs[i] ds[i] (by simp [hv]) (by simp [h1]) (el2 i vs[i] ds2[i] (by simp [hv]) (by simp [h3]))
    | tup h2 _ _ _=>rw [h] at h2;cases h2
  | @tup n a vs ds h b l el ih=>
    cases r2 with
    | @tup m _ vs2 ds2 h2 b2 l2 el2=>
      rw [h] at h2;cases h2;congr 1;refine List.ext_getElem (by omega) λ i h1 h3=> ?_;have hv:i<vs.length:=by omega
      exact ih i vs[i] ds[i] (by simp [hv]) (by simp [h1]) (el2 i vs[i] ds2[i] (by simp [hv]) (by simp [h3]))
    | lst h2 _ _ _ _=>rw [h] at h2;cases h2
section
variable {X:Cx} {pins:List (Addr × Obj)} {σ:St} {H:Hp} {s:Shared}
theorem FW {F G:Addr->Prop} {n:Nat} {xs ys:List V} {ds es:List Dt} {its its2:List Value} {A:Around} (r:Vals xs its) (r2:Vals ys its2) (l1:xs.length=ds.length) (l2:ys.length=es.length)
    (el:∀ (i:Nat) (v:V) (d:Dt),xs[i]?=some v->ds[i]?=some d->Rp H F n v d) (el2:∀ (i:Nat) (v:V) (d:Dt),ys[i]?=some v->es[i]?=some d->Rp H G n v d)
    (ih:∀ {v u:V} {d e:Dt} {rv ru:Value},Rp H F n v d->Rp H G n u e->RelV v rv->RelV u ru->SeqAt.EqAt A s rv ru (eqD d e)):
    ∀ j (h1:j<its.toArray.size) (h2:j<its2.toArray.size),SeqAt.EqAt A s its.toArray[j] its2.toArray[j] (eqD (ds.getD j .non) (es.getD j .non)):=λ j h1 h2=>by
  have k1:=r.length;have k2:=r2.length;have h1':j<its.length:=by simpa using h1
  have h2':j<its2.length:=by simpa using h2
  have g1:xs[j]?=some (xs.getD j .non):=by rw [List.getD_eq_getElem?_getD,List.getElem?_eq_getElem (by omega)];rfl
  have g2:ys[j]?=some (ys.getD j .non):=by rw [List.getD_eq_getElem?_getD,List.getElem?_eq_getElem (by omega)];rfl
  have d1:ds[j]?=some (ds.getD j .non):=by rw [List.getD_eq_getElem?_getD,List.getElem?_eq_getElem (by omega)];rfl
  have d2:es[j]?=some (es.getD j .non):=by rw [List.getD_eq_getElem?_getD,List.getElem?_eq_getElem (by omega)];rfl
  obtain ⟨u,e1,ru⟩:=r.get g1;obtain ⟨u2,e2,ru2⟩:=r2.get g2;have q1:its.toArray[j]=u:=by rw [List.getElem?_eq_getElem h1'] at e1;simpa using Option.some.inj e1
  have q2:its2.toArray[j]=u2:=by rw [List.getElem?_eq_getElem h2'] at e2;simpa using Option.some.inj e2
  rw [q1,q2];exact ih (el j _ _ g1 d1) (el2 j _ _ g2 d2) ru ru2
theorem DT (A:Around):A.in1.units=A.units+1:=rfl
theorem Mr (I:Inv X pins σ H s) {F G:Addr->Prop}:∀ {n:Nat} {A:Around} {v u:V} {d e:Dt} {rv ru:Value},Rp H F n v d->Rp H G n u e->RelV v rv->RelV u ru->A.units+n<cLine->SeqAt.EqAt A s rv ru (eqD d e):=by
  intro n;have sc:∀ {n m:Nat} {A:Around} {v u:V} {d e:Dt} {rv ru:Value},Rp H F n v d->Rp H G m u e->(Cn d||B3 d)=false->(Cn e||B3 e)=false->RelV v rv->RelV u ru->SeqAt.EqAt A s rv ru (eqD d e):=by
    intro n m A v u d e rv ru r r2 n1 n2 rr rr2;cases r with
    | non=>
      cases rr;cases r2 with
      | non=>
        cases rr2;simp only [eqD];exact (show SeqAt.EqAt A s Value.none Value.none true from SeqAt.EqAt.same _)
      | bl x2=>
        cases rr2;simp only [eqD];exact SeqAt.EqAt.none_bool _
      | int x2=>
        obtain ⟨t2,rfl⟩:=rr2;simp only [eqD];exact SeqAt.EqAt.none_int _ _
      | str x2=>
        obtain ⟨t2,rfl⟩:=rr2;simp only [eqD];exact SeqAt.EqAt.none_str _ _
      | lst _ _ _ _ _=>cases n2
      | tup _ _ _ _=>cases n2
    | bl x1=>
      cases rr;cases r2 with
      | non=>
        cases rr2;simp only [eqD];exact SeqAt.EqAt.bool_none _
      | bl x2=>
        cases rr2;simp only [eqD];exact SeqAt.EqAt.bool_bool _ _
      | int x2=>
        obtain ⟨t2,rfl⟩:=rr2;simp only [eqD];exact SeqAt.EqAt.bool_int _ _ _
      | str x2=>
        obtain ⟨t2,rfl⟩:=rr2;simp only [eqD];exact SeqAt.EqAt.bool_str _ _ _
      | lst _ _ _ _ _=>cases n2
      | tup _ _ _ _=>cases n2
    | int x1=>
      obtain ⟨t1,rfl⟩:=rr;cases r2 with
      | non=>
        cases rr2;simp only [eqD];exact SeqAt.EqAt.int_none _ _
      | bl x2=>
        cases rr2;simp only [eqD];exact SeqAt.EqAt.int_bool _ _ _
      | int x2=>
        obtain ⟨t2,rfl⟩:=rr2;simp only [eqD];exact SeqAt.EqAt.int_int _ _ _ _
      | str x2=>
        obtain ⟨t2,rfl⟩:=rr2;simp only [eqD];exact SeqAt.EqAt.int_str _ _ _ _
      | lst _ _ _ _ _=>cases n2
      | tup _ _ _ _=>cases n2
    | str x1=>
      obtain ⟨t1,rfl⟩:=rr;cases r2 with
      | non=>
        cases rr2;simp only [eqD];exact SeqAt.EqAt.str_none _ _
      | bl x2=>
        cases rr2;simp only [eqD];exact SeqAt.EqAt.str_bool _ _ _
      | int x2=>
        obtain ⟨t2,rfl⟩:=rr2;simp only [eqD];exact SeqAt.EqAt.str_int _ _ _ _
      | str x2=>
        obtain ⟨t2,rfl⟩:=rr2;simp only [eqD];exact SeqAt.EqAt.str_str _ _ _ _
      | lst _ _ _ _ _=>cases n2
      | tup _ _ _ _=>cases n2
    | lst _ _ _ _ _=>cases n1
    | tup _ _ _ _=>cases n1
  induction n with
  | zero=>
    intro A v u d e rv ru r r2 rr rr2 hu;exact sc r r2 (by cases r <;> rfl) (by cases r2 <;> rfl) rr rr2
  | succ n ih=>
    intro A v u d e rv ru r r2 rr rr2 hu;have hu':A.units<cLine:=by omega
    cases h1:(Cn d||B3 d) with
    | false=>
      cases h2:(Cn e||B3 e) with
      | false=>exact sc r r2 h1 h2 rr rr2
      | true=>
        cases r2 with
        | @lst _ b ys es q2 f2 b2 l2 el2=>
          obtain rfl:ru=Value.ref b:=rr2;obtain ⟨its2,rv2,pl2,_⟩:=I.list (SqL.of q2);cases r with
          | non=>cases rr;simp only [eqD];exact SeqAt.EqAt.none_list pl2.isList hu'
          | bl x1=>cases rr;simp only [eqD];exact SeqAt.EqAt.bool_list _ pl2.isList hu'
          | int x1=>obtain ⟨t,rfl⟩:=rr;simp only [eqD];exact SeqAt.EqAt.int_list _ _ pl2.isList hu'
          | str x1=>obtain ⟨t,rfl⟩:=rr;simp only [eqD];exact SeqAt.EqAt.str_list _ _ pl2.isList hu'
          | lst _ _ _ _ _=>cases h1
          | tup _ _ _ _=>cases h1
        | @tup _ b ys es q2 b2 l2 el2=>
          obtain rfl:ru=Value.ref b:=rr2;obtain ⟨its2,rv2,pl2,_⟩:=I.tuple (SqT.of q2);have pl2:s.heap.IsTuple b its2.toArray:=pl2;cases r with
          | non=>cases rr;simp only [eqD];exact SeqAt.EqAt.none_tuple pl2 hu'
          | bl x1=>cases rr;simp only [eqD];exact SeqAt.EqAt.bool_tuple _ pl2 hu'
          | int x1=>obtain ⟨t,rfl⟩:=rr;simp only [eqD];exact SeqAt.EqAt.int_tuple _ _ pl2 hu'
          | str x1=>obtain ⟨t,rfl⟩:=rr;simp only [eqD];exact SeqAt.EqAt.str_tuple _ _ pl2 hu'
          | lst _ _ _ _ _=>cases h1
          | tup _ _ _ _=>cases h1
        | _=>cases h2
    | true=>
      cases r with
      | @lst _ a xs ds q1 f1 b1 l1 el1=>
        obtain rfl:rv=Value.ref a:=rr;obtain ⟨its,rv1,pl,_⟩:=I.list (SqL.of q1);have k1:=rv1.length;cases r2 with
        | @lst _ b ys es q2 f2 b2 l2 el2=>
          obtain rfl:ru=Value.ref b:=rr2;obtain ⟨its2,rv2,pl2,_⟩:=I.list (SqL.of q2);have k2:=rv2.length;by_cases hab:a=b
          · subst hab;have e:=(Rp.lst (n:=n) q1 f1 b1 l1 el1).inj (Rp.lst (n:=n) q2 f2 b2 l2 el2);rw [e,GB];exact SeqAt.EqAt.same _
          · refine SeqAt.EqAt.of_refs hab ?_;simp only [eqD];by_cases hl:ds.length=es.length
            · rw [Dx hl];have q:=SeqAt.RcAt.lists (A:=A) (e:=λ i=>eqD (ds.getD i .non) (es.getD i .non)) pl.isList pl2.isList (by simp;omega) hu' (FW rv1 rv2 l1 l2 el1 el2 λ r r2 rr rr2=>ih r r2 rr rr2 (by rw [DT];omega));rw [show its.toArray.size=ds.length by simp;omega] at q;exact q
            · rw [Dw hl];exact SeqAt.RcAt.lists_lengths pl.isList pl2.isList (by simp;omega) hu'
        | @tup _ b ys es q2 b2 l2 el2=>
          obtain rfl:ru=Value.ref b:=rr2;obtain ⟨its2,rv2,pl2,_⟩:=I.tuple (SqT.of q2);simp only [eqD];exact SeqAt.EqAt.list_tuple pl.isList (show s.heap.IsTuple b its2.toArray from pl2) hu'
        | non=>cases rr2;simp only [eqD];exact SeqAt.EqAt.list_none pl.isList hu'
        | bl x1=>cases rr2;simp only [eqD];exact SeqAt.EqAt.list_bool _ pl.isList hu'
        | int x1=>obtain ⟨t,rfl⟩:=rr2;simp only [eqD];exact SeqAt.EqAt.list_int _ _ pl.isList hu'
        | str x1=>obtain ⟨t,rfl⟩:=rr2;simp only [eqD];exact SeqAt.EqAt.list_str _ _ pl.isList hu'
      | @tup _ a xs ds q1 b1 l1 el1=>
        obtain rfl:rv=Value.ref a:=rr;obtain ⟨its,rv1,pl,_⟩:=I.tuple (SqT.of q1);have pl:s.heap.IsTuple a its.toArray:=pl;have k1:=rv1.length;cases r2 with
        | @tup _ b ys es q2 b2 l2 el2=>
          obtain rfl:ru=Value.ref b:=rr2;obtain ⟨its2,rv2,pl2,_⟩:=I.tuple (SqT.of q2);have pl2:s.heap.IsTuple b its2.toArray:=pl2;have k2:=rv2.length;by_cases hab:a=b
          · subst hab;have e:=(Rp.tup (n:=n) (F:=F) q1 b1 l1 el1).inj (Rp.tup (n:=n) (F:=G) q2 b2 l2 el2);rw [e,GB];exact SeqAt.EqAt.same _
          · refine SeqAt.EqAt.of_refs hab ?_;simp only [eqD];have q:=SeqAt.RcAt.tuples (A:=A) (e:=λ i=>eqD (ds.getD i .non) (es.getD i .non)) pl pl2 hu' (FW rv1 rv2 l1 l2 el1 el2 λ r r2 rr rr2=>ih r r2 rr rr2 (by rw [DT];omega));have e1:its.toArray.size=ds.length:=by simp;omega
            have e2:its2.toArray.size=es.length:=by simp;omega
            rw [e1,e2] at q;by_cases hl:ds.length=es.length
            · rw [Dx hl];rw [<-hl,Nat.min_self,beq_self_eq_true,Bool.and_true] at q;exact q
            · rw [Dw hl];rw [beq_eq_false_iff_ne.mpr hl,Bool.and_false] at q;exact q
        | @lst _ b ys es q2 f2 b2 l2 el2=>
          obtain rfl:ru=Value.ref b:=rr2;obtain ⟨its2,rv2,pl2,_⟩:=I.list (SqL.of q2);simp only [eqD];exact SeqAt.EqAt.tuple_list pl pl2.isList hu'
        | non=>cases rr2;simp only [eqD];exact SeqAt.EqAt.tuple_none pl hu'
        | bl x1=>cases rr2;simp only [eqD];exact SeqAt.EqAt.tuple_bool _ pl hu'
        | int x1=>obtain ⟨t,rfl⟩:=rr2;simp only [eqD];exact SeqAt.EqAt.tuple_int _ _ pl hu'
        | str x1=>obtain ⟨t,rfl⟩:=rr2;simp only [eqD];exact SeqAt.EqAt.tuple_str _ _ pl hu'
      | _=>cases h1
def WB (neg:Bool):R2:=λ x y H Q=>∃ (n:Nat) (d e:Dt),n<=30/\Rp H FT n x d/\Rp H FT n y e/\(Cn d&&Cn e||B3 d&&B3 e)=true/\Q (.bl (if neg then !eqD d e else eqD d e)) H
theorem Qn (hu:X.A.units+64<cLine):OpR X (compareOp .Eq) (WB false):=by
  intro pins s σ H x y v u Q I rx ry h;obtain ⟨n,d,e,hn,r,r2,hs,q⟩:=h;cases r with
  | @lst m a xs ds q1 f1 b1 l1 el1=>
    cases r2 with
    | @lst _ b ys es q2 f2 b2 l2 el2=>
      obtain rfl:v=Value.ref a:=rx;obtain rfl:u=Value.ref b:=ry;obtain ⟨its,rv1,pl,_⟩:=I.list (SqL.of q1);obtain ⟨its2,rv2,pl2,_⟩:=I.list (SqL.of q2);have k1:=rv1.length;have k2:=rv2.length;have q:Q (.bl (Eu ds es)) H:=by
        have q:=q;unfold eqD at q;exact q
      by_cases hl:ds.length=es.length
      · refine SeqAt.eq_listAt (e:=λ i=>eqD (ds.getD i .non) (es.getD i .non)) pl.isList pl2.isList (by simp;omega) (by omega) (FW rv1 rv2 l1 l2 el1 el2 λ r r2 rr rr2=>Mr I r r2 rr rr2 (by rw [DT];omega)) ⟨.bl _,H,I,rfl,?_⟩;rw [show its.toArray.size=ds.length by simp;omega, <-Dx hl];exact q
      · refine SeqAt.eq_list_lengthsAt pl.isList pl2.isList (by simp;omega) (by omega) ⟨.bl _,H,I,rfl,?_⟩;rw [<-Dw hl];exact q
    | _=>cases hs
  | @tup m a xs ds q1 b1 l1 el1=>
    cases r2 with
    | @tup _ b ys es q2 b2 l2 el2=>
      obtain rfl:v=Value.ref a:=rx;obtain rfl:u=Value.ref b:=ry;obtain ⟨its,rv1,pl,_⟩:=I.tuple (SqT.of q1);obtain ⟨its2,rv2,pl2,_⟩:=I.tuple (SqT.of q2);have k1:=rv1.length;have k2:=rv2.length;have q:Q (.bl (Eu ds es)) H:=by
        have q:=q;unfold eqD at q;exact q
      refine SeqAt.eq_tupleAt (e:=λ i=>eqD (ds.getD i .non) (es.getD i .non)) (show s.heap.IsTuple a its.toArray from pl) (show s.heap.IsTuple b its2.toArray from pl2) (by omega) (FW rv1 rv2 l1 l2 el1 el2 λ r r2 rr rr2=>Mr I r r2 rr rr2 (by rw [DT];omega)) ⟨.bl _,H,I,rfl,?_⟩;have e1:its.toArray.size=ds.length:=by simp;omega
      have e2:its2.toArray.size=es.length:=by simp;omega
      rw [e1,e2];by_cases hl:ds.length=es.length
      · rw [<-hl,Nat.min_self,beq_self_eq_true,Bool.and_true, <-Dx hl];exact q
      · rw [beq_eq_false_iff_ne.mpr hl,Bool.and_false, <-Dw hl];exact q
    | _=>cases hs
  | _=>cases hs
end
end L2
namespace L2
open PySem PySem.Spec PyProof.Rows
abbrev dN (n:Nat):Dt:= .int (n:Nat)
def dT (ns:List Nat):Dt:= .tup (ns.map dN)
def dS (zs:List Str):Dt:= .lst (zs.map .str)
section
variable {H:Hp} {F:Addr->Prop} {n:Nat} {v:V}
theorem GS {ds:List Dt} (r:Rp H F n v (.lst ds)):∃ m a vs,n=m+1/\v= .ref a/\H a=some (.lst vs)/\F a/\vs.length=ds.length/\vs.length<=100000/\∀ i,i<ds.length->Rp H F m (vs.getD i .non) (ds.getD i .non):=by
  cases r with
  | @lst m a vs _ h f b l e=>
    refine ⟨m,a,vs,rfl,rfl,h,f,l,b,λ i hi=>e i _ _ ?_ ?_⟩
    · rw [List.getD_eq_getElem?_getD,List.getElem?_eq_getElem (by omega)];rfl
    · rw [List.getD_eq_getElem?_getD,List.getElem?_eq_getElem hi];rfl
theorem J2 {ds:List Dt} (r:Rp H F n v (.tup ds)):∃ m a vs,n=m+1/\v= .ref a/\H a=some (.tup vs)/\vs.length=ds.length/\vs.length<=100000/\∀ i,i<ds.length->Rp H F m (vs.getD i .non) (ds.getD i .non):=by
  cases r with
  | @tup m a vs _ h b l e=>
    refine ⟨m,a,vs,rfl,rfl,h,l,b,λ i hi=>e i _ _ ?_ ?_⟩
    · rw [List.getD_eq_getElem?_getD,List.getElem?_eq_getElem (by omega)];rfl
    · rw [List.getD_eq_getElem?_getD,List.getElem?_eq_getElem hi];rfl
theorem GD {α β:Type} (f:α->β) (as:List α) (i:Nat) (x:β) (y:α) (h:i<as.length):(as.map f).getD i x=f (as.getD i y):=by simp [List.getD_eq_getElem?_getD,h]
theorem getD_mem {α:Type} {as:List α} {i:Nat} {y:α} (h:i<as.length):as.getD i y∈as:=by
  rw [List.getD_eq_getElem?_getD,List.getElem?_eq_getElem h];exact List.getElem_mem h
end
section
variable {H:Hp} {a:Addr} {kvs:List (Key × V)}
end
theorem Sz {xs:List V} {k:Int} (h:0<=k):Gi xs (some k) none=xs.drop k.toNat:=by
  unfold Gi;have e2:HT.sIx xs.length xs.length none=xs.length:=rfl;rw [e2];have e1:HT.sIx xs.length 0 (some k)=min k.toNat xs.length:=by
    unfold HT.sIx;simp only;split <;> omega
  rw [e1];by_cases q:k.toNat<=xs.length
  · rw [Nat.min_eq_left q,List.take_of_length_le (by simp)]
  · rw [Nat.min_eq_right (by omega),List.drop_of_length_le (Nat.le_refl _),List.drop_of_length_le (by omega)];simp
theorem RL {xs:List V} {k:Int} (h:0<=k):Gi xs none (some k)=xs.take k.toNat:=by
  unfold Gi;have e2:HT.sIx xs.length 0 none=0:=rfl;rw [e2,List.drop_zero];have e1:HT.sIx xs.length xs.length (some k)=min k.toNat xs.length:=by
    unfold HT.sIx;simp only;split <;> omega
  rw [e1,Nat.sub_zero];by_cases q:k.toNat<=xs.length
  · rw [Nat.min_eq_left q]
  · rw [Nat.min_eq_right (by omega),List.take_of_length_le (Nat.le_refl _),List.take_of_length_le (by omega)]
section
variable {K:PySem.W.Frag} {wi:TI} {own:List Str} {fr:List (Str × Nat)} {g:TG} {tc:TT} {te tl:TE} {tb:TS} {D:Ends} {σ:St} {H:Hp} {Q:VK} {R:It->Hp->Prop} {ta:TA}
theorem Ou (h:wi σ H λ J H1=>∀ D,H1 D=none->Eb J (B5 own fr σ) g tc te Q H1 D):Ei wi own fr g tc te σ H Q:=h
theorem Rk (h:wi σ H λ J H1=>∃ W:Nat->Nat->St->Hp->Prop,(∃ m,W 0 m σ H1)/\∀ i m σ H,W i m σ H->
  (J.stop i H/\D.nx σ H)\/(J.go i H/\∃ N:St->Hp->Prop,(∀ σ' H',N σ' H'->∃ m',m'<m/\W (i+1) m' σ' H')/\∀ x H',J.yld i H x H'->g x σ H' λ σ2 H2=>tb { D with nx:=N,ct:=N,bk:=D.nx } σ2 H2)):UO wi g tb D σ H:=h
theorem TD (h:tl σ H λ x H1=>∃ a,x= .ref a/\(∃ xs,SqL K H1 a xs)/\R (Itl K a) H1):Ny K tl σ H R:=h
theorem Ta (h:tl σ H λ x H1=>∃ a,x= .ref a/\(∃ xs,SqT K H1 a xs)/\R (Itt K a) H1):Q5 K tl σ H R:=h
theorem Wg (h:tl σ H λ x H1=>∃ tp a,x= .ref a/\(∃ xs,SqS tp K H1 a xs)/\R (Isq tp K a) H1):iSq K tl σ H R:=h
theorem Vq (h:ta σ H λ vs H1=>∃ a,vs=[.ref a]/\(∃ xs,SqL K H1 a xs)/\R (Ite K a) H1):PU K ta σ H R:=h
theorem T3 (h:ta σ H λ vs H1=>∃ tp a,vs=[.ref a]/\(∃ xs,SqS tp K H1 a xs)/\R (Mx tp K a) H1):ND K ta σ H R:=h
theorem Ua (h:ta σ H λ vs H1=>∃ t1 t2 a b,vs=[.ref a, .ref b]/\(∃ xs,SqS t1 K H1 a xs)/\(∃ ys,SqS t2 K H1 b ys)/\R (Izs t1 t2 K a b) H1):iZs K ta σ H R:=h
theorem SZ (h:ta σ H λ vs H1=>∃ j:Int,vs=[.int j]/\ -(2 ^ 62)<=j/\j<2 ^ 62/\R (Itr 0 j.toNat) H1):P9 ta σ H R:=h
theorem VF (h:ta σ H λ vs H1=>∃ i j:Int,vs=[.int i, .int j]/\(-(2 ^ 62)<=i/\i<2 ^ 62/\ -(2 ^ 62)<=j/\j<2 ^ 62)/\R (Itr i (j - i).toNat) H1):PQ ta σ H R:=h
end
theorem FX {K:PySem.W.Frag} {n:Nat} {t:TGs} {a:Addr} {xs:List V} {σ:St} {H:Hp} {QS:St->Hp->Prop} (h:SqT K H a xs) (l:xs.length=n) (k:t xs σ H QS):GE K n t (.ref a) σ H QS:=⟨a,xs,rfl,h,l,k⟩
theorem Mq {t:TG} {u:TGs} {v:V} {vs:List V} {σ:St} {H:Hp} {QS:St->Hp->Prop} (k:t v σ H λ σ' H'=>u vs σ' H' QS):BE t u (v::vs) σ H QS:=⟨v,vs,rfl,k⟩
theorem Pj {σ:St} {H:Hp} {QS:St->Hp->Prop} (k:QS σ H):G3 [] σ H QS:=⟨rfl,k⟩
theorem AM {J:It} {g:TG} {H0 H:Hp} {n:Nat} {set:Nat->St->St} {tb:TS} {D:Ends} {σ:St} (S:FSrc J g H0 n set) (Pv:Nat->St->Hp->Prop) (h0:Pv 0 σ H) (hk:∀ i σ H',Pv i σ H'->Same H0 H')
    (hs:∀ i σ H' H3,i<n->Pv i σ H'->Same H' H3->tb { D with nx:=Pv (i+1),ct:=Pv (i+1),bk:=D.nx } (set i σ) H3) (hd:∀ σ H',Pv n σ H'->D.nx σ H'):
    ∃ W:Nat->Nat->St->Hp->Prop,(∃ m,W 0 m σ H)/\∀ i m σ H,W i m σ H->
      (J.stop i H/\D.nx σ H)\/(J.go i H/\∃ N:St->Hp->Prop,(∀ σ' H',N σ' H'->∃ m',m'<m/\W (i+1) m' σ' H')/\∀ x H',J.yld i H x H'->g x σ H' λ σ2 H2=>tb { D with nx:=N,ct:=N,bk:=D.nx } σ2 H2):=by
  refine ⟨λ i m σ H'=>m=n - i/\i<=n/\Pv i σ H',⟨n,by simp,Nat.zero_le _,h0⟩,?_⟩;rintro i m σ H1 ⟨rfl,hi,p⟩;by_cases hlt:i<n
  · exact .inr ⟨S.go i H1 hlt (hk _ _ _ p),Pv (i+1),λ σ' H' p'=>⟨n - (i+1),by omega,rfl,hlt,p'⟩,λ x H' y=>S.yld i σ H1 x H' _ hlt (hk _ _ _ p) y λ H3 s3=>hs i σ H1 H3 hlt p s3⟩
  · have e:i=n:=by omega
    subst e;exact .inl ⟨S.stop H1 (hk _ _ _ p),hd σ H1 p⟩
theorem BM {H:Hp} {i1 n:Nat}:FSrc (Itr 0 n) (AG i1) H n (λ i σ=>σ.set i1 (some (.int (i:Nat)))):=by
  have:=Gj (H:=H) (i1:=i1) (lo:=0) (n:=n);simpa using this
theorem Bt {n:Nat} {σ0:St} {H:Hp} (h0:σ0[0]?=some none):SrcOk (Itr 0 n) (AG 0) σ0 H n (λ i=>σ0.set 0 (some (.int (i:Nat)))):=by
  have:=HE (H:=H) (lo:=0) (n:=n) h0;simpa using this
theorem WG {H:Hp} {F:Addr->Prop} {n:Nat} {a:Addr} {x y:V} {d e:Dt} (h:H a=some (.lst [x,y])) (f:F a) (r1:Rp H F n x d) (r2:Rp H F n y e):Rp H F (n+1) (.ref a) (.lst [d,e]):=by
  refine .lst h f (by simp) rfl λ i v u h1 h2=> ?_
  match i with
  | 0=>cases h1;cases h2;exact r1
  | 1=>cases h1;cases h2;exact r2
  | i+2=>cases h1
theorem CY {H:Hp} {F:Addr->Prop} {n:Nat} {a:Addr} {x y:V} {d e:Dt} (h:H a=some (.tup [x,y])) (r1:Rp H F n x d) (r2:Rp H F n y e):Rp H F (n+1) (.ref a) (.tup [d,e]):=by
  refine .tup h (by simp) rfl λ i v u h1 h2=> ?_
  match i with
  | 0=>cases h1;cases h2;exact r1
  | 1=>cases h1;cases h2;exact r2
  | i+2=>cases h1
theorem VE {A B:Prop} (h:B):if (!true)=true then A else B:=by simpa using h
theorem Uf {A B:Prop} (h:A):if (!false)=true then A else B:=by simpa using h
theorem Ps {n:Nat} (G:Nat->Nat):(((List.range n).map λ i=>((G i:Nat):Int))).sum=(((List.range n).map G).sum:Nat):=by
  induction n with
  | zero=>rfl
  | succ n ih=>rw [List.range_succ,List.map_append,List.map_append,List.sum_append,List.sum_append,ih];simp
end L2
namespace L2
theorem getD_el {α:Type} {as:List α} {i:Nat} {y:α} (h:i<as.length):as.getD i y=as[i]:=by
  rw [List.getD_eq_getElem?_getD,List.getElem?_eq_getElem h];rfl
end L2
namespace L2
open PySem PySem.Spec PyProof.Rows
def Uo (i j:Int):Prop:=0<j/\j<2 ^ 200
theorem LF {j:Int} (h0:0<j) (h:j<2 ^ 200):j.natAbs.log2<9000:=by
  have h1:j.natAbs<2 ^ 200:=by omega
  have:=(Nat.log2_lt (show j.natAbs≠0 by omega)).mpr h1;omega
theorem AB {X:Cx}:OpR X (binaryOp .FloorDiv) (rI Uo λ i j=> .int (i / j)):=opI λ i j _ _ _ _ _ hc q=>by
  rw [<-Int.fdiv_eq_ediv_of_nonneg i (by have:=hc.1;omega)] at q;exact floordiv_int (by have:=hc.1;omega) q (.inl (PyProof.noPylong_of_log2 (LF hc.1 hc.2)))
section
variable {prog:Program} {w:World} {A:Around} {E:Value->Shared->Prop} {s:Shared} {T:String} {r d:Addr} {n:Nat} {P:Nat->Value->Prop} {St:Nat->Heap->Prop}
end
section
variable {prog:Program} {w:World} {A:Around} {E:Value->Shared->Prop} {s:Shared}
end
section
variable {X:Cx} {K:PySem.W.Frag} {e o:Expr} {ta:TA} {to:TE} {p p2 pos pos2 apos cpos:Pos}
end
section
variable {X:Cx} {K:PySem.W.Frag} {e o:Expr} {es:List Expr} {ta to:TE} {t:TA} {f name:Str} {pos apos cpos:Pos} {T id:String} {r:V->List V->Hp->VK->Prop}
theorem JB (he:PE X e ta) (hb:attributeBase e f X.env (eval e X.env)=eval e X.env) (hK:X.K=K:=by rfl):PE X (.Attribute e f pos) (QB K ta f):=by
  subst hK;exact RW he hb
theorem NL (pa:PlainAttrs T) (slot:Slot T name id) (hty:typeOf (.builtin id)=pure (.type "method_descriptor")) (hm:MtR X id r) (ho:PE X o to) (hK:X.K=K:=by rfl)
    (hbase:attributeBase o name X.env (eval o X.env)=eval o X.env:=by rfl) (hline:(apos.endLine == cpos.line)=true:=by rfl):PE X (.Call (.Attribute o name apos) [] [] cpos) (Re K T r to):=by
  subst hK;exact RI pa slot hty hm ho hbase hline
theorem ET (pa:PlainAttrs T) (slot:Slot T name id) (hty:typeOf (.builtin id)=pure (.type "method_descriptor")) (hm:MtR X id r) (ho:PE X o to) (ha:PA X (e::es) t) (hK:X.K=K:=by rfl)
    (hbase:attributeBase o name X.env (eval o X.env)=eval o X.env:=by rfl)
    (hfew:((backTo cpos (starEach (e::es) X.env)).all (λ x=> !x.1)&&(backToKw cpos (keywordEach [] X.env)).all (λ x=>x.1.isSome)
      && decide ((e::es).length+([]:List Keyword).length+(if ([]:List Keyword).isEmpty then 0 else 1)<30))=true:=by rfl)
    (hline:(apos.endLine == cpos.line)=true:=by rfl) (hs:starEach (e::es) X.env=(false,eval e X.env)::starEach es X.env:=by rfl) (hplain:(backTo cpos (starEach es X.env)).any (·.1)=false:=by rfl):
    PE X (.Call (.Attribute o name apos) (e::es) [] cpos) (tBM K T r to t):=by
  subst hK;exact TK pa slot hty hm ho ha hbase hfew hline hs hplain
end
section
variable {prog:Program} {w:World} {A:Around} {E:Value->Shared->Prop} {s:Shared}
end
section
variable {X:Cx} {K:PySem.W.Frag} {e o:Expr} {ta:TA} {to:TE} {p p2 pos pos2 apos cpos:Pos}
end
section
variable {X:Cx} {k:Nat} {e o:Expr} {es:List Expr} {t:TA} {to:TE} {pos:Pos} {S:Addr->Sp->Prop}
end
theorem arg1 {α:Type} {P:List α->Prop} (h:∀ a0,P [a0]):∀ us:List α,us.length=1->P us:=λ us hl=>match us,hl with | [a0],_=>h a0
theorem arg2 {α:Type} {P:List α->Prop} (h:∀ a0 a1,P [a0,a1]):∀ us:List α,us.length=2->P us:=λ us hl=>match us,hl with | [a0,a1],_=>h a0 a1
theorem arg3 {α:Type} {P:List α->Prop} (h:∀ a0 a1 a2,P [a0,a1,a2]):∀ us:List α,us.length=3->P us:=λ us hl=>match us,hl with | [a0,a1,a2],_=>h a0 a1 a2
theorem arg4 {α:Type} {P:List α->Prop} (h:∀ a0 a1 a2 a3,P [a0,a1,a2,a3]):∀ us:List α,us.length=4->P us:=λ us hl=>match us,hl with | [a0,a1,a2,a3],_=>h a0 a1 a2 a3
theorem arg5 {α:Type} {P:List α->Prop} (h:∀ a0 a1 a2 a3 a4,P [a0,a1,a2,a3,a4]):∀ us:List α,us.length=5->P us:=λ us hl=>match us,hl with | [a0,a1,a2,a3,a4],_=>h a0 a1 a2 a3 a4
theorem arg6 {α:Type} {P:List α->Prop} (h:∀ a0 a1 a2 a3 a4 a5,P [a0,a1,a2,a3,a4,a5]):∀ us:List α,us.length=6->P us:=λ us hl=>match us,hl with | [a0,a1,a2,a3,a4,a5],_=>h a0 a1 a2 a3 a4 a5
theorem arg7 {α:Type} {P:List α->Prop} (h:∀ a0 a1 a2 a3 a4 a5 a6,P [a0,a1,a2,a3,a4,a5,a6]):∀ us:List α,us.length=7->P us:=λ us hl=>match us,hl with | [a0,a1,a2,a3,a4,a5,a6],_=>h a0 a1 a2 a3 a4 a5 a6
theorem arg8 {α:Type} {P:List α->Prop} (h:∀ a0 a1 a2 a3 a4 a5 a6 a7,P [a0,a1,a2,a3,a4,a5,a6,a7]):∀ us:List α,us.length=8->P us:=λ us hl=>match us,hl with | [a0,a1,a2,a3,a4,a5,a6,a7],_=>h a0 a1 a2 a3 a4 a5 a6 a7
theorem arg9 {α:Type} {P:List α->Prop} (h:∀ a0 a1 a2 a3 a4 a5 a6 a7 a8,P [a0,a1,a2,a3,a4,a5,a6,a7,a8]):∀ us:List α,us.length=9->P us:=λ us hl=>match us,hl with | [a0,a1,a2,a3,a4,a5,a6,a7,a8],_=>h a0 a1 a2 a3 a4 a5 a6 a7 a8
theorem IF {M:Model} {A:Around} {E:Value->Shared->Prop} {s:Shared} {scope:Scope} {globals:Addr} {closure:List (Str × Addr)} {qual:Str} {outer:Env} {cx:Str} {Q:Env->Shared->Prop}
    (hc1:∀ n cl,cellsFrom n scope.names cl=(cx,n)::cl) (hc2:∀ h:Heap,pushCells h scope.names=h.push { cls:= .type "cell",data:= .cell none })
    (hQ:Q (newEnv scope s.heap.objs.size globals ((cx,s.heap.objs.size+1)::closure) qual none .none (some outer) builtinsNs) { s with heap:=(s.heap.push { cls:= .type "dict",data:= .dict #[] }).push { cls:= .type "cell",data:= .cell none } }):
    wpAny M A (newFunctionEnv scope globals closure [] qual none .none (some outer)) Q E s:=by
  simp only [newFunctionEnv,Option.isSome_some,if_true];refine wpAny_bind (wpAny_alloc ?_);refine wpAny_bind (wpAny_layCells _ (λ name kind cells=>by cases hkc:kind == NameKind.cell <;> simp [hkc]) _ _ _ _ ?_);rw [hc1,hc2];have e:(s.heap.push { cls:= .type "dict",data:= .dict #[] }).objs.size=s.heap.objs.size+1:=Heap.size_push ..;simp only [e];refine wpAny_bind ?_;rw [List.forIn_nil];exact wpAny_pure (wpAny_pure hQ)
structure BlkScopeC (X:Cx) (scope:Scope) (cx:Str) (own:List Str) (fr:List (Str × Nat)):Prop where
  kind:scope.kind= .function
  onec:∀ y∈scope.names,y.2= .cell->y.1=cx
  isc:scope.names.lookup cx=some .cell
  lay:∀ n cl,cellsFrom n scope.names cl=(cx,n)::cl
  push:∀ h:Heap,pushCells h scope.names=h.push { cls:= .type "cell",data:= .cell none }
  loc:∀ y∈scope.names,y.2= .local->scope.names.lookup y.1=some .local
  free:∀ y∈scope.names,y.2= .free->(X.env.scope.names.lookup y.1=some .cell\/X.env.scope.names.lookup y.1=some .free)
  fr:∀ p∈fr,X.N[p.2]?=some p.1/\(p.1,NameKind.free)∈scope.names
  only:∀ x,(x,NameKind.free)∈scope.names->scope.names.lookup x=some .free
def Bm (X:Cx) (scope:Scope) (cx:Str) (own:List Str) (fr:List (Str × Nat)) (C:Addr) (ex:List Addr) (s:Shared) (H:Hp):Cx where
  prog:=X.prog
  w:=X.w
  K:=X.K
  mg:=X.mg
  base:=X.base
  A:=X.A
  N:=own++fr.map (·.1)
  s₀:=s
  H₀:=H
  env:=compEnvC scope ((cx,C+1)::Aw X.env.cells scope.names []) C X.env
  outer:=X.stack
  stack:=X.stack
  ex:=ex
  fn:=λ y=>y == cx
  calm:=X.calm
  pn:=[]
  xe:=λ _ _=>False
section
variable {X:Cx} {pins:List (Addr × Obj)} {σ:St} {H:Hp} {s:Shared} {scope:Scope} {cx:Str} {own:List Str} {fr:List (Str × Nat)} {fp:List Addr}
theorem BlkScopeC.cells (S:BlkScopeC X scope cx own fr) (ok:X.Ok):∀ y∈scope.names,y.2= .free->∃ c,X.env.cells.lookup y.1=some c:=λ y hy e=>ok.has y.1 (S.free y hy e)
theorem Fs {α:Type} {x y:Str} {a:α} {l:List (Str × α)} (h:y≠x):((x,a)::l).lookup y=l.lookup y:=by
  have:(y == x)=false:=by simpa using h
  rw [List.lookup_cons,this]
theorem HB {α:Type} {x:Str} {a:α} {l:List (Str × α)}:((x,a)::l).lookup x=some a:=by rw [List.lookup_cons,beq_self_eq_true]
theorem Inv.blockC {h':Heap} {t':Nat} {m:Str->Option Value} (I:Inv X pins σ H s) (S:BlkScopeC X scope cx own fr) (hf:∀ b∈fp,B7 X pins H b) (hlt:∀ b∈fp,b<s.heap.objs.size)
    (hns:h'.Ns s.heap.objs.size m) (hce:h'.IsCell (s.heap.objs.size+1) none) (k:∀ b o,s.heap.get? b=some o->h'.get? b=some o):
    Inv (Bm X scope cx own fr s.heap.objs.size fp s H) [] (B5 own fr σ) H { s with heap:=h',toks:=t' }:=by
  have cs:∀ x c,(Aw X.env.cells scope.names []).lookup x=some c->X.env.cells.lookup x=some c:=Ey _ _ (λ _ _ e=>by simp at e);have ck:∀ c v,s.heap.IsCell c v->h'.IsCell c v:=λ c v ⟨o,ho,hd⟩=>⟨o,k _ _ ho,hd⟩;have kf:∀ x,(x,NameKind.free)∈scope.names->∃ c,X.env.cells.lookup x=some c/\(Aw X.env.cells scope.names []).lookup x=some c:=λ x hx=>by
    obtain ⟨c0,e0⟩:=S.cells I.ok (x, .free) hx rfl;obtain ⟨c,e⟩:=EH (cells:=X.env.cells) scope.names [] x (.inl ⟨hx,c0,e0⟩);exact ⟨c,cs _ _ e,e⟩
  have rel:∀ x,(compEnvC scope ((cx,s.heap.objs.size+1)::Aw X.env.cells scope.names []) s.heap.objs.size X.env).kindOf x=(scope.names.lookup x).map λ k=>if (k == NameKind.free&&X.env.scope.kind == .function&&X.env.kindOf x == some .cell)=true then NameKind.cell else k:=λ x=>CP X.env x scope.names
  have nx:∀ y,(y,NameKind.free)∈scope.names->y≠cx:=λ y hy z=>by
    subst z;have:=S.only y hy;rw [S.isc] at this;cases this
  have old:∀ y c,X.env.cells.lookup y=some c->c<s.heap.objs.size:=λ y c e=>by
    obtain ⟨v,o,ho,_⟩:=I.cell y c e;exact Heap.lt_size ho
  have ct:∀ y c,(((cx,s.heap.objs.size+1)::Aw X.env.cells scope.names [])).lookup y=some c->(y=cx/\c=s.heap.objs.size+1)\/(y≠cx/\X.env.cells.lookup y=some c):=λ y c e=>by
    by_cases hy:y=cx
    · subst hy;rw [HB] at e;exact .inl ⟨rfl,(Option.some.inj e).symm⟩
    · rw [Fs hy] at e;exact .inr ⟨hy,cs _ _ e⟩
  have nc:∀ y,scope.names.lookup y=some .cell->y=cx:=λ y e=>S.onec _ (PySem.mem_of_lookup e) rfl;refine ⟨⟨I.ok.mod,S.kind,I.ok.glob,I.ok.blt,Nat.le_refl _,λ x y c e1 e2=> ?inj,λ x hx=> ?_,λ x c e q=> ?cab,I.ok.hd,I.ok.frames, .inl rfl,
    λ b hb=>⟨Nat.ne_of_lt (hlt b hb),λ x c e=> ?exf⟩,I.bs,Nat.le_trans I.ok.bsz I.sz,λ b o e hb=> ?_,λ b hb z=>(List.mem_cons.mp (I.stkSub b z)).elim (hf b hb).2.1 (hf b hb).2.2.1,I.stack,I.stkFree⟩,
    rfl,I.bare,Un.kept k,⟨m,hns,λ i x v e1 e2 e3=> ?_⟩,λ x c e=> ?_,I.hok.fresh (Nat.le_refl _),λ x c e=> ?freeC,λ p hp=>absurd (show p∈([]:List (Addr × Obj)) from hp) (by simp),I.hok.kept k,?_⟩
  case inj=>
    rcases ct x c e1 with ⟨h1,h2⟩ | ⟨h1,h2⟩
    · rcases ct y c e2 with ⟨h3,h4⟩ | ⟨h3,h4⟩
      · rw [h1,h3]
      · have:=old y c h4;rw [h2] at this;exact absurd this (Nat.not_lt.mpr (Nat.le_succ _))
    · rcases ct y c e2 with ⟨h3,h4⟩ | ⟨h3,h4⟩
      · have:=old x c h2;rw [h4] at this;exact absurd this (Nat.not_lt.mpr (Nat.le_succ _))
      · exact I.ok.inj x y c h2 h4
  case cab=>
    have e:(x == cx)=true:=e;have ex:x=cx:=eq_of_beq e;rcases ct x c q with ⟨_,h2⟩ | ⟨h1,_⟩
    · rw [h2];exact Nat.le_succ _
    · exact absurd ex h1
  case exf=>
    rcases ct x c e with ⟨_,h2⟩ | ⟨_,h2⟩
    · have:=hlt b hb;intro z;rw [<-z,h2] at this;exact absurd this (Nat.not_lt.mpr (Nat.le_succ _))
    · exact (hf b hb).2.2.2.2.1 x c h2
  case freeC=>
    rcases ct x c e with ⟨_,h2⟩ | ⟨_,h2⟩
    · rw [h2];exact I.hok.fresh (Nat.le_succ _)
    · exact I.freeC x c h2
  · have hx:(compEnvC scope ((cx,s.heap.objs.size+1)::Aw X.env.cells scope.names []) s.heap.objs.size X.env).kindOf x=some .cell\/(compEnvC scope ((cx,s.heap.objs.size+1)::Aw X.env.cells scope.names []) s.heap.objs.size X.env).kindOf x=some .free:=hx;rw [rel x] at hx;by_cases hxc:x=cx
    · subst hxc;exact ⟨_,HB⟩
    have q:scope.names.lookup x=some .free:=by
      cases e:scope.names.lookup x with
      | none=>rw [e] at hx;simp at hx
      | some kk=>
        rw [e] at hx;simp only [Option.map_some,Option.some.injEq] at hx;by_cases hk:kk= .free
        · rw [hk]
        · have hb:(kk == NameKind.free)=false:=by simpa using hk
          simp only [hb,Bool.false_and,Bool.false_eq_true,if_false] at hx;rcases hx with hx | hx
          · rw [hx] at e;exact absurd (nc x e) hxc
          · exact absurd hx hk
    obtain ⟨c,_,e⟩:=kf x (PySem.mem_of_lookup q);exact ⟨c,(Fs hxc).trans e⟩
  · rcases (hf b hb).2.2.2.1 with z | z
    · exact I.ok.noex b o e z
    · exact absurd (Nat.lt_of_lt_of_le (Heap.lt_size (I.ok.bs b o e).1) z) (Nat.lt_irrefl _)
  · have e1:(own++fr.map (·.1))[i]?=some x:=e1;have e2:(B5 own fr σ)[i]?=some (some v):=e2;unfold B5 at e2;by_cases hi:i<own.length
    · rw [List.getElem?_append_left (by simpa using hi),List.getElem?_map] at e2;rw [List.getElem?_eq_getElem hi] at e2;simp at e2
    · rw [List.getElem?_append_right (by simpa using hi),List.getElem?_map,List.length_map] at e2;rw [List.getElem?_append_right (by omega),List.getElem?_map] at e1;cases ep:fr[i - own.length]? with
      | none=>rw [ep] at e1;simp at e1
      | some p=>
        rw [ep] at e1 e2;simp only [Option.map_some,Option.some.injEq] at e1 e2;subst e1;obtain ⟨h1,h2⟩:=S.fr p (List.mem_of_getElem? ep);have e4:σ[p.2]?=some (some v):=by
          cases q:σ[p.2]? with
          | none=>rw [q] at e2;simp at e2
          | some z=>rw [q] at e2;simp at e2;rw [e2]
        have kx:=S.free _ h2 rfl;obtain ⟨m0,hn0,hl0⟩:=I.loc;obtain ⟨u,r,l⟩:=hl0 p.2 p.1 v h1 e4 (kx.elim (λ z=> .inr (.inl z)) λ z=> .inr (.inr z));refine ⟨u,r,?_⟩;rcases l with ⟨z,_⟩ | ⟨_,c,hc,hcell⟩
        · have z:X.env.scope.names.lookup p.1=some .local:=z;rcases kx with y | y <;> (rw [y] at z;cases z)
        · obtain ⟨c',q1,q2⟩:=kf p.1 h2;rw [hc] at q1;cases q1;refine .inr ⟨?_,c,(Fs (nx _ h2)).trans q2,ck _ _ hcell⟩;show (compEnvC scope ((cx,s.heap.objs.size+1)::Aw X.env.cells scope.names []) s.heap.objs.size X.env).kindOf p.1=some .cell\/(compEnvC scope ((cx,s.heap.objs.size+1)::Aw X.env.cells scope.names []) s.heap.objs.size X.env).kindOf p.1=some .free;have e3:(compEnvC scope ((cx,s.heap.objs.size+1)::Aw X.env.cells scope.names []) s.heap.objs.size X.env).kindOf p.1=some .local\/(compEnvC scope ((cx,s.heap.objs.size+1)::Aw X.env.cells scope.names []) s.heap.objs.size X.env).kindOf p.1=some .cell\/(compEnvC scope ((cx,s.heap.objs.size+1)::Aw X.env.cells scope.names []) s.heap.objs.size X.env).kindOf p.1=some .free:=e3;rcases e3 with e3 | e3
          · exfalso;rw [rel] at e3;cases e:scope.names.lookup p.1 with
            | none=>rw [e] at e3;cases e3
            | some kk=>
              rw [e] at e3;simp only [Option.map_some,Option.some.injEq] at e3;by_cases hk:kk= .free
              · subst hk;split at e3 <;> cases e3
              · have hb:(kk == NameKind.free)=false:=by simpa using hk
                simp only [hb,Bool.false_and,Bool.false_eq_true,if_false] at e3;subst e3;have:=S.only p.1 h2;rw [this] at e;cases e
          · exact e3
  · rcases ct x c e with ⟨_,h2⟩ | ⟨_,h2⟩
    · rw [h2];exact ⟨none,hce⟩
    · obtain ⟨v,z⟩:=I.cell x c h2;exact ⟨v,ck _ _ z⟩
  · unfold B5;show _=(own++fr.map (·.1)).length;simp
end
section
variable {X:Cx}
theorem LZ {cx:Str} {elt tg iter:Expr} {ifs:List Expr} {scope:Scope} {pos:Pos} {own:List Str} {fr:List (Str × Nat)} {g:TG} {tc:TT} {te:TE} (hc:X.calm=true) (S:BlkScopeC X scope cx own fr)
    (hg:∀ C ex s H,PG (Bm X scope cx own fr C ex s H) tg g) (ht:∀ C ex s H,PTs (Bm X scope cx own fr C ex s H) ifs tc) (he:∀ C ex s H,PE (Bm X scope cx own fr C ex s H) elt te)
    {pins:List (Addr × Obj)} {σ:St} {H:Hp} {s:Shared} {it:Addr} {fp:List Addr} {tn:Nat->Heap->Prop} {J:It} {E:Value->Shared->Prop}
    (I:Inv X pins σ H s) (T:Turn X.prog X.w X.K tg J fp it tn) (st:tn 0 s.heap) (hf:∀ b∈fp,B7 X pins H b) {Q:VK}
    (h:∀ D,H D=none->Eb J (B5 own fr σ) g tc te Q H D)
    {RR:Value->Addr->Result->Shared->Prop}
    (hR:∀ D C H' s',Inv X pins σ H' s'->(∃ m,s'.heap.Ns C m)->B7 X pins H' C->Q (.ref D) H'->RR (.ref D) C (.ok .next) s'):
    wpAny (model X.prog X.w) X.A (newList []) (λ acc s₃=>wpAny (model X.prog X.w) X.A (newFunctionEnv scope X.env.globals (Aw X.env.cells scope.names []) [] X.env.qual none .none (some X.env)) (λ cenv s₄=>
      codeAny (model X.prog X.w) X.A (.compStart (.ListComp elt [⟨tg,iter,ifs,0⟩] scope pos) 0 (.ref it) acc { cenv with scope:=relabel scope X.env }) (RR acc cenv.locals) s₄) E s₃) E s:=by
  have hDn:H s.heap.objs.size=none:=I.fresh;obtain ⟨W,⟨m0,w0⟩,turn⟩:=h s.heap.objs.size hDn;have I3:Inv X pins σ (upd H s.heap.objs.size (.lst [])) { s with heap:=s.heap.push { cls:= .type "list",data:= .seq ([]:List Value).toArray },toks:=s.toks }:=I.lnew .nil (Nat.zero_le _);refine wpAny_newObj_type ?_;generalize hs3:({ s with heap:=s.heap.push { cls:= .type "list",data:= .seq ([]:List Value).toArray } }:Shared)=s3 at I3 ⊢;have I3:Inv X pins σ (upd H s.heap.objs.size (.lst [])) s3:=I3;have old3:∀ b o,s.heap.get? b=some o->s3.heap.get? b=some o:=λ b o e=>by rw [<-hs3];exact Heap.get?_push_of_some _ e
  have hobj:∀ b∈fp,∃ o,s.heap.get? b=some o/\∀ v,o.data≠ .cell v:=T.obj 0 _ st;have hne:∀ b∈fp,b≠s.heap.objs.size:=λ b hb=>by obtain ⟨o,e,_⟩:=hobj b hb;exact Nat.ne_of_lt (Heap.lt_size e)
  have hf3:∀ b∈fp,B7 X pins (upd H s.heap.objs.size (.lst [])) b:=λ b hb=>⟨by rw [Am (hne b hb)];exact (hf b hb).1,(hf b hb).2⟩;have hlt3:∀ b∈fp,b<s3.heap.objs.size:=λ b hb=>by obtain ⟨o,e,_⟩:=hobj b hb;exact Heap.lt_size (old3 b o e)
  refine IF S.lay S.push ?_;generalize hh1:((s3.heap.push { cls:= .type "dict",data:= .dict #[] }).push { cls:= .type "cell",data:= .cell none }:Heap)=h₁;have keep:∀ b o,s3.heap.get? b=some o->h₁.get? b=some o:=λ b o e=>by rw [<-hh1];exact Heap.get?_push_of_some _ (Heap.get?_push_of_some _ e)
  have hns:h₁.Ns s3.heap.objs.size (λ _=>none):=by rw [<-hh1];exact (Heap.Ns.new ..).push _
  have hce:h₁.IsCell (s3.heap.objs.size+1) none:=by
    rw [<-hh1];refine ⟨{ cls:= .type "cell",data:= .cell none },?_,rfl⟩;have:=Heap.get?_push_size (s3.heap.push { cls:= .type "dict",data:= .dict #[] }) (o:={ cls:= .type "cell",data:= .cell none }) rfl;rw [Heap.size_push] at this;exact this
  have J0:=I3.blockC (t':=s3.toks) S hf3 hlt3 hns hce keep;have st3:tn 0 h₁:=T.keep 0 _ _ st λ b hb o e=>keep b o (old3 b o e);have loop:codeAny (model X.prog X.w) X.A (.compLoop (.ListComp elt [⟨tg,iter,ifs,0⟩] scope pos) 0 (.ref it) (.ref s.heap.objs.size) (compEnvC scope ((cx,s3.heap.objs.size+1)::Aw X.env.cells scope.names []) s3.heap.objs.size X.env))
      (RR (.ref s.heap.objs.size) s3.heap.objs.size) { s3 with heap:=h₁ }:=by
    have stat:∀ {H':Hp},(∀ b∈fp,H' b=none)->∀ b∈fp,B7 (Bm X scope cx own fr s3.heap.objs.size fp s3 (upd H s.heap.objs.size (.lst []))) [] H' b:=λ {H'} hn b hb=>
      ⟨hn b hb,Nat.ne_of_lt (hlt3 b hb),J0.ok.exfs b hb, .inl hb,(J0.ok.exf b hb).2,λ p hp=>absurd (show p∈([]:List (Addr × Obj)) from hp) (by simp)⟩
    refine Fz (λ n s'=>∃ i ys H',Inv (Bm X scope cx own fr s3.heap.objs.size fp s3 (upd H s.heap.objs.size (.lst []))) [] (B5 own fr σ) H' s'/\tn i s'.heap/\(∀ b∈fp,H' b=none)/\W i n ys H') ?_ m0
      ⟨0,[],_,J0,st3,λ b hb=>(hf3 b hb).1,w0⟩
    rintro n s4 ⟨i,ys,H4,I4,st4,fr4,w4⟩;rcases turn i n ys H4 w4 with ⟨stop,q⟩ | ⟨go,N,hN,step⟩
    · refine thn (T.done (Bm X scope cx own fr s3.heap.objs.size fp s3 (upd H s.heap.objs.size (.lst []))) rfl rfl rfl hc i [] s4 _ H4 (λ _ _=>False) I4 (stat fr4) st4 stop) λ r s5 ⟨hr,I5⟩=> ?_;subst hr;obtain ⟨m,hn,_⟩:=id I5.loc;exact hR _ _ H4 s5 (I3.call' I5.os I5.base I5.hok I5.bare λ b hb=>⟨(hf3 b hb).2.2.2.1,(hf3 b hb).2.1,(hf3 b hb).2.2.2.2.1,(hf3 b hb).2.2.2.2.2⟩) ⟨m,hn⟩ (I3.fpOk (Nat.le_refl _) I5.free) q
    · refine thn (T.item (Bm X scope cx own fr s3.heap.objs.size fp s3 (upd H s.heap.objs.size (.lst []))) rfl rfl rfl hc i [] s4 _ H4 (λ _ _=>False) I4 (stat fr4) st4 go) λ r s5 ⟨u,hr,h5⟩=> ?_;subst hr;refine thn h5 λ _ s6 ⟨x,H6,I6,r6,y6,st6,fr6⟩=> ?_;have I6':=I6.pinned (stat fr6) (T.obj _ _ st6);refine thn (hg _ _ _ _ _ s6 _ H6 x u _ I6' r6 (step x H6 y6)) λ _ s7 ⟨σ7,H7,I7,kp,q7⟩=> ?_;refine thn (ht _ _ _ _ _ s7 σ7 H7 _ I7 q7) λ b s8 ⟨H8,I8,q8⟩=> ?_;have again:∀ {s9:Shared} {H9:Hp} {ys':List V},Inv (Bm X scope cx own fr s3.heap.objs.size fp s3 (upd H s.heap.objs.size (.lst []))) ([]++Fo fp s6.heap) σ7 H9 s9->N ys' H9->
          ∃ m,m<n/\∃ i ys H',Inv (Bm X scope cx own fr s3.heap.objs.size fp s3 (upd H s.heap.objs.size (.lst []))) [] (B5 own fr σ) H' s9/\tn i s9.heap/\(∀ b∈fp,H' b=none)/\W i m ys H':=λ {s9 H9 ys'} I9 n9=>by
        obtain ⟨m',hm,w9⟩:=hN ys' H9 n9;refine ⟨m',hm,i+1,ys',H9,I9.unpinned.weak kp.1.symm kp.2,T.keep _ _ _ st6 λ b hb o e=>(I9.pin (b,o) (List.mem_append_right _ (List.mem_append_right _ (BG hb e)))).1,λ b hb=> ?_,w9⟩;obtain ⟨o,e,d⟩:=T.obj _ _ st6 b hb;exact (I9.pin (b,o) (List.mem_append_right _ (List.mem_append_right _ (BG hb e)))).2.1
      cases b with
      | false=>
        rw [if_neg Bool.false_ne_true] at q8 ⊢;exact again I8 q8
      | true=>
        rw [if_pos rfl] at q8 ⊢;refine thn (he _ _ _ _ _ s8 σ7 H8 _ I8 q8) λ xv s9 ⟨y,H9,I9,r9,hD,hl,n9⟩=> ?_;refine thn (Bb _ s9 σ7 H9 (.ref s.heap.objs.size) [y] (.ref s.heap.objs.size) [xv] (λ _ H'=>H'=upd H9 s.heap.objs.size (.lst (ys++[y]))) I9 rfl (.cons r9 .nil) ⟨_,ys,y,rfl,rfl,hD,hl,rfl⟩) λ _ s10 ⟨_,H10,I10,_,q10⟩=> ?_;subst q10;exact again I10 n9
  exact codeAny_compStart_list loop (T.self _ 0 _ _ _ st3 loop)
theorem NZ {cx:Str} {elt tg iter:Expr} {ifs:List Expr} {scope:Scope} {pos:Pos} {own:List Str} {fr:List (Str × Nat)} {wi:TI} {g:TG} {tc:TT} {te:TE} (hc:X.calm=true) (S:BlkScopeC X scope cx own fr) (hi:PI X tg iter wi)
    (hg:∀ C ex s H,PG (Bm X scope cx own fr C ex s H) tg g) (ht:∀ C ex s H,PTs (Bm X scope cx own fr C ex s H) ifs tc) (he:∀ C ex s H,PE (Bm X scope cx own fr C ex s H) elt te)
    (hs:∀ x,foldedSetIterable iter X.env x=pure x:=by intro _;rfl):PE X (.ListComp elt [⟨tg,iter,ifs,0⟩] scope pos) (Ei wi own fr g tc te):=by
  intro pins s σ H Q I h;rw [eval_ListComp];refine wpAny_comprehension_free (use:=none) rfl hs (Cr (S.cells I.ok)) S.kind S.loc (thn (hi pins s σ H _ I h) λ xv s₁ h₁=>thn h₁ λ itv s₂ h₂=> ?_);obtain ⟨it,fp,tn,J,H2,rfl,I2,T,st2,f2,h2⟩:=h₂;refine LZ (RR:=λ acc C=>compPost (model X.prog X.w) X.A X.xe none (EP X pins σ Q) acc C) hc S hg ht he I2 T st2 f2 h2 ?_;rintro D C H' s' I' ⟨m,hn⟩ f q;exact ⟨m,hn,λ h' sb=>⟨.ref D,H',I'.turned (t':=s'.toks) (it:=C) (λ b o hb e=>(sb.2 b hb).trans e) f.1 f.2.1 f.2.2.2.1 f.2.2.2.2.1 f.2.2.2.2.2,rfl,q⟩⟩
end
def Go (sc:Scope) (N:List Str) (scope:Scope) (cx:Str) (own:List Str) (fr:List (Str × Nat)):Bool:=
  decide (scope.kind= .function)&&
  (scope.names.all λ y=>(decide (y.2≠ .cell)||decide (y.1=cx))&&(decide (y.2≠ .local)||decide (scope.names.lookup y.1=some .local))&&
    (decide (y.2≠ .free)||((decide (sc.names.lookup y.1=some .cell)||decide (sc.names.lookup y.1=some .free))&&decide (scope.names.lookup y.1=some .free))))&&
  (fr.all λ p=>decide (N[p.2]?=some p.1)&&decide ((p.1,NameKind.free)∈scope.names))&&
  decide (scope.names.lookup cx=some .cell)&&decide ((own++fr.map (·.1)).Nodup)
section
variable {X:Cx} {scope:Scope} {cx:Str} {own:List Str} {fr:List (Str × Nat)}
theorem BlkScopeC.of (h:Go X.env.scope X.N scope cx own fr=true) (lay:∀ n cl,cellsFrom n scope.names cl=(cx,n)::cl) (push:∀ h:Heap,pushCells h scope.names=h.push { cls:= .type "cell",data:= .cell none }):BlkScopeC X scope cx own fr:=by
  unfold Go at h;simp only [Bool.and_eq_true,List.all_eq_true,decide_eq_true_iff,Bool.or_eq_true] at h;obtain ⟨⟨⟨⟨h1,h2⟩,h3⟩,h4⟩,h5⟩:=h;exact ⟨h1,λ y hy e=>(h2 y hy).1.1.resolve_left (λ z=>z e),h4,lay,push,λ y hy e=>(h2 y hy).1.2.resolve_left (λ z=>z e),λ y hy e=>((h2 y hy).2.resolve_left (λ z=>z e)).1,λ p hp=>h3 p hp,λ x hx=>((h2 _ hx).2.resolve_left (λ z=>z rfl)).2⟩
theorem Ot {px:Pos} (h:Go X.env.scope X.N scope cx [cx] fr=true) (C:Addr) (ex:List Addr) (s:Shared) (H:Hp):PG (Bm X scope cx [cx] fr C ex s H) (.Name cx px) (AG 0):=by
  unfold Go at h;simp only [Bool.and_eq_true,List.all_eq_true,decide_eq_true_iff,Bool.or_eq_true] at h;have hl:(relabel scope X.env).names.lookup cx=some .cell:=by
    have:=CP X.env cx scope.names;rw [h.1.2] at this;exact this
  exact As h.2 rfl (.inr hl) (.inl (beq_self_eq_true cx))
theorem LB {elt iter:Expr} {px:Pos} {ifs:List Expr} {pos:Pos} {wi:TI} {tc:TT} {te:TE} (hi:PI X (.Name cx px) iter wi)
    (ht:∀ C ex s H,PTs (Bm X scope cx [cx] (CM X.N scope) C ex s H) ifs tc) (he:∀ C ex s H,PE (Bm X scope cx [cx] (CM X.N scope) C ex s H) elt te)
    (hb:Go X.env.scope X.N scope cx [cx] (CM X.N scope)=true:=by with_unfolding_all rfl) (hc:X.calm=true:=by rfl)
    (lay:∀ n cl,cellsFrom n scope.names cl=(cx,n)::cl:=by intro _ _;rfl) (push:∀ h:Heap,pushCells h scope.names=h.push { cls:= .type "cell",data:= .cell none }:=by intro _;rfl)
    (hs:∀ x,foldedSetIterable iter X.env x=pure x:=by intro _;rfl):PE X (.ListComp elt [⟨.Name cx px,iter,ifs,0⟩] scope pos) (Ei wi [cx] (CM X.N scope) (AG 0) tc te):=
  NZ hc (.of hb lay push) hi (λ C ex s H=>Ot hb C ex s H) ht he hs
end
section
variable {X:Cx} {K:PySem.W.Frag} {scope:Scope} {fr:List (Str × Nat)}
theorem HD {elt iter:Expr} {x:Str} {px:Pos} {ifs:List Expr} {pos:Pos} {wi:TI} {tc:TT} {te:TE} (hi:PI X (.Name x px) iter wi)
    (ht:∀ C ex s H,PTs (AU X scope [x] fr C ex s H) ifs tc) (he:∀ C ex s H,PE (AU X scope [x] fr C ex s H) elt te)
    (hb:DE X.env.scope X.N scope [x] fr=true:=by with_unfolding_all rfl) (hc:X.calm=true:=by rfl)
    (hs:∀ x,foldedSetIterable iter X.env x=pure x:=by intro _;rfl):PE X (.ListComp elt [⟨.Name x px,iter,ifs,0⟩] scope pos) (Ei wi [x] fr (AG 0) tc te):=
  Iw hc (.of hb) hi (λ C ex s H=>GJ hb rfl C ex s H) ht he hs
end
section
variable {X:Cx} {e o:Expr} {es:List Expr} {t:TA} {to:TE} {pos:Pos} {S:Addr->Sp->Prop}
end
def CMulN (i j:Int):Prop:=∃ m n:Nat,i=m/\j=n/\m<2 ^ 900/\n<2 ^ 900
theorem CMulN.ok {i j:Int} (h:CMulN i j):IntMulOk i j:=by
  obtain ⟨m,n,rfl,rfl,h1,h2⟩:=h;have b1:=HW m;have b2:=HW n;have c1:=MM.bits_le h1;have c2:=MM.bits_le h2;unfold IntMulOk;have e:Builtin.Int.intTooBig (((Builtin.Int.intBits (m:Int):Nat):Int)+((Builtin.Int.intBits (n:Int):Nat):Int))=false:=by
    unfold Builtin.Int.intTooBig;rw [b1,b2];refine decide_eq_false (λ z=> ?_);have:(1800:Int)<=(bitsLine:Nat):=by decide
    omega
  rw [e];simp
theorem Oj {X:Cx}:OpR X (binaryOp .Mult) (rI CMulN λ i j=> .int (i*j)):=opI λ _ _ _ _ _ _ _ hc q=>mul_int q hc.ok
def P3:List V->Hp->VK->Prop:=λ xs H Q=>∃ i j,xs=[.int i, .int j]/\Q (.int (if j>i then j else i)) H
def P5:List V->Hp->VK->Prop:=λ xs H Q=>∃ i j,xs=[.int i, .int j]/\Q (.int (if j<i then j else i)) H
section
variable {X:Cx} {K:PySem.W.Frag}
theorem Mj (hc:X.calm=true:=by rfl):A7 X (.builtin "max") P3:=L8 hc
theorem RQ (hc:X.calm=true:=by rfl):A7 X (.builtin "min") P5:=Me hc
end
theorem OI {H:Hp} {Q:VK} {i j:Int} (h:Q (.int (if j>i then j else i)) H):P3 [.int i, .int j] H Q:=⟨i,j,rfl,h⟩
theorem OS {H:Hp} {Q:VK} {i j:Int} (h:Q (.int (if j<i then j else i)) H):P5 [.int i, .int j] H Q:=⟨i,j,rfl,h⟩
theorem Rm {i j:Nat} {ta:TA} {D:Ends} {σ:St} {H:Hp} (h:ta σ H λ vs H1=>∃ v w,vs=[v,w]/\D.nx ((σ.set i (some v)).set j (some w)) H1):VW i j ta D σ H:=h
theorem QL {x y:V} {R:V->V->Prop} (h:R x y):∃ v w,[x,y]=[v,w]/\R v w:=⟨x,y,rfl,h⟩
theorem Pa {xs:List V} {k l:Int} (h:0<=k) (h2:k<=l):Gi xs (some k) (some l)=(xs.take l.toNat).drop k.toNat:=by
  unfold Gi;have e1:HT.sIx xs.length 0 (some k)=min k.toNat xs.length:=by
    unfold HT.sIx;simp only;split <;> omega
  have e2:HT.sIx xs.length xs.length (some l)=min l.toNat xs.length:=by
    unfold HT.sIx;simp only;split <;> omega
  rw [e1,e2];by_cases q:k.toNat<=xs.length
  · rw [Nat.min_eq_left q];by_cases q2:l.toNat<=xs.length
    · rw [Nat.min_eq_left q2,List.drop_take]
    · rw [Nat.min_eq_right (by omega),List.take_of_length_le (l:=xs) (by omega),List.take_of_length_le (by simp)]
  · rw [List.drop_of_length_le (by omega),List.drop_of_length_le (by simp;omega)];simp
end L2
namespace HT
open PySem PySem.Spec PyProof.Rows
variable {prog:Program} {w:World} {A:Around} {E:Value->Shared->Prop} {s:Shared}
end HT
namespace L2
open PySem PySem.Spec PyProof.Rows
theorem EQ:checkCount "sorted" 1 1 1=pure ():=rfl
def MH (tk tv:TE):TE:=λ σ H Q=>∀ p,H p=none->Em [(tk,tv)] σ (upd H p (.dT [])) λ ps H2=>∃ x y,ps=[(x,y)]/\∃ b ks,x= .ref b/\H2 b=some (.tup (List.map kV ks))/\H2 p=some (.dT [])/\Q (.ref p) (upd H2 p (.dT [(ks,y)]))
theorem Nj {tk tv:TE} {σ:St} {H:Hp} {Q:VK} (h:∀ p,H p=none->Em [(tk,tv)] σ (upd H p (.dT [])) λ ps H2=>∃ x y,ps=[(x,y)]/\∃ b ks,x= .ref b/\H2 b=some (.tup (List.map kV ks))/\H2 p=some (.dT [])/\Q (.ref p) (upd H2 p (.dT [(ks,y)]))):MH tk tv σ H Q:=h
theorem N1 {X:Cx} {pos:Pos} {k v:Expr} {tk tv:TE} (hu:X.A.units+1<cLine) (hk:PE X k tk) (hv:PE X v tv):PE X (.Dict [some k] [v] pos) (MH tk tv):=by
  intro pins s σ H Q I q;have hn:=I.hok.fresh (Nat.le_refl s.heap.objs.size);have I1:=I.laid (a:=s.heap.objs.size) (o:= .dT []) (h':=s.heap.push { cls:= .type "dict",data:= .dict #[] }) (t':=s.toks) (λ _ _ q=>Heap.get?_push_of_some _ q) (Nat.le_refl _) (Ge s.heap I.big);have hp:=MO (pos:=pos) hk hv (Po (X:=X) (pos:=pos));refine wpAny_Dict_any rfl rfl (by simp) (by simp) (thn (hp pins _ σ _ _ I1 (q _ hn)) λ ws s2 ⟨ps,H2,I2,rel,x,y,ep,b,ks,ex,eb,e,q2⟩=> ?_)
  · subst ep ex;cases rel with
    | @cons _ w _ _ rw rr=>
      cases rr;obtain ⟨u,r⟩:=w;obtain ⟨ru,rv⟩:=rw;cases (show u=Value.ref b from ru);obtain ⟨z,hd,xs,rel,dd⟩:=K4 I2.hok e;cases rel;show wpAny _ _ (forIn [(Value.ref b,r)] PUnit.unit _) _ _ _;rw [List.forIn_cons];refine wpAny_bind (wpAny_bind (wpAny_dictSet_heap (hsz:=by simp) ?_ (DI I2.hok eb) dd λ h' dd' hs=>wpAny_pure ?_))
      · show X.A.units<cLine;omega
      · show wpAny _ _ (pure PUnit.unit) _ _ _;refine wpAny_pure ?_;refine ⟨.ref s.heap.objs.size,_,?_,rfl,q2⟩;obtain ⟨q',es,ep,hq,h2,h3,h4,_,h5⟩:=dd';refine EM I2 (by rw [e];exact True.intro) hs ⟨q',hq⟩ ⟨by show 1<=sizeLine;decide,hd,_,?_,q',es,ep,hq,h2,h3,h4,h5⟩;exact .cons ⟨rfl,(Am (A8 eb e (λ z=>nomatch z))).trans eb,rv⟩ .nil
def IE (ta:TA):TE:=λ σ H Q=>ta σ H λ vs H1=>∃ i j:Int,vs=[.int i, .int j]/\(-(2 ^ 40)<=i/\i<2 ^ 40/\ -(2 ^ 40)<=j/\j<2 ^ 40)/\j - i<=100000/\∀ l,H1 l=none->Q (.ref l) (upd H1 l (.lst (((List.range (j - i).toNat).map λ k:Nat=>i+(k:Int)).map V.int)))
theorem J7 {ta:TA} {σ:St} {H:Hp} {Q:VK} (h:ta σ H λ vs H1=>∃ i j:Int,vs=[.int i, .int j]/\(-(2 ^ 40)<=i/\i<2 ^ 40/\ -(2 ^ 40)<=j/\j<2 ^ 40)/\j - i<=100000/\∀ l,H1 l=none->Q (.ref l) (upd H1 l (.lst (((List.range (j - i).toNat).map λ k:Nat=>i+(k:Int)).map V.int)))):IE ta σ H Q:=h
theorem Lp (i j:Int):Builtin.Range.rangeSize i j 1=(((j - i).toNat:Nat):Int):=by
  unfold Builtin.Range.rangeSize;rw [if_pos (by decide)];split <;> omega
theorem F8 {X:Cx} {a b:Expr} {ta:TA} {p p2 pos pos2:Pos} (hgl:Gl X "list") (hml:X.mg "list"=none) (hg:Gl X "range") (hm:X.mg "range"=none) (ha:PA X [a,b] ta) (hc:X.calm=true:=by rfl)
    (hs:starEach [a,b] X.env=[(false,eval a X.env),(false,eval b X.env)]:=by rfl) (hs2:starEach [b] X.env=[(false,eval b X.env)]:=by rfl)
    (hs1:starEach [Expr.Call (.Name "range" p2) [a,b] [] pos2] X.env=[(false,eval (.Call (.Name "range" p2) [a,b] [] pos2) X.env)]:=by rfl):
    PE X (.Call (.Name "list" p) [.Call (.Name "range" p2) [a,b] [] pos2] [] pos) (IE ta):=by
  intro pins s σ H Q I h;have hmid:wpAny (model X.prog X.w) X.A (eval (.Call (.Name "range" p2) [a,b] [] pos2) X.env) (λ v s1=>∃ r i j t u w H1,v=Value.ref r/\Inv X pins σ H1 s1/\IsRange s1.heap r i j 1 t u w/\(-(2 ^ 40)<=i/\i<2 ^ 40/\ -(2 ^ 40)<=j/\j<2 ^ 40)/\j - i<=100000/\∀ l,H1 l=none->Q (.ref l) (upd H1 l (.lst (((List.range (j - i).toNat).map λ k:Nat=>i+(k:Int)).map V.int)))) X.xe s:=by
    refine Call_ (CD I hg hm boot_range (PyProof.Rows.callWith_type1 (thn (ha pos2 pins s σ H _ I h) λ us s1 ⟨vs,H1,I1,r1,q1⟩=> ?_) (by rw [hs,hs2]) (by rw [hs2];rfl)));obtain ⟨i,j,e,bd,sm,q⟩:=q1;subst e;cases r1 with
    | cons r rr=>
      cases rr with
      | cons r' rr=>
        cases rr;obtain ⟨t,rfl⟩:=r;obtain ⟨t',rfl⟩:=r';refine call_range_2 ?_;exact ⟨_,i,j,t,t',_,H1,rfl,I1.kept λ b o e=>Heap.get?_push_of_some _ e,IsRange.new ..,bd,sm,q⟩
  refine wpAny_Call_Name_kw (CD I hgl hml AI (PyProof.Rows.callWith_type1 ?_ hs1 rfl));rw [hs1];refine Calls.spliced_cons (thn hmid λ v s1 ⟨r,i,j,t,u,w,H1,ev,I1,hr,bd,sm,q⟩=>Calls.spliced_nil ?_)
  · subst ev;obtain ⟨b1,b2,b3,b4⟩:=bd;refine call_list_range (I1.ok.hd hc) hr (small_one (by omega) (by omega) (by omega) (by omega)) (Lp i j) (by omega) λ h' tk acc c keep hg it=> ?_;have hv:Vals (((List.range (j - i).toNat).map λ k:Nat=>i+(k:Int)).map V.int) acc.toList:=by
      refine Ir (by rw [Array.length_toList,it.1];simp) λ k u hu=> ?_;have hk:k<(j - i).toNat:=by
        have:=(List.getElem?_eq_some_iff.mp hu).1;rw [Array.length_toList,it.1] at this;exact this
      obtain ⟨t,rfl⟩:=it.2 k u (by rw [<-Array.getElem?_toList];exact hu);refine ⟨.int (i+(k:Int)),by simp [hk],?_⟩;rw [Int.mul_one];exact ⟨t,rfl⟩
    refine ⟨.ref s1.heap.objs.size,_,I1.laid (t':=tk) (o:= .lst (((List.range (j - i).toNat).map λ k:Nat=>i+(k:Int)).map V.int)) keep (Nat.le_refl _) ⟨?_,acc.toList,c,hv,?_⟩,rfl,q _ (I1.hok.fresh (Nat.le_refl _))⟩
    · rw [List.length_map,List.length_map,List.length_range];exact Nat.le_trans (show _<=100000 by omega) (by decide)
    · rw [hg]
section
variable {M:Model} {A:Around} {E:Value->Shared->Prop} {s:Shared}
end
end L2
namespace MSort
open PySem.W PyProof.Rows
def KP (lt:Nat->Nat->Bool) (n:Nat) {α:Type}:KasT α->(α->Prop)->Prop
  | .ret a,Q=>Q a
  | .ask i j k,Q=>i<n/\j<n/\KP lt n (k (lt i j)) Q
theorem DY {lt:Nat->Nat->Bool} {n:Nat} {α β:Type} {f:α->KasT β} {Q:β->Prop}:∀ (t:KasT α),KP lt n t (λ a=>KP lt n (f a) Q)->KP lt n (t.bind f) Q
  | .ret _,h=>h
  | .ask i j k,h=>⟨h.1,h.2.1,DY (k (lt i j)) h.2.2⟩
theorem Ck {lt:Nat->Nat->Bool} {n:Nat} {α:Type} {Q Q':α->Prop} (hq:∀ a,Q a->Q' a):∀ (t:KasT α),KP lt n t Q->KP lt n t Q'
  | .ret a,h=>hq a h
  | .ask i j k,h=>⟨h.1,h.2.1,Ck hq (k (lt i j)) h.2.2⟩
structure Ok (n:Nat) (p:Array Nat):Prop where
  size:p.size=n
  perm:p.toList.Perm (List.range n)
theorem Ok.lt {n:Nat} {p:Array Nat} (h:Ok n p) {i:Nat} (hi:i<n):p.getD i 0<n:=by
  have hi':i<p.size:=by rw [h.size];exact hi
  have e:p.getD i 0=p[i]:=by simp [Array.getD,hi']
  rw [e];have:=h.perm.mem_iff.mp (Array.mem_toList_iff.mpr (Array.getElem_mem hi'));exact List.mem_range.mp this
theorem Ok.inj {n:Nat} {p:Array Nat} (h:Ok n p) {i j:Nat} (hi:i<n) (hj:j<n) (e:p.getD i 0=p.getD j 0):i=j:=by
  have hi':i<p.size:=by rw [h.size];exact hi
  have hj':j<p.size:=by rw [h.size];exact hj
  have e1:p.getD i 0=p.toList[i]'(by simpa using hi'):=by simp [Array.getD,hi']
  have e2:p.getD j 0=p.toList[j]'(by simpa using hj'):=by simp [Array.getD,hj']
  rw [e1,e2] at e;have nd:p.toList.Nodup:=h.perm.symm.nodup List.nodup_range;exact (List.getElem_inj nd).mp e
theorem Ok.to {n:Nat} {p q:Array Nat} (h:Ok n p) (hq:q.Perm p):Ok n q:=
  ⟨hq.size_eq.trans h.size,(Array.perm_iff_toList_perm.mp hq).trans h.perm⟩
variable {r:Nat->Nat} {n:Nat} {p:Array Nat}
def K (r:Nat->Nat) (p:Array Nat) (i:Nat):Nat:=r (p.getD i 0)
def Inj (r:Nat->Nat) (n:Nat):Prop:=∀ i j,i<n->j<n->r i=r j->i=j
def L (r:Nat->Nat):Nat->Nat->Bool:=λ i j=>decide (r i<r j)
def Up (r:Nat->Nat) (p:Array Nat) (k:Nat):Prop:=∀ i j,i<j->j<k->K r p i<K r p j
def Dn (r:Nat->Nat) (p:Array Nat) (k:Nat):Prop:=∀ i j,i<j->j<k->K r p j<K r p i
theorem RV (hr:Inj r n) (o:Ok n p) {i j:Nat} (hi:i<n) (hj:j<n) (hij:i≠j):K r p i≠K r p j:=
  λ e=>hij (o.inj hi hj (hr _ _ (o.lt hi) (o.lt hj) e))
theorem E3 {p q:Array Nat} {i j:Nat} (h:p[i]?=q[j]?):p.getD i 0=q.getD j 0:=by
  have e:∀ (a:Array Nat) k,a.getD k 0=(a[k]?).getD 0:=λ a k=>by simp
  rw [e,e,h]
theorem Jo {src d:Nat} (hs:src<p.size) (hd:d<=src) (k:Nat):K r (bubble p src d) k=if k=src - d then K r p src else if src - d<k/\k<=src then K r p (k - 1) else K r p k:=by
  have e:=getElem?_bubble hs d hd k;unfold K;by_cases h1:k=src - d
  · rw [if_pos h1] at e ⊢;rw [E3 e]
  · rw [if_neg h1] at e ⊢;by_cases h2:src - d<k/\k<=src
    · rw [if_pos h2] at e ⊢;rw [E3 e]
    · rw [if_neg h2] at e ⊢;rw [E3 e]
theorem PP {j:Nat} (hj:j<=p.size) (k:Nat):K r (kas_rev p 0 j) k=if k<j then K r p (j - 1 - k) else K r p k:=by
  have e:=getElem?_mirror_all (i:=0) hj k;unfold K kas_rev;by_cases h1:k<j
  · rw [if_pos ⟨Nat.zero_le _,h1⟩] at e;rw [if_pos h1,E3 e,show 0+j - 1 - k=j - 1 - k by omega]
  · rw [if_neg (by omega)] at e;rw [if_neg h1,E3 e]
theorem asc (hr:Inj r n) (o:Ok n p):∀ (f m:Nat),m+f<=n->1<=m->Up r p m->KP (L r) n (kas_asc p f m) (λ m'=>m<=m'/\m'<=m+f/\Up r p m'/\(m'<m+f->K r p m'<K r p (m' - 1)))
  | 0,m,hm,h1,u=>⟨Nat.le_refl _,Nat.le_refl _,u,λ h=>absurd h (by omega)⟩
  | f+1,m,hm,h1,u=>by
    refine ⟨o.lt (by omega),o.lt (by omega),?_⟩;show KP (L r) n (if L r (p.getD m 0) (p.getD (m - 1) 0)=true then _ else _) _;by_cases c:K r p m<K r p (m - 1)
    · rw [if_pos (show L r (p.getD m 0) (p.getD (m - 1) 0)=true from decide_eq_true c)];exact ⟨Nat.le_refl _,by omega,u,λ _=>c⟩
    · rw [if_neg (show ¬ L r (p.getD m 0) (p.getD (m - 1) 0)=true from λ z=>c (of_decide_eq_true z))];have ne:=RV hr o (i:=m) (j:=m - 1) (by omega) (by omega) (by omega);refine Ck (λ m' h=> ?_) _ (asc hr o f (m+1) (by omega) (by omega) ?_)
      · obtain ⟨h1,h2,h3,h4⟩:=h;exact ⟨by omega,by omega,h3,λ z=>h4 (by omega)⟩
      · intro i j hij hj;by_cases e:j=m
        · subst e;by_cases e':i=j - 1
          · subst e';omega
          · have:=u i (j - 1) (by omega) (by omega);omega
        · exact u i j hij (by omega)
theorem T4 (hr:Inj r n) (o:Ok n p):∀ (f m:Nat),m+f<=n->1<=m->Dn r p m->KP (L r) n (kas_desc f p m 0) (λ x=>x.1=p/\x.2.2=0/\m<=x.2.1/\x.2.1<=m+f/\Dn r p x.2.1)
  | 0,m,hm,h1,u=>⟨rfl,rfl,Nat.le_refl _,Nat.le_refl _,u⟩
  | f+1,m,hm,h1,u=>by
    refine ⟨o.lt (by omega),o.lt (by omega),?_⟩;show KP (L r) n (if L r (p.getD m 0) (p.getD (m - 1) 0)=true then _ else _) _;by_cases c:K r p m<K r p (m - 1)
    · rw [if_pos (show L r (p.getD m 0) (p.getD (m - 1) 0)=true from decide_eq_true c),if_neg (by omega)];refine Ck (λ m' h=> ?_) _ (T4 hr o f (m+1) (by omega) (by omega) ?_)
      · obtain ⟨h1,h2,h3,h4,h5⟩:=h;exact ⟨h1,h2,by omega,by omega,h5⟩
      · intro i j hij hj;by_cases e:j=m
        · subst e;by_cases e':i=j - 1
          · subst e';omega
          · have:=u i (j - 1) (by omega) (by omega);omega
        · exact u i j hij (by omega)
    · rw [if_neg (show ¬ L r (p.getD m 0) (p.getD (m - 1) 0)=true from λ z=>c (of_decide_eq_true z))];have ne:=RV hr o (i:=m) (j:=m - 1) (by omega) (by omega) (by omega);refine ⟨o.lt (by omega),o.lt (by omega),?_⟩;show KP (L r) n (if L r (p.getD (m - 1) 0) (p.getD m 0)=true then _ else _) _;rw [if_pos (show L r (p.getD (m - 1) 0) (p.getD m 0)=true from decide_eq_true (show K r p (m - 1)<K r p m by omega))];exact ⟨rfl,rfl,Nat.le_refl _,Nat.le_add_right _ _,u⟩
theorem Rv:Up r p 1:=λ i j a b=>by omega
theorem VM (hr:Inj r n) (o:Ok n p) {m:Nat} (h1:1<=m) (hm:m<=n) (d:Dn r p m):KP (L r) n (kas_tail3 m n p) (λ x=>Ok n x.2/\1<=x.1/\x.1<=n/\Up r x.2 x.1):=by
  unfold kas_tail3;have o':Ok n (kas_rev p 0 m):=o.to (mirror_perm _ _ _ _);have u:Up r (kas_rev p 0 m) m:=by
    intro i j hij hj;rw [PP (by rw [o.size];exact hm),PP (by rw [o.size];exact hm),if_pos (by omega),if_pos hj];exact d _ _ (by omega) (by omega)
  refine DY _ (Ck (λ m' h=> ?_) _ (asc hr o' (n - m) m (by omega) h1 u));exact ⟨o',by omega,by omega,h.2.2.1⟩
theorem count (hr:Inj r n) (o:Ok n p) (h0:1<=n):KP (L r) n (kas_count n p) (λ x=>Ok n x.2/\1<=x.1/\x.1<=n/\Up r x.2 x.1):=by
  unfold kas_count;refine DY _ (Ck (λ m h=> ?_) _ (asc hr o (n - 1) 1 (by omega) (by omega) Rv));obtain ⟨a1,a2,a3,a4⟩:=h;by_cases e:m=n
  · rw [if_pos (by simp [e])];exact ⟨o,a1,by omega,a3⟩
  · rw [if_neg (by simpa using e)];have c:=a4 (by omega);by_cases g:m>1
    · rw [if_pos g];refine ⟨o.lt (by omega),o.lt (by omega),?_⟩;show KP (L r) n (if L r (p.getD 0 0) (p.getD (m - 1) 0)=true then _ else _) _;rw [if_pos (show L r (p.getD 0 0) (p.getD (m - 1) 0)=true from decide_eq_true (show K r p 0<K r p (m - 1) from a3 0 (m - 1) (by omega) (by omega)))];exact ⟨o,a1,by omega,a3⟩
    · rw [if_neg g];have e1:m=1:=by omega
      subst e1;unfold kas_descPart;refine DY _ (Ck (λ x h=> ?_) _ (T4 hr o (n - (1+1)) (1+1) (by omega) (by omega) ?_))
      · obtain ⟨b1,b2,b3,b4,b5⟩:=h;rw [if_neg (by omega),b1];exact VM hr o (by omega) (by omega) b5
      · intro i j hij hj;have:i=0/\j=1:=by omega
        obtain ⟨rfl,rfl⟩:=this;exact c
theorem place (hr:Inj r n) (o:Ok n p) {k:Nat} (hk:k<n):∀ (f l h:Nat),h - l<=f->l<=h->h<=k->(∀ i,i<l->K r p i<K r p k)->(∀ i,h<=i->i<k->K r p k<K r p i)->Up r p k->
    KP (L r) n (kas_place p k f l h) (λ x=>x<=k/\(∀ i,i<x->K r p i<K r p k)/\(∀ i,x<=i->i<k->K r p k<K r p i))
  | 0,l,h,e,a,b,c,d,u=>⟨by omega,c,λ i h1 h2=>d i (by omega) h2⟩
  | f+1,l,h,e,a,b,c,d,u=>by
    show KP (L r) n (if l>=h then _ else _) _;by_cases g:l>=h
    · rw [if_pos g];exact ⟨by omega,c,λ i h1 h2=>d i (by omega) h2⟩
    · rw [if_neg g];have hmk:(l+h) / 2<k:=by omega
      refine ⟨o.lt hk,o.lt (by omega),?_⟩;show KP (L r) n (if L r (p.getD k 0) (p.getD ((l+h) / 2) 0)=true then _ else _) _;by_cases z:K r p k<K r p ((l+h) / 2)
      · rw [if_pos (show L r (p.getD k 0) (p.getD ((l+h) / 2) 0)=true from decide_eq_true z)];refine place hr o hk f l _ (by omega) (by omega) (by omega) c (λ i h1 h2=> ?_) u;by_cases e':i=(l+h) / 2
        · rw [e'];exact z
        · have:=u _ i (show (l+h) / 2<i by omega) h2;omega
      · rw [if_neg (show ¬ L r (p.getD k 0) (p.getD ((l+h) / 2) 0)=true from λ y=>z (of_decide_eq_true y))];have ne:=RV hr o hk (show (l+h) / 2<n by omega) (by omega);refine place hr o hk f _ h (by omega) (by omega) (by omega) (λ i h1=> ?_) d u;by_cases e':i=(l+h) / 2
        · rw [e'];omega
        · have:=u i _ (show i<(l+h) / 2 by omega) hmk;omega
theorem bin (hr:Inj r n):∀ (f k:Nat) (p:Array Nat),Ok n p->k+f=n->Up r p k->KP (L r) n (kas_bin f p k) (λ x=>Ok n x/\Up r x n)
  | 0,k,p,o,e,u=>⟨o,(show k=n by omega)▸u⟩
  | f+1,k,p,o,e,u=>by
    refine DY _ (Ck (λ l h=> ?_) _ (place hr o (k:=k) (by omega) k 0 k (by omega) (by omega) (Nat.le_refl _) (λ i h=>by omega) (λ i h1 h2=>by omega) u));obtain ⟨h1,h2,h3⟩:=h;have hs:k<p.size:=by rw [o.size];omega
    refine bin hr f (k+1) _ (o.to (bubble_perm _ _ _)) (by omega) ?_;intro i j hij hj;rw [Jo hs (by omega),Jo hs (by omega),show k - (k - l)=l by omega];by_cases a:i=l
    · rw [if_pos a,if_neg (by omega),if_pos (by omega)];exact h3 _ (by omega) (by omega)
    · rw [if_neg a];by_cases b:j=l
      · rw [if_pos b,if_neg (by omega)];exact h2 _ (by omega)
      · rw [if_neg b];by_cases c:l<i/\i<=k
        · rw [if_pos c,if_pos (by omega)];exact u _ _ (by omega) (by omega)
        · rw [if_neg c];by_cases d:l<j/\j<=k
          · rw [if_pos d];by_cases e:i<j - 1
            · exact u _ _ e (by omega)
            · omega
          · rw [if_neg d];exact u _ _ hij (by omega)
theorem sort (hr:Inj r n) (h0:1<=n):KP (L r) n (kas_sort n) (λ x=>Ok n x/\Up r x n):=by
  unfold kas_sort;refine DY _ (Ck (λ x h=> ?_) _ (count hr (p:=List.toArray (List.range n)) ⟨by simp,by simp⟩ h0));obtain ⟨a,b,c,d⟩:=h;by_cases g:x.1<n
  · rw [if_pos g];have e:max x.1 1=x.1:=by omega
    rw [e];exact bin hr _ _ _ a (by omega) d
  · rw [if_neg g];have e:x.1=n:=by omega
    exact ⟨a,e▸d⟩
end MSort
namespace HT
open PySem PySem.Spec PyProof.Rows PySem.W
variable {prog:Program} {w:World} {A:Around} {E:Value->Shared->Prop} {s:Shared}
def RawD (d:Addr) (es:Array DictEntry) (ep:Nat) (h:Heap):Prop:=∃ o,h.get? d=some o/\o.ExactDict/\o.data= .dict es ep
theorem RawD.type {d:Addr} {es:Array DictEntry} {ep:Nat} (x:RawD d es ep s.heap):s.TypeIs (.ref d) "dict":=⟨_,x.choose_spec.1,x.choose_spec.2.1.1⟩
theorem RawD.to {d:Addr} {es:Array DictEntry} {ep:Nat} {h h':Heap} (x:RawD d es ep h) (k:∀ o,h.get? d=some o->h'.get? d=some o):RawD d es ep h':=⟨_,k _ x.choose_spec.1,x.choose_spec.2⟩
theorem NW {d:Addr} {es:Array DictEntry} {ep:Nat} {Q:Value->Shared->Prop} (hd:(d == sysModules)=false) (hm:RawD d es ep s.heap)
    (hQ:Q (.ref s.heap.objs.size) { s with heap:=s.heap.push { cls:= .type "dict_keyiterator",data:= .fields #[.ref d, .int 0 0, .int es.size 0, .int ep 0] } }):wpAny (model prog w) A (pyIter (.ref d)) Q E s:=by
  have hT:=hm.type;obtain ⟨o,ho, -,hdat⟩:=hm;refine wpAny_pyIter_slot hT PySem.F.slot_dict_iter (wpAny_call_entry PySem.F.slot_dict_iter hT PySem.F.entry_dict_iter ?_ (PySem.F.args_dict_iter_1 _));unfold Builtin.«dict.__iter__» Builtin.Dict.dictSlotNone;refine wpAny_bind (wpAny_bind (wpAny_notOrdered_dict hT (wpAny_pure ?_)));show wpAny _ _ (Builtin.Dict.showsAll d >>= _) _ _ s;unfold Builtin.Dict.showsAll;rw [if_neg (by simp [hd])];refine wpAny_bind (wpAny_pure (wpAny_bind (wpAny_dictEntries ho hdat (wpAny_bind (wpAny_dictEpoch ho hdat ?_)))));refine wpAny_bind (wpAny_newObj_type (wpAny_pure ⟨_,rfl,"dict_keyiterator",_,⟨_,Heap.get?_push_size _ rfl,rfl⟩,PySem.F.slot_dict_keyiterator_next.lookup,?_⟩));simpa [rawInt] using hQ
theorem MT {it d:Addr} {i ep:Nat} {es:Array DictEntry} {e:DictEntry} {Q:Option Value->Shared->Prop} (hit:s.heap.IsKeyIter it d i es.size ep) (hm:RawD d es ep s.heap) (hx:es[i]?=some e)
    (hQ:∀ h',h'.IsKeyIter it d (i+1) es.size ep->Heap.SameBut it s.heap h'->Q (some e.key) { s with heap:=h' }):wpAny (model prog w) A (pyNext (.ref it)) Q E s:=by
  obtain ⟨o,ho,hc,hd⟩:=id hit;obtain ⟨od,hod, -,hdd⟩:=hm;have hno:Builtin.Dict_items.ownsTuple "dict_keyiterator"=false:=by decide
  unfold pyNext;refine wpAny_bind (wpAny_attempt (wpAny_callSpecial?_slot (name:=Str.ofString "__next__") hit.typeIs PySem.F.slot_dict_keyiterator_next (wpAny_call_entry PySem.F.slot_dict_keyiterator_next hit.typeIs PySem.F.entry_dict_keyiterator_next ?_ (PySem.F.args_dict_keyiterator_next_1 _))));refine wpAny_bind (wpAny_pure (wpAny_bind (wpAny_bind ?_)));refine wpAny_bind (wpAny_typeNameOfWhole_keyiter hit.typeIs (wpAny_pure ?_));refine wpAny_bind (wpAny_fieldsOf ho hd ?_);simp only [hno,Bool.false_eq_true,if_false];show wpAny _ _ (if (Value.ref d == Value.none)=true then _ else _) _ _ s;rw [if_neg (show ¬ ((Value.ref d == Value.none)=true) from Bool.false_ne_true)];refine wpAny_bind (wpAny_pure (wpAny_bind (wpAny_dictEntries hod hdd ?_)));rw [if_neg (by simp)];refine wpAny_bind (wpAny_pure (wpAny_bind (wpAny_dictEpoch hod hdd ?_)));rw [if_neg (by simp)];refine wpAny_pure ?_;simp only [show ¬ ((i:Int)<0) from by omega,if_false,Int.toNat_natCast,hx];refine wpAny_bind (wpAny_bind (wpAny_typeNameOfWhole_keyiter hit.typeIs (wpAny_pure ?_)));refine wpAny_bind (wpAny_isOneOf_keyiter hit.typeIs ?_);show wpAny _ _ (setField (.ref it) 1 (rawInt ((i:Int)+1)) >>= _) _ _ s;refine wpAny_bind (wpAny_setField ho hd (by simp) ?_);have hit':(s.heap.update it (Obj.mapFields (·.setIfInBounds 1 (rawInt ((i:Int)+1))))).IsKeyIter it d (i+1) es.size ep:=
    ⟨_,Heap.get?_update_self _ ho (Obj.isFreed_of_fields (Obj.data_mapFields hd _)),(Obj.cls_mapFields ..).trans hc,by rw [Obj.data_mapFields hd];simp [rawInt]⟩
  refine wpAny_bind (wpAny_holding (wpAny_bind (wpAny_isOneOf_keyiter (s:={ s with heap:=s.heap.update it (Obj.mapFields (·.setIfInBounds 1 (rawInt ((i:Int)+1)))) }) hit'.typeIs ?_)));show wpAny _ _ (pure e.key) _ _ _;exact wpAny_pure (wpAny_pure ⟨_,rfl,wpAny_pure (hQ _ hit' (Heap.SameBut.update ..))⟩)
theorem Oe {it d:Addr} {i ep:Nat} {es:Array DictEntry} {Q:Option Value->Shared->Prop} (hh:A.handled=none) (hit:s.heap.IsKeyIter it d i es.size ep) (hm:RawD d es ep s.heap) (hx:es[i]?=none)
    (hQ:∀ h',Heap.ExtBut it s.heap h'->Q none { s with heap:=h' }):wpAny (model prog w) A (pyNext (.ref it)) Q E s:=by
  obtain ⟨o,ho,hc,hd⟩:=id hit;obtain ⟨od,hod, -,hdd⟩:=hm;have hno:Builtin.Dict_items.ownsTuple "dict_keyiterator"=false:=by decide
  unfold pyNext;refine wpAny_bind (wpAny_attempt (wpAny_callSpecial?_slot (name:=Str.ofString "__next__") hit.typeIs PySem.F.slot_dict_keyiterator_next (wpAny_call_entry PySem.F.slot_dict_keyiterator_next hit.typeIs PySem.F.entry_dict_keyiterator_next ?_ (PySem.F.args_dict_keyiterator_next_1 _))));refine wpAny_bind (wpAny_pure (wpAny_bind (wpAny_bind ?_)));refine wpAny_bind (wpAny_typeNameOfWhole_keyiter hit.typeIs (wpAny_pure ?_));refine wpAny_bind (wpAny_fieldsOf ho hd ?_);simp only [hno,Bool.false_eq_true,if_false];show wpAny _ _ (if (Value.ref d == Value.none)=true then _ else _) _ _ s;rw [if_neg (show ¬ ((Value.ref d == Value.none)=true) from Bool.false_ne_true)];refine wpAny_bind (wpAny_pure (wpAny_bind (wpAny_dictEntries hod hdd ?_)));rw [if_neg (by simp)];refine wpAny_bind (wpAny_pure (wpAny_bind (wpAny_dictEpoch hod hdd ?_)));rw [if_neg (by simp)];refine wpAny_pure ?_;simp only [show ¬ ((i:Int)<0) from by omega,if_false,Int.toNat_natCast,hx];refine wpAny_bind (wpAny_bind (wpAny_typeNameOfWhole_keyiter hit.typeIs (wpAny_pure ?_)));show wpAny _ _ (setField (.ref it) 0 .none >>= _) _ _ s;refine wpAny_bind (wpAny_setField ho hd (by simp) ?_);show wpAny _ _ (newExc (.type "StopIteration") [] >>= _) _ _ _;refine wpAny_bind ?_;simp only [newExc,newTuple];refine wpAny_bind (wpAny_newObj_type ?_ (by size_fits));refine wpAny_bind (m:=firstArgMember _ _) (wpAny_of_eq (a:=Value.none) (by first | rfl | (simp only [firstArgMember];rfl)) ?_);refine wpAny_newObj_type ?_ (by size_fits);simp only [raiseNew];refine wpAny_bind (wpAny_handled ?_);rw [show A.in1.handled=none from hh];refine wpAny_bind (wpAny_pure (wpAny_throw ?_));refine wpAny_bind (wpAny_isInstance (T:="StopIteration") (b:=true) ⟨_,Heap.get?_push_size _ rfl,rfl⟩ isSubtype_stop ?_);exact wpAny_pure (hQ _ (((Heap.SameBut.update ..).extBut.push _).push _))
theorem LL (hh:A.handled=none) (I d:Addr) (hne:d≠I) (es:Array DictEntry) (ep:Nat):Walks prog w A I [I,d] [I] es.size (λ i v=>∃ e,es[i]?=some e/\v=e.key) (λ i h=>h.IsKeyIter I d i es.size ep/\RawD d es ep h) where
  sub:=λ b hb=>by simp at hb;simp [hb]
  frame:=λ _ _ _ st hk=>⟨st.1.at λ o e=>hk I (by simp) o e,st.2.to λ o e=>hk d (by simp) o e⟩
  item:=λ i s Q E hi st hQ=>by
    have hx:es[i]?=some es[i]:=by simp [hi]
    exact MT st.1 st.2 hx λ h' hit hs=>hQ _ h' s.toks ⟨_,hx,rfl⟩ ⟨hit,st.2.to λ o e=>hs.extBut d o hne e⟩ λ b o hb e=>hs.extBut b o (λ h=>hb (by simp [h])) e
  done:=λ s Q E st hQ=>Oe hh st.1 st.2 (by simp) λ h' he=>hQ h' s.toks λ b o hb e=>he b o (λ h=>hb (by simp [h])) e
  self:=λ _ _ _ _ st hQ=>wpAny_pyIter_keyiter st.1 hQ
theorem raw_src {d:Addr} {es:Array DictEntry} {ep:Nat} (lo:(d == sysModules)=false):KdlSrc prog w "dict" d d es.size (λ i v=>∃ e,es[i]?=some e/\v=e.key) (RawD d es ep) where
  type:=λ _ hm=>hm.type
  there:=λ _ hm=>⟨Heap.lt_size hm.choose_spec.1,Heap.lt_size hm.choose_spec.1⟩
  keep:=λ _ _ hm hk=>hm.to λ o e=>hk d (.inl rfl) o e
  notList:=by decide
  notTuple:=by decide
  hint:=λ _ _ _ _ hm hq=>kdl_hint_dict hm.type hq
  iter:=λ _ _ hh hm=>⟨_,_,(λ _ _ hq=>NW lo hm hq),LL hh _ d (Nat.ne_of_lt (Heap.lt_size hm.choose_spec.1)) es ep,⟨⟨_,Heap.get?_push_size _ rfl,rfl,rfl⟩,hm.to λ o e=>Heap.get?_push_of_some _ e⟩⟩
theorem sort_shell {a:Addr} {vs:List Value} {n:Nat} {P:PySem.Fin->Shared->Prop} (G:List Value->Prop) (ho:s.heap.get? a=some (seqObj "list" vs.toArray n)) (h64:vs.length<64) (h1:vs.length<2->G vs)
    (h2:2<=vs.length->∀ h',(∀ b o,b≠a->s.heap.get? b=some o->h'.get? b=some o)->
      wpAny (model prog w) A (keyKind' vs.toArray) (λ κ s'=>(kas_sort vs.length).kasWp (kas_ask prog w A κ vs) (λ p s''=>s''={ s with heap:=h' }/\G (p.toList.map λ i=>vs.getD i Value.none)) s') (λ _ _=>False) { s with heap:=h' })
    (h:∀ out,G out->out.length=vs.length->P (.done (.ret .none)) { s with heap:=sortedHeap s.heap a vs out.toArray }):wpAny (model prog w) A (Builtin.«list.sort» ⟨[.ref a],[]⟩) P E s:=by
  have ha:a<s.heap.objs.size:=Heap.lt_size ho;obtain ⟨e1,ho1⟩:∃ e1,(s.heap.update a (Obj.mapSeq λ _=>(#[]:Array Value))).get? a=some (seqObj "list" #[] e1):=⟨_,get?_update_seq ho λ _=> #[]⟩;have ho6:(((s.heap.update a (Obj.mapSeq λ _=>(#[]:Array Value))).push (seqObj "tuple" vs.toArray 0)).push (seqObj "list" #[] 0)).get? a=some (seqObj "list" #[] e1):=Heap.get?_push_of_some _ (Heap.get?_push_of_some _ ho1);have line:∀ k,k<64->k<=sizeLine+1:=λ k hk=>by rw [sizeLine_eq];omega
  rw [list_sort_plain];refine wpAny_bind (listItems_at ho rfl (wpAny_bind (listUpdate_at ho rfl ?_ (by rw [List.size_toArray,sizeLine_eq];omega) (Nat.zero_le _))));refine wpAny_bind (seqEpoch_at ho1 rfl (wpAny_bind (wpAny_newTuple ?_ (by show vs.length<=_;rw [sizeLine_eq];omega))));refine wpAny_bind (wpAny_newList (wpAny_holding ?_) (Nat.zero_le _));show wpAny (model prog w) A _ P E { s with heap:=((s.heap.update a (Obj.mapSeq λ _=> #[])).push (seqObj "tuple" vs.toArray 0)).push (seqObj "list" #[] 0) };dsimp only;by_cases c:vs.toArray.size<2
  · have cl:vs.length<2:=by simpa using c
    rw [if_pos c,if_pos c];refine wpAny_bind (wpAny_pure ?_);rw [StateT.run_pure];refine wpAny_bind (wpAny_pure (wpAny_bind (seqEpoch_at ho6 rfl (wpAny_bind (listUpdate_at ho6 rfl ?_ (Nat.zero_le _) ?_)))))
    · simp only [bne_self_eq_false,Bool.false_eq_true,if_false];have e:(vs.toArray.zip vs.toArray).map (·.2)=vs.toArray:=by
        apply Array.toList_inj.mp;rw [Array.toList_map,Array.toList_zip];exact List.map_snd_zip (Nat.le_refl _)
      refine wpAny_pure ?_;show P _ { s with heap:=(((s.heap.update a (Obj.mapSeq λ _=>(#[]:Array Value))).push (seqObj "tuple" vs.toArray 0)).push (seqObj "list" #[] 0)).update a (Obj.mapSeq λ _=>(vs.toArray.zip vs.toArray).map (·.2)) };rw [e];exact h vs (h1 cl) rfl
    · simp only [Array.size_map];show (vs.toArray.zip vs.toArray).size<=_;rw [Array.size_zip,List.size_toArray,Nat.min_self];exact line _ h64
  · have cl:2<=vs.length:=by simpa using c
    rw [if_neg c,if_neg c];have ask:=h2 cl _ (λ b o nb e=>show (((s.heap.update a (Obj.mapSeq λ _=>(#[]:Array Value))).push (seqObj "tuple" vs.toArray 0)).push (seqObj "list" #[] 0)).get? b=some o from
      Heap.get?_push_of_some _ (Heap.get?_push_of_some _ ((Heap.get?_update_other _ _ (Ne.symm nb)).trans e)))
    refine wpAny_bind (wpAny_mono ask (λ κ s0 hk=> ?_) λ _ _ x=>x.elim);refine wpAny_bind (wpAny_mono (kat_run (Q:=λ st' s'=>∃ p:Array Nat,p.size=vs.length/\arrOf st'=p.map (kas_item (vs.toArray.zip vs.toArray))/\failedOf st'=none/\s'={ s with heap:=((s.heap.update a (Obj.mapSeq λ _=>(#[]:Array Value))).push (seqObj "tuple" vs.toArray 0)).push (seqObj "list" #[] 0) }/\G (p.toList.map λ i=>vs.getD i Value.none))
      rfl cl h64 (λ p st' s' a1 a2 a3 a4=>⟨p,a1,a2,a3,a4⟩) hk) ?_ λ _ _ e=>e)
    rintro ⟨⟨⟩,st'⟩ s' ⟨p,hp,har,hf,rfl,g⟩;dsimp only;have hsz:(List.toArray (p.toList.map λ i=>vs.getD i Value.none)).size=vs.length:=by rw [List.size_toArray,List.length_map,Array.length_toList,hp]
    rw [kat_snds rfl har];refine wpAny_bind (seqEpoch_at ho6 rfl (wpAny_bind (listUpdate_at ho6 rfl ?_ (Nat.zero_le _) (by rw [hsz];exact line _ h64))));rw [hf];simp only [bne_self_eq_false,Bool.false_eq_true,if_false];exact wpAny_pure (h _ g (by rw [List.length_map,Array.length_toList,hp]))
theorem kas_pure {vs:List Value} {κ:SortKind} {lt:Nat->Nat->Bool} {n:Nat} (hl:∀ i j,i<n->j<n->∀ C:Bool->Shared->Prop,C (lt i j) s->kas_ask prog w A κ vs i j C s) {α:Type} {Q:α->Prop}:∀ (t:KasT α),MSort.KP lt n t Q->
    t.kasWp (kas_ask prog w A κ vs) (λ a s'=>s'=s/\Q a) s
  | .ret a,h=>⟨rfl,h⟩
  | .ask i j k,h=>hl i j h.1 h.2.1 _ (kas_pure hl (k (lt i j)) h.2.2)
end HT
namespace HT
open PySem PySem.Spec PyProof.Rows PySem.W
variable {prog:Program} {w:World} {A:Around} {E:Value->Shared->Prop} {s:Shared}
def lexB (x:Str) (i:Int) (y:Str) (j:Int):Bool:=if x=y then decide (i<j) else decide (x.cps.toList<y.cps.toList)
theorem lex_lt {x y:Str} {i j:Int} {b c:Addr} {t u t' u':Tok} {C:Bool->Shared->Prop} (hb:IsTup s.heap b #[.str x t, .int i u]) (hc:IsTup s.heap c #[.str y t', .int j u']) (h:C (lexB x i y j) s):
    wpAny (model prog w) A (keyLt' (tuples' true) (.ref b) (.ref c)) C (λ _ _=>False) s:=by
  obtain ⟨o,ho, -,n,hd⟩:=hb;obtain ⟨o',ho', -,n',hd'⟩:=hc;refine kat_lt ho hd ho' hd' ?_;show KatLex prog w A true false C [(.str x t, .str y t'),(.int i u, .int j u')] 0 s;refine kat_cons (wpAny_eqBool_str ?_);unfold lexB at h;by_cases e:x=y
  · rw [if_pos e] at h;rw [decide_eq_true e];refine kat_yes (kat_cons (wpAny_eqBool_int ?_));by_cases f:i=j
    · rw [show (i == j)=true by simp [f]];refine kat_yes (kat_nil ?_)
      rwa [show decide (i<j)=false by simp [f]] at h
    · rw [show (i == j)=false by simp [f]];exact kat_no (kat_one _ _ (lt_int h))
  · rw [if_neg e] at h;rw [decide_eq_false e];exact kat_no (oneLt_str h)
theorem kat_strs {h:Heap}:∀ (vs:List Value),(∀ v∈vs,∃ a x i t u,v= .ref a/\IsTup h a #[.str x t, .int i u])->∃ fs,KatTups h vs fs/\fs.length=vs.length/\∀ f∈fs,∃ x t,f=Value.str x t
  | [],_=>⟨[],KatTups.nil,rfl,λ f hf=>by cases hf⟩
  | v::vs,hv=>by
    obtain ⟨a,x,i,t,u,rfl,o,ho,hc,n,hd⟩:=hv v (List.mem_cons_self ..);obtain ⟨fs,k,l,g⟩:=kat_strs vs λ v' h'=>hv v' (List.mem_cons_of_mem _ h');refine ⟨.str x t::fs,KatTups.cons ho hc hd rfl k,by simp [l],λ f hf=> ?_⟩;rcases List.mem_cons.mp hf with rfl | hf
    · exact ⟨x,t,rfl⟩
    · exact g f hf
theorem kas_mono {κ:SortKind} {vs:List Value} {α:Type} {Q Q':α->Shared->Prop} {t:KasT α} (h:t.kasWp (kas_ask prog w A κ vs) Q s) (hq:∀ a s',Q a s'->Q' a s'):t.kasWp (kas_ask prog w A κ vs) Q' s:=by
  rw [kas_ask_eq] at h ⊢;exact kas_wp_mono h hq
end HT
namespace L2
open PySem PySem.Spec PyProof.Rows PySem.W
structure LexOk (rk:List Key->Nat) (ks:List (List Key)):Prop where
  shp:∀ k∈ks,∃ (x:Str) (i:Int),k=[.inr x, .inl i]
  inj:∀ k∈ks,∀ k'∈ks,rk k=rk k'->k=k'
  ord:∀ (x:Str) (i:Int) (y:Str) (j:Int),([.inr x, .inl i]:List Key)∈ks->([.inr y, .inl j]:List Key)∈ks->HT.lexB x i y j=decide (rk [.inr x, .inl i]<rk [.inr y, .inl j])
def NR:List V->Hp->VK->Prop:=λ xs H Q=>∃ (p:Addr) (kvs:List (List Key × V)) (rk:List Key->Nat),xs=[.ref p]/\H p=some (.dT kvs)/\kvs.length<64/\LexOk rk (kvs.map (·.1))/\
  ∀ (l:Addr) (bs:List Addr) (ms:List (List Key)),H l=none->ms.Perm (kvs.map (·.1))->ms.Pairwise (λ a b=>rk a<rk b)->bs.length=ms.length->(∀ i,i<ms.length->H (bs.getD i 0)=some (.tup ((ms.getD i []).map kV)))->Q (.ref l) (upd H l (.lst (bs.map V.ref)))
theorem E7 {α β:Type} {F:α->β->Prop}:∀ {l₁:List α} {l₂:List β},Paired F l₁ l₂->∀ (i:Nat) (a:α) (b:β),l₁[i]?=some a->l₂[i]?=some b->F a b
  | _,_, .nil,i,a,b,h,_=>by simp at h
  | _,_, .cons r t,0,a,b,h,h'=>by
    simp only [List.getElem?_cons_zero,Option.some.injEq] at h h';subst h;subst h';exact r
  | _,_, .cons r t,i+1,a,b,h,h'=>by
    rw [List.getElem?_cons_succ] at h h';exact E7 t i a b h h'
theorem Fg:∀ bs:List Addr,Vals (bs.map V.ref) (bs.map Value.ref)
  | []=> .nil
  | b::bs=> .cons rfl (Fg bs)
theorem HA {X:Cx} (hc:X.calm=true):A7 X (.builtin "sorted") NR:=by
  intro pins s σ H xs us Q I r h;obtain ⟨p,kvs,rk,rfl,hp,hl,lx,q⟩:=h;obtain ⟨u,rfl,rx⟩:=DF r;cases rx;obtain ⟨hz,hs,ys,kt,o,es,ep,ho,hx,hd,hes, -,hnd⟩:=K4 I.hok hp;have hlen:ys.length=kvs.length:=(Paired.length kt).symm;have hsz:es.size=kvs.length:=by rw [<-Array.length_toList,hes,List.length_map,hlen]
  have hkk:ys.map (·.1)=kvs.map (·.1):=by
    apply List.ext_getElem?;intro i;rw [List.getElem?_map,List.getElem?_map];rcases Nat.lt_or_ge i kvs.length with hi | hi
    · rw [List.getElem?_eq_getElem hi,List.getElem?_eq_getElem (hlen▸hi)];have:=E7 kt i _ _ (List.getElem?_eq_getElem hi) (List.getElem?_eq_getElem (hlen▸hi));simp only [Option.map_some];rw [this.1]
    · rw [List.getElem?_eq_none hi,List.getElem?_eq_none (hlen▸hi)];rfl
  refine Calls.call_function_entry kind_sorted plain_sorted entry_sorted (args_sorted1 _) ?_;show wpAny _ _ (checkCount "sorted" 1 1 1 >>= λ _=>collect (.ref p) >>= λ xs=>newList xs >>= λ l=>holding [l] (call (.builtin "list.sort") [l] []) >>= λ _=>ret l) _ _ _;rw [EQ];refine wpAny_bind (wpAny_pure ?_);refine wpAny_bind (kdu_collect (A:=X.A.in1) (HT.raw_src (es:=es) (ep:=ep) hs) (I.ok.hd hc) ⟨o,ho,hx,hd⟩ (by rw [hsz,sizeLine_eq];omega) λ h1 tk acc k1 hacc=> ?_);have I1:=I.kept (t':=tk) k1;have hvs:acc.toList=(ys.map (·.2.1)).map Value.ref:=by
    apply List.ext_getElem?;intro i;rw [List.getElem?_map,List.getElem?_map];rcases Nat.lt_or_ge i kvs.length with hi | hi
    · have ha:i<acc.size:=by rw [hacc.1,hsz];exact hi
      obtain ⟨e,he,hv⟩:=hacc.2 i acc[i] (Array.getElem?_eq_getElem ha);rw [<-Array.getElem?_toList,hes,List.getElem?_map,List.getElem?_eq_getElem (hlen▸hi)] at he;have he':=(Option.some.inj he).symm;rw [Array.getElem?_toList,Array.getElem?_eq_getElem ha,hv,List.getElem?_eq_getElem (hlen▸hi),he'];rfl
    · rw [List.getElem?_eq_none (show acc.toList.length<=i by rw [Array.length_toList,hacc.1,hsz];exact hi),List.getElem?_eq_none (show ys.length<=i by omega)];rfl
  rw [hvs];generalize hbs:ys.map (·.2.1)=bs;have hbl:bs.length=kvs.length:=by rw [<-hbs,List.length_map,hlen]
  have hbt:∀ i,i<kvs.length->H (bs.getD i 0)=some (.tup (((kvs.map (·.1)).getD i []).map kV)):=by
    intro i hi;have:=(E7 kt i _ _ (List.getElem?_eq_getElem hi) (List.getElem?_eq_getElem (hlen▸hi))).2.1;rw [<-hbs,List.getD_eq_getElem?_getD,List.getElem?_map,List.getElem?_eq_getElem (hlen▸hi),List.getD_eq_getElem?_getD,List.getElem?_map,List.getElem?_eq_getElem hi];exact this
  have hkl:(kvs.map (·.1)).length=kvs.length:=List.length_map ..;generalize hks:kvs.map (·.1)=ks at*;have hvl:(bs.map Value.ref).length=kvs.length:=by rw [List.length_map,hbl]
  refine wpAny_bind (wpAny_newList ?_ ?_)
  · refine wpAny_bind (wpAny_holding ?_);have hg:(h1.push { cls:=Value.type "list",data:=Data.seq (bs.map Value.ref).toArray }).get? h1.objs.size=some (seqObj "list" (bs.map Value.ref).toArray 0):=Heap.get?_push_size _ rfl;refine wpAny_call_entry slot_list_sort ⟨_,hg,rfl⟩ entry_list_sort ?_ (args_list_sort _);refine HT.sort_shell (λ out=>∃ (cs:List Addr) (ms:List (List Key)),out=cs.map Value.ref/\ms.Perm ks/\ms.Pairwise (λ a b=>rk a<rk b)/\cs.length=ms.length/\∀ i,i<ms.length->H (cs.getD i 0)=some (.tup ((ms.getD i []).map kV))) hg (by rw [hvl];exact hl) (λ c=> ?_) (λ c h' k'=> ?_) λ out g ol=> ?_
    · refine ⟨bs,ks,rfl,List.Perm.refl _,?_,by rw [hbl,hkl],λ i hi=>hbt i (hkl▸hi)⟩
      match ks,hkl,hvl▸c with
      | [],_,_=>exact .nil
      | [_],_,_=>exact List.pairwise_singleton ..
      | _::_::_,e,z=>rw [<-e] at z;simp only [List.length_cons] at z;omega
    · have tp:∀ i,i<kvs.length->∃ x j t u,ks.getD i []=[.inr x, .inl j]/\IsTup h' (bs.getD i 0) #[.str x t, .int j u]:=by
        intro i hi;have hm:ks.getD i []∈ks:=by
          rw [List.getD_eq_getElem?_getD,List.getElem?_eq_getElem (hkl▸hi)];exact List.getElem_mem _
        obtain ⟨x,j,e⟩:=lx.shp _ hm;have hb:=hbt i hi;rw [e] at hb;obtain ⟨its,rv,⟨ob,hob,hcb,n,hdb⟩, -⟩:=I1.tuple (SqT.of (K:=X.K) hb);cases rv with
        | cons r1 rr=>
          cases rr with
          | cons r2 rr2=>
            cases rr2;obtain ⟨t,rfl⟩:=r1;obtain ⟨u,rfl⟩:=r2;exact ⟨x,j,t,u,e,ob,k' _ _ (Nat.ne_of_lt (Heap.lt_size hob)) (Heap.get?_push_of_some _ hob),hcb,n,hdb⟩
      obtain ⟨fs,kf,fl,fst⟩:=HT.kat_strs (h:=h') (bs.map Value.ref) (λ v hv=>by
        obtain ⟨b,hb,rfl⟩:=List.mem_map.mp hv;obtain ⟨i,hi,rfl⟩:=List.mem_iff_getElem.mp hb;obtain ⟨x,j,t,u, -,z⟩:=tp i (hbl▸hi);rw [List.getD_eq_getElem?_getD,List.getElem?_eq_getElem hi] at z;exact ⟨_,x,j,t,u,rfl,z⟩)
      refine kat_kind (T:= .type "str") kf (by omega) (λ v hv=> ?_) (by decide) ?_
      · obtain ⟨x,t,rfl⟩:=fst v hv;exact Looks.now
      · have inj:MSort.Inj (λ i=>rk (ks.getD i [])) kvs.length:=by
          intro i j hi hj e;have mi:ks.getD i []=ks[i]'(hkl▸hi):=by rw [List.getD_eq_getElem?_getD,List.getElem?_eq_getElem (hkl▸hi)];rfl
          have mj:ks.getD j []=ks[j]'(hkl▸hj):=by rw [List.getD_eq_getElem?_getD,List.getElem?_eq_getElem (hkl▸hj)];rfl
          have e:rk (ks.getD i [])=rk (ks.getD j []):=e;rw [mi,mj] at e;have:=lx.inj _ (List.getElem_mem _) _ (List.getElem_mem _) e;exact (List.getElem_inj (hkk▸hnd)).mp this
        have ev:∀ i,i<kvs.length->(bs.map Value.ref).getD i Value.none= .ref (bs.getD i 0):=by
          intro i hi;rw [List.getD_eq_getElem?_getD,List.getElem?_map,List.getD_eq_getElem?_getD,List.getElem?_eq_getElem (hbl▸hi)];rfl
        have run:=HT.kas_pure (prog:=X.prog) (w:=X.w) (A:=X.A.in1.in1) (s:=({ s with heap:=h',toks:=tk }:Shared)) (vs:=bs.map Value.ref) (κ:=tuples' true) (lt:=MSort.L λ i=>rk (ks.getD i [])) (n:=kvs.length)
          (λ i j hi hj C hC=>by
            unfold kas_ask;rw [ev i hi,ev j hj];obtain ⟨x,a,t,u,e1,t1⟩:=tp i hi;obtain ⟨y,b,t',u',e2,t2⟩:=tp j hj;refine HT.lex_lt t1 t2 ?_;have m1:ks.getD i []∈ks:=by
              rw [List.getD_eq_getElem?_getD,List.getElem?_eq_getElem (hkl▸hi)];exact List.getElem_mem _
            have m2:ks.getD j []∈ks:=by
              rw [List.getD_eq_getElem?_getD,List.getElem?_eq_getElem (hkl▸hj)];exact List.getElem_mem _
            have hC:C (decide (rk (ks.getD i [])<rk (ks.getD j []))) _:=hC;rw [e1] at m1 hC;rw [e2] at m2 hC;rw [lx.ord _ _ _ _ m1 m2];exact hC) _ (MSort.sort inj (by omega))
        rw [<-hvl] at run;refine HT.kas_mono run λ p' s' hq=> ?_;obtain ⟨rfl,ok,up⟩:=hq;refine ⟨rfl,p'.toList.map (λ i=>bs.getD i 0),p'.toList.map (λ i=>ks.getD i []),?_,?_,?_,by simp,?_⟩
        · rw [List.map_map];refine List.map_congr_left λ i hi=> ?_;exact ev i (hvl▸List.mem_range.mp (ok.perm.mem_iff.mp hi))
        · refine (ok.perm.map _).trans (List.Perm.of_eq ?_);rw [hvl, <-hkl];exact AK id ks [] |>.trans (List.map_id _)
        · rw [List.pairwise_iff_getElem];intro i j hi hj hij;rw [List.length_map,Array.length_toList,ok.size] at hi hj;have:=up i j hij hj;unfold MSort.K at this;have hi':i<p'.size:=by rw [ok.size];exact hi
          have hj':j<p'.size:=by rw [ok.size];exact hj
          have gi:p'.getD i 0=p'[i]:=by simp [Array.getD,hi']
          have gj:p'.getD j 0=p'[j]:=by simp [Array.getD,hj']
          rw [gi,gj] at this;simpa using this
        · intro i hi;rw [List.length_map,Array.length_toList,ok.size] at hi;have hi':i<p'.size:=by rw [ok.size];exact hi
          have hl':=ok.lt hi;have gi:p'.getD i 0=p'[i]:=by simp [Array.getD,hi']
          rw [gi] at hl';have z:=hbt p'[i] (hvl▸hl');rw [List.getD_eq_getElem?_getD,List.getElem?_map,List.getD_eq_getElem?_getD (l:=List.map _ _),List.getElem?_map,Array.getElem?_toList,Array.getElem?_eq_getElem hi'];exact z
    · obtain ⟨cs,ms,rfl,pm,pw,cl,at_⟩:=g;refine ⟨_,rfl,?_⟩;refine wpAny_pure ⟨_,rfl,?_⟩;obtain ⟨e,he⟩:=sortedHeap_at (out:=(cs.map Value.ref).toArray) hg;refine ⟨.ref h1.objs.size,_,I1.laid (t':=tk) (o:= .lst (cs.map V.ref)) (λ b ob z=> ?_) (Nat.le_refl _) ?_,rfl,q _ cs ms (I1.hok.fresh (Nat.le_refl _)) pm pw cl at_⟩
      · have hb:=Heap.lt_size z;have hsz:b<(h1.push { cls:=Value.type "list",data:=Data.seq (bs.map Value.ref).toArray }).objs.size:=Nat.lt_trans hb (Heap.lt_size hg);show (sortedHeap _ _ _ _).get? b=_;rw [sortedHeap_old (Nat.ne_of_lt hb) hsz];exact Heap.get?_push_of_some _ z
      · refine ⟨?_,cs.map Value.ref,e,Fg cs,?_⟩
        · rw [List.length_map,cl,pm.length_eq,hkl];exact Nat.le_trans (Nat.le_of_lt hl) (by decide)
        · show (sortedHeap _ _ _ _).get? _=_;rw [he]
  · rw [hvl];exact Nat.le_trans (Nat.le_of_lt hl) (by decide)
theorem IT {H:Hp} {Q:VK} {p:Addr} {kvs:List (List Key × V)} (rk:List Key->Nat) (hp:H p=some (.dT kvs)) (n:kvs.length<64) (lx:LexOk rk (kvs.map (·.1)))
    (h:∀ (l:Addr) (bs:List Addr) (ms:List (List Key)),H l=none->ms.Perm (kvs.map (·.1))->ms.Pairwise (λ a b=>rk a<rk b)->bs.length=ms.length->(∀ i,i<ms.length->H (bs.getD i 0)=some (.tup ((ms.getD i []).map kV)))->Q (.ref l) (upd H l (.lst (bs.map V.ref)))):NR [.ref p] H Q:=⟨p,kvs,rk,rfl,hp,n,lx,h⟩
end L2
namespace L2
open PySem PySem.Spec PyProof.Rows
section
variable {P:Program} {w:World} {K:PySem.W.Frag} {mg:Str->Option Value} {base:Heap} {N:List Str} {qual:Str} {scope:Scope} {f:Addr} {cd:Value} {A:Around} {outer:List Env} {s₀:Shared} {H₀:Hp} {E:XK}
end
section
variable {X:Cx} {pins:List (Addr × Obj)} {σ:St} {H:Hp} {s s₁:Shared} {E:XK} {e:Value}
end
section
variable {X:Cx} {pins pins0:List (Addr × Obj)} {σ:St} {H:Hp} {s:Shared} {xe:Value->Shared->Prop}
end
end L2
namespace L2
open PySem PySem.Spec PyProof.Rows PySem.W
end L2
namespace HT
open PySem PySem.Spec PyProof.Rows PySem.W PySem.Calls PySem.Builtin PySem.Builtin.ObjectAttr PySem.Builtin.Getset_descriptor
def ExcAt (a C:Addr) (h:Heap):Prop:=∃ o,h.get? a=some o/\o.cls= .ref C
structure ExcKind (K:Frag) (C:Addr):Prop where
  cl:(clsIn K C).isSome=true
  ga:findIn K (.ref C) "__getattribute__"=some (some (.builtin "BaseException.__getattribute__"))
  ng:findIn K (.ref C) "__getattr__"=some none
  hb:mroIn K C (.type "BaseException")=some true
  ha:findIn K (.ref C) "__class__"=some (some (.builtin "object.__class__"))
  hn:specialIn K (.builtin "object.__class__") "__get__"=some (some (.builtin "getset_descriptor.__get__"))
  htk:takesIn K (.builtin "object.__class__")=some true
  hm:mroIn K C (.type "object")=some true
theorem ExcAt.type {M:Model} {h:Heap} {a C:Addr} (x:ExcAt a C h):Looks M h (typeOf (.ref a)) (.ref C):=by
  obtain ⟨o,e,c⟩:=x;exact c▸(Looks.ld e).andThen .now
section
variable {prog:Program} {w:World} {A:Around} {E:Value->Shared->Prop} {s:Shared} {K:Frag} {a C:Addr}
end
end HT
namespace L2
open PySem PySem.Spec PyProof.Rows
end L2
namespace HT
open PySem PySem.Spec PyProof.Rows PySem.W
end HT
namespace L2
open PySem PySem.Spec PyProof.Rows
section
variable {X:Cx} {x:Str} {C:Addr} {k:Nat} {ps:List Str} {sp:Sp} {E:XK} {e:Expr} {es:List Expr} {t:TA} {p pos:Pos}
end
section
variable {P:Program} {w:World} {K:PySem.W.Frag} {mg:Str->Option Value} {base:Heap}
end
end L2
namespace HT
open PySem PySem.Spec PyProof.Rows PySem.SeqAt
open PySem.AutoSeq1 (wpAny_loadPart')
open PySem.MeetsSeq PySem.MeetsSeq2 PySem.MeetsSeq3
section
variable {A:Around} {s:Shared}
end
end HT
namespace L2
open PySem PySem.Spec PyProof.Rows
inductive DX where
  | d (d:Dt) | dic | tdic (BH:List Dt)
inductive Rx (H:Hp) (n:Nat):V->DX->Prop
  | d {v:V} {d:Dt} (r:Rp H FT n v d):Rx H n v (.d d)
  | dic {a:Addr} (h:H a=some (.dK [])):Rx H n (.ref a) .dic
  | tdic {t a:Addr} {ws:List V} {ds:List Dt} (ht:H t=some (.tup (.ref a::ws))) (h:H a=some (.dK [])) (l:ws.length=ds.length) (e:∀ (i:Nat) (v:V) (d:Dt),ws[i]?=some v->ds[i]?=some d->Rp H FT n v d):Rx H n (.ref t) (.tdic ds)
section
variable {X:Cx} {pins:List (Addr × Obj)} {σ:St} {H:Hp} {s:Shared}
end
end L2
namespace L2
open PySem PySem.Spec PyProof.Rows PySem.W
def exO (a:Addr) (o:Obj):HO:= .ext λ h=>h.get? a=some o
section
variable {P:Program} {w:World} {K:PySem.W.Frag} {mg:Str->Option Value} {base:Heap} {N:List Str} {qual:Str} {scope:Scope} {f:Addr} {cd:Value} {cl:List (Str × Addr)} {A:Around} {outer:List Env} {s:Shared} {H:Hp} {E:XK}
structure ClOkL (N:List Str) (scope:Scope) (cl:List (Str × Addr)) (h:Heap) (H:Hp) (vs:List V):Prop where
  len:vs.length=N.length
  inj:∀ x y c,cl.lookup x=some c->cl.lookup y=some c->x=y
  has:∀ x,(scope.names.lookup x=some .cell\/scope.names.lookup x=some .free)->∃ c,cl.lookup x=some c
  val:∀ (i:Nat) (x:Str) (v:V),N[i]?=some x->vs[i]?=some v->∃ c u,scope.names.lookup x=some .free/\cl.lookup x=some c/\RelV v u/\h.IsCell c (some u)
  cell:∀ x c,cl.lookup x=some c->(∃ v,h.IsCell c v)/\H c=none
end
def VO (qual:Str) (oc:Obj):Prop:=∃ vs t,oc.data= .fields vs/\vs[1]?=some (.str qual t)
structure LamX (X:Cx) (c P:Addr):Prop where
  code:X.env.code= .ref c
  hd:CodeHd X.base c P
  blt:X.base.BuiltinsAt X.mg P
section
variable {X:Cx} {pins:List (Addr × Obj)} {σ:St} {H:Hp} {s:Shared}
end
structure LamOk (params:Arguments) (scope:Scope):Prop where
  kind:scope.kind= .function
  co:scope.isCoroutine=false
  gen:scope.isGenerator=false
  cell:∀ x∈scope.names,x.2≠ .cell
  bind:∀ (qual:Str) (body:Expr) (cl:List (Str × Addr)) (pm cdv ctv:Value),bindArgs (kla_fn "<lambda>" qual params body scope cl pm cdv ctv) ⟨[],[]⟩=pure []
section
variable {P:Program} {w:World} {K:PySem.W.Frag} {mg:Str->Option Value} {base:Heap}
structure ThAt (s:Shared) (H:Hp) (outer:List Env) (f c':Addr) (oc:Obj) (N:List Str) (qual:Str) (scope:Scope) (cl:List (Str × Addr)) (params:Arguments) (body:Expr) (pm ctv:Value) (vs:List V):Prop where
  hf:s.heap.get? f=some (kla_obj "<lambda>" qual params body scope cl pm c' ctv)
  hf0:H f=none
  nf:f∉frs outer
  hc:H c'=some (exO c' oc)
  hoc:VO qual oc
  C:ClOkL N scope cl s.heap H vs
  nc:∀ x c,cl.lookup x=some c->c∉frs outer
  lo:LamOk params scope
end
def bar (T:Addr) (H:Hp):Hp:=λ b=>if b=T then none else H b
theorem MB {T:Addr} {H:Hp}:Same (bar T H) H:=λ b o e=>by
  by_cases hb:b=T
  · have e':=(if_pos hb).symm.trans e;cases e'
  · exact (if_neg hb).symm.trans e
end L2
namespace L2
open PySem PySem.Spec PyProof.Rows
section
variable {X:Cx} {K:PySem.W.Frag} {e lo st:Expr} {te tl ts:TE} {pos p2:Pos}
end
section
variable {J:It} {g:TG} {σ0:St} {H:Hp} {n:Nat} {st:Nat->St} {te:TE} {Q:VK} {D:Addr}
end
section
variable {X:Cx} {K:PySem.W.Frag}
end
theorem Pq {to ti:TE} {t:Pf} {v:V} {σ:St} {H:Hp} {Q:St->Hp->Prop} (h:to σ H λ o H1=>ti σ H1 λ i H2=>t o i v H2 λ H3=>Q σ H3):Tw to ti t v σ H Q:=h
theorem Rg {n i:Nat} (h:i<n):ixN n ((i:Nat):Int)=some i:=by
  unfold ixN;rw [if_pos (by omega),if_pos (by omega)];simp
theorem KL (n m:Nat):Builtin.bitAnd ((n:Nat):Int) (Builtin.bitNot ((m:Nat):Int))=((n ^^^ (n &&& m):Nat):Int):=by
  have e1:decide ((0:Int)<=((n:Nat):Int))=true:=decide_eq_true (by omega);have e2:decide ((0:Int)<=Builtin.bitNot ((m:Nat):Int))=false:=decide_eq_false (by unfold Builtin.bitNot;omega);have e3:(Builtin.bitNot (Builtin.bitNot ((m:Nat):Int))).toNat=m:=by unfold Builtin.bitNot;omega
  have e4:((n:Nat):Int).toNat=n:=Int.toNat_natCast n;show (match decide ((0:Int)<=((n:Nat):Int)),decide ((0:Int)<=Builtin.bitNot ((m:Nat):Int)) with
    | true,true=>(((((n:Nat):Int).toNat &&& (Builtin.bitNot ((m:Nat):Int)).toNat:Nat):Int))
    | true,false=>((n:Nat):Int) - ((((n:Nat):Int).toNat &&& (Builtin.bitNot (Builtin.bitNot ((m:Nat):Int))).toNat:Nat):Int)
    | false,true=>Builtin.bitNot ((m:Nat):Int) - (((Builtin.bitNot ((m:Nat):Int)).toNat &&& (Builtin.bitNot ((n:Nat):Int)).toNat:Nat):Int)
    | false,false=>Builtin.bitNot (((Builtin.bitNot ((n:Nat):Int)).toNat ||| (Builtin.bitNot (Builtin.bitNot ((m:Nat):Int))).toNat:Nat):Int))=_
  rw [e1,e2];show ((n:Nat):Int) - ((((n:Nat):Int).toNat &&& (Builtin.bitNot (Builtin.bitNot ((m:Nat):Int))).toNat:Nat):Int)=_;rw [e3,e4];have h:=MM.xor_eq n (n &&& m);have h2:n &&& (n &&& m)=n &&& m:=by rw [<-Nat.and_assoc,Nat.and_self]
  have h3:n ||| (n &&& m)=n:=Nat.eq_of_testBit_eq λ i=>by
    rw [Nat.testBit_or,Nat.testBit_and];cases n.testBit i <;> rfl
  rw [h2,h3] at h;omega
end L2
namespace L2
open PySem PySem.Spec PyProof.Rows PySem.W
section
variable {prog:Program} {w:World} {A:Around} {E:Value->Shared->Prop} {s:Shared}
def QE (t:Addr) (b:Bool) (TI:Addr) (v:Value):Obj:={ cls:= .type "zip",data:= .fields #[rawInt t, .bool b, .bool false, .ref TI,v] }
structure ZipAg (t1 t2:Bool) (h:Heap) (z TI i1 i2 l1 l2 t:Addr) (k:Nat):Prop where
  hz:∃ b v,h.get? z=some (QE t b TI v)
  ht:∃ o,h.get? t=some o
  hTI:IsPair h TI (.ref i1) (.ref i2)
  h1:Bv t1 h i1 l1 k
  h2:Bv t2 h i2 l2 k
theorem JC:entryFor table "dict.update.loop"=some Builtin.«dict.update.loop» := entryFor_of_tree (by kernel_rfl)
theorem EN:plainId "dict.update.loop"=true:=by decide +kernel
end
section
variable {X:Cx} {pins:List (Addr × Obj)} {σ:St} {H:Hp} {s:Shared} {A:Around} {E:Value->Shared->Prop}
end
section
variable {X:Cx} {K:PySem.W.Frag}
end
end L2
namespace L2
open PySem PySem.Spec PyProof.Rows
section
variable {X:Cx} {e o:Expr} {es:List Expr} {t:TA} {to:TE} {pos:Pos} {S:Addr->Sp->Prop} {E:XK}
end
section
variable {X:Cx} {K:PySem.W.Frag} {tg l:Expr} {ta:TA} {p pos:Pos}
end
section
variable {K:PySem.W.Frag} {σ0:St} {H:Hp} {a:Addr} {xs:List V}
end
section
variable {X:Cx} {scope:Scope} {cx:Str}
end
structure FnA (K:PySem.W.Frag) (m q:Str) (st:Stmt) (ps:List Str) (f:Addr) (fd:FuncData):Prop where
  fn:Fun K m q st f fd
  bi:Binds K fd ps []
section
variable {K:PySem.W.Frag} {mg:Str->Option Value} {m q x:Str} {st:Stmt} {ps:List Str} {f:Addr} {fd:FuncData}
theorem def_mk (a:mg x=some (.ref f)) (F:Fun K x x st f fd) (b:∀ us:List Value,us.length=ps.length->bindArgs fd ⟨us,[]⟩=pure (ps.zip us)):DefAt K mg x st ps f fd:=⟨F,a, .all b⟩
theorem fnA_mk (F:Fun K m q st f fd) (b:∀ us:List Value,us.length=ps.length->bindArgs fd ⟨us,[]⟩=pure (ps.zip us)):FnA K m q st ps f fd:=⟨F, .all b⟩
theorem exc_mk {C:Addr} (a:PySem.W.isClsIn K C=true) (b:PySem.W.findIn K (.ref C) "__getattribute__"=some (some (.builtin "BaseException.__getattribute__"))) (c:PySem.W.findIn K (.ref C) "__getattr__"=some none) (d:PySem.W.mroIn K C (.type "BaseException")=some true) (e:PySem.W.findIn K (.ref C) "__class__"=some (some (.builtin "object.__class__")))
    (f:PySem.W.specialIn K (.builtin "object.__class__") "__get__"=some (some (.builtin "getset_descriptor.__get__"))) (g:PySem.W.takesIn K (.builtin "object.__class__")=some true) (h:PySem.W.mroIn K C (.type "object")=some true):HT.ExcKind K C:=⟨a,b,c,d,e,f,g,h⟩
theorem ci_mk {n:Int} {t:Tok} (h:mg x=some (.int n t)):∃ t,mg x=some (.int n t):=⟨t,h⟩
theorem cs_mk {z:Str} {t:Tok} (h:mg x=some (.str z t)):∃ t,mg x=some (.str z t):=⟨t,h⟩
theorem own_nil:Own mg []:=λ _ h=>by cases h
theorem own_cons {xs:List Str} (a:mg x=none) (h:Own mg xs):Own mg (x::xs):=λ y hy=>by
  rcases List.mem_cons.mp hy with rfl | hy
  · exact a
  · exact h y hy
end
section
variable {prog:Program} {w:World} {κ:Type} [DecidableEq κ] (kd:KeyKind prog w κ)
inductive Rows2 (h:Heap):List (List κ)->List Value->Prop
  | nil:Rows2 h [] []
  | cons {k:List κ} {b:Addr} {r:List (List κ)} {us:List Value} (e:IsTupleKey kd h k b) (m:Rows2 h r us):Rows2 h (k::r) (.ref b::us)
def IsT2 (h:Heap) (r:List (List κ)) (b:Addr):Prop:=∃ ob its m,h.get? b=some ob/\ob.cls= .type "tuple"/\ob.data= .seq its m/\Rows2 kd h r its.toList
variable {kd}
theorem Rows2.one {h:Heap} {r r':List (List κ)} {us:List Value} (p:Rows2 kd h r us):Rows2 kd h r' us->r=r':=by
  induction p generalizing r' with
  | nil=>intro q;cases q;rfl
  | cons e _ ih=>
    intro q;cases q with
    | cons e' m'=>rw [IsTupleKey.inj e e',ih m']
theorem Rows2.on {h h':Heap} {d:Addr} {o:Obj} {es ep} {r:List (List κ)} {us:List Value} (ho:h.get? d=some o) (hd:o.data= .dict es ep) (hs:Heap.SameBut d h h') (p:Rows2 kd h r us):Rows2 kd h' r us:=by
  induction p with
  | nil=>exact .nil
  | cons e _ ih=>exact .cons (e.keeps ho hd hs) ih
theorem IsT2.ty {s:Shared} {r:List (List κ)} {b:Addr} (p:IsT2 kd s.heap r b):s.TypeIs (.ref b) "tuple":=by
  obtain ⟨ob,_,_,e,c,_⟩:=p;exact ⟨ob,e,c⟩
theorem IsT2.one {h:Heap} {b:Addr} {r r':List (List κ)} (p:IsT2 kd h r b) (p':IsT2 kd h r' b):r=r':=by
  obtain ⟨ob,its,m,e,_,d,q⟩:=p;obtain ⟨ob',its',m',e',_,d',q'⟩:=p';rw [e] at e';cases e';rw [d] at d';cases d';exact q.one q'
theorem IsT2.on {h h':Heap} {d:Addr} {o:Obj} {es ep} {r:List (List κ)} {b:Addr} (p:IsT2 kd h r b) (ho:h.get? d=some o) (hd:o.data= .dict es ep) (hs:Heap.SameBut d h h'):IsT2 kd h' r b:=by
  obtain ⟨ob,its,m,e,c,q,rw⟩:=p;have ne:b≠d:=λ z=>by
    rw [z,ho] at e;cases e;rw [hd] at q;cases q
  exact ⟨ob,its,m,(hs.2 b ne).trans e,c,q,rw.on ho hd hs⟩
def NI (kd:KeyKind prog w κ) (r:List (List κ)):Int:=reduceHash (Builtin.Tuple.tupleHashOf (r.map (tupleKeyHash kd)))
def HS (r:List (List κ)):Nat:=(r.map λ k=>k.length+1).sum
variable {A:Around} {E:Value->Shared->Prop} {s:Shared}
theorem Lu {r:List (List κ)} {b:Addr} {Q:Int->Shared->Prop} (hu:A.units+8<cLine) (p:IsT2 kd s.heap r b) (h:Q (NI kd r) { s with toks:=s.toks+(HS r+1) }):wpAny (model prog w) A (pyHash (.ref b)) Q E s:=by
  have ty:=p.ty;obtain ⟨ob,its,m,e,_,d,rw2⟩:=p;have hu0:A.units<cLine:=Nat.lt_of_le_of_lt (Nat.le_add_right _ 8) hu;unfold pyHash
  first | unfold pyHashByItsType | skip
  first | refine wpAny_bind (wpAny_cRoomFor_or (.inr hu0) ?_) | skip
  refine wpAny_bind (wpAny_specialOf ty F.slot_tuple_hash.lookup ?_);show wpAny _ _ (if (some (Value.builtin "tuple.__hash__") == some Value.none)=true then _ else _) Q E s;rw [if_neg (by rw [beq_builtin_none];decide)];refine wpAny_bind (wpAny_specialOf ty F.slot_tuple_hash.lookup ?_);show wpAny _ _ (callSpecialIfBoundUnlessNone? (.ref b) "__hash__" _ >>= _) Q E s;refine wpAny_bind (wpAny_callSpecialIfBoundUnlessNone?_slot ty F.slot_tuple_hash (wpAny_call_entry F.slot_tuple_hash ty F.entry_tuple_hash ?_ (F.args_tuple_hash_1 _)));show wpAny _ _ (Builtin.Tuple.tupleItemsOf (.ref b) >>= _) _ _ s;refine wpAny_bind (wpAny_tupleItemsOf e d ?_);refine wpAny_bind ?_;rw [<-Array.forIn_toList];refine wpAny_forIn_list _ (λ BH (acc:Array Int) s'=>∃ a z,r=a++z/\Rows2 kd s.heap z BH/\acc.toList=a.map (tupleKeyHash kd)/\s'={ s with toks:=s.toks+HS a }) _ ?_ ?_ _ _ ⟨[],r,rfl,rw2,rfl,rfl⟩
  · rintro x BH acc s' ⟨a,z,rfl,q,ea,rfl⟩;cases q with
    | @cons k b' z' _ ek q'=>
      refine wpAny_bind (wpAny_pyHash_tuple (knd:=kd) (ks:=k) ?_ ek ?_)
      · exact Nat.lt_of_le_of_lt (Nat.add_le_add_left (by decide:1<=8) _) hu
      have fin:∃ a' z,a++k::z'=a'++z/\Rows2 kd s.heap z BH/\(acc.push (tupleKeyHash kd k)).toList=a'.map (tupleKeyHash kd)/\({ s with toks:=s.toks+HS a+(k.length+1) }:Shared)={ s with toks:=s.toks+HS a' }:=⟨a++[k],z',by simp,q',by simp [ea],by simp [HS,Nat.add_assoc]⟩
      first
        | exact wpAny_pure fin
        | exact wpAny_bind (wpAny_pure (wpAny_pure fin))
  · rintro acc s' ⟨a,z,rfl,q,ea,rfl⟩;cases q;rw [List.append_nil] at h;show wpAny _ _ (retInt (Builtin.Tuple.tupleHashOf acc.toList)) _ _ _;rw [ea];refine wpAny_ret_mkInt ?_;unfold NI reduceHash at h;show wpAny _ _ (if (decide (-(2:Int) ^ 63<=Builtin.Tuple.tupleHashOf (a.map (tupleKeyHash kd)))&&decide (Builtin.Tuple.tupleHashOf (a.map (tupleKeyHash kd))<2 ^ 63))=true then _ else _) Q E _;split at h
    · rename_i hc
      rw [if_pos hc];exact wpAny_pure (by simpa [Nat.add_assoc] using h)
    · rename_i hc
      rw [if_neg hc];exact wpAny_bind (wpAny_rule (wpAny_pure (by simpa [Nat.add_assoc] using h)))
theorem Mv {r r':List (List κ)} {a b:Addr} {P:Fin->Shared->Prop} (hu:A.units+1<cLine) (p:IsT2 kd s.heap r a) (p':IsT2 kd s.heap r' b) (h:P (.done (.ret (.bool (decide (r=r'))))) s):
    wpAny (model prog w) A (Builtin.«tuple.__eq__» ⟨[.ref a, .ref b],[]⟩) P E s:=by
  have tb:=p'.ty;obtain ⟨oa,us,na,ea,_,da,ra⟩:=p;obtain ⟨ob,vs,nb,eb,_,db,rb⟩:=p';show wpAny _ _ (isInstance (.ref b) (.type "tuple") >>= _) _ _ s;refine wpAny_bind (wpAny_isInstance tb isSubtype_tuple_tuple ?_);simp only [Bool.not_true,Bool.false_eq_true,if_false];refine wpAny_bind (wpAny_tupleItemsOf ea da (wpAny_bind (wpAny_tupleItemsOf eb db (wpAny_bind ?_))));refine wpAny_forIn_list _ (λ BH q s'=>q.1=none/\s'=s/\∃ y y' ys ys',BH=List.zip ys ys'/\Rows2 kd s.heap y ys/\Rows2 kd s.heap y' ys'/\decide (y=y')=decide (r=r')/\(ys.length == ys'.length)=(us.size == vs.size)) _ ?_ ?_ _ _ ⟨rfl,rfl,r,r',us.toList,vs.toList,rfl,ra,rb,rfl,by simp⟩
  · rintro ⟨u,v⟩ BH q s' ⟨hq,rfl,y,y',ys,ys',hz,hy,hy',hdec,hlen⟩;cases hy with
    | nil=>simp at hz
    | @cons k1 b1 y1 ys1 e1 m1=>
      cases hy' with
      | nil=>simp at hz
      | @cons k2 b2 y2 ys2 e2 m2=>
        simp only [List.zip_cons_cons,List.cons.injEq,Prod.mk.injEq] at hz;obtain ⟨⟨rfl,rfl⟩,rfl⟩:=hz;refine wpAny_bind (wpAny_eqBool_tuple (knd:=kd) (x:=k1) (y:=k2) (Nat.lt_of_succ_lt hu) e1 e2 ?_);by_cases hk:k1=k2
        · subst hk;rw [decide_eq_true rfl];simp only [Bool.not_true,Bool.false_eq_true,if_false];refine wpAny_pure ⟨rfl,rfl,y1,y2,ys1,ys2,rfl,m1,m2,?_,by simpa using hlen⟩;rw [<-hdec];exact decide_eq_decide.mpr ⟨λ z=>by rw [z],λ z=>(List.cons.inj z).2⟩
        · rw [decide_eq_false hk];simp only [Bool.not_false,if_true];rw [<-hdec,decide_eq_false (λ z=>hk (List.cons.inj z).1)] at h;exact wpAny_bind (wpAny_pure (wpAny_pure (wpAny_pure h)))
  · rintro ⟨q1,q2⟩ s' ⟨hq,rfl,y,y',ys,ys',hz,hy,hy',hdec,hlen⟩;have hq:q1=none:=hq;subst hq;refine wpAny_pure ?_;show P (.done (.ret (.bool (us.size == vs.size)))) s';have same:(us.size == vs.size)=decide (r=r'):=by
      rw [<-hdec, <-hlen];cases hy with
      | nil=>
        cases hy' with
        | nil=>simp
        | cons _ _=>simp
      | cons _ _=>
        cases hy' with
        | nil=>simp
        | cons _ _=>simp at hz
    rw [same];exact h
theorem OK {r r':List (List κ)} {a b:Addr} {Q:Bool->Shared->Prop} (hu:A.units+8<cLine) (p:IsT2 kd s.heap r a) (p':IsT2 kd s.heap r' b) (h:Q (decide (r=r')) s):wpAny (model prog w) A (eqBool (.ref a) (.ref b)) Q E s:=by
  unfold eqBool
  try with_reducible refine wpAny_holding ?_
  show wpAny _ _ (if (Value.ref a == Value.ref b)=true then _ else _) Q E s;by_cases ab:a=b
  · subst ab;rw [if_pos (beq_self_eq_true _)];rw [decide_eq_true (p.one p')] at h;exact wpAny_bind (wpAny_rule (wpAny_pure h))
  · rw [if_neg (by simpa using ab)];refine wpAny_bind (wpAny_richCompare_same_room (op:= .Eq) p.ty p'.ty F.slot_tuple_eq (wpAny_call_entry F.slot_tuple_eq p.ty F.entry_tuple_eq ?_ (F.args_tuple_eq_2 _ _)) (Nat.lt_of_le_of_lt (Nat.le_add_right _ 8) hu));refine Mv ?_ p p' ⟨_,rfl,(λ z=>nomatch z),wpAny_truthy_bool h⟩;exact Nat.lt_of_le_of_lt (show A.units+1+1<=A.units+8 by omega) hu
theorem RC {k:List κ} {b:Addr} {n:Nat} {Q:Bool->Shared->Prop} (p:IsTupleKey kd s.heap k b) (h:Q true s):wpAny (model prog w) A (eqIsQuiet (n+1) (.ref b)) Q E s:=by
  have ty:=p.typeIs;obtain ⟨ob,its,m,e,_,d,rw1⟩:=p;unfold eqIsQuiet;refine wpAny_bind (wpAny_specialOf ty F.slot_tuple_eq.lookup ?_);show wpAny _ _ (isInstance (.ref b) (.type "tuple") >>= _) _ _ s;refine wpAny_bind (wpAny_isInstance ty isSubtype_tuple_tuple ?_);simp only [Bool.not_true,Bool.false_eq_true,if_false];refine wpAny_bind (wpAny_seqItems e d (wpAny_bind ?_));show wpAny _ _ (forIn its _ _) _ _ s;rw [<-Array.forIn_toList];refine wpAny_forIn_list _ (λ BH q s'=>q.1=none/\s'=s/\∀ v∈BH,carriedByValue v=true) _ ?_ ?_ _ _ ⟨rfl,rfl,rw1.byValue⟩
  · rintro v BH q s' ⟨_,rfl,al⟩;rw [eqIsQuiet_byValue _ (al v (List.mem_cons_self ..))];refine wpAny_bind (wpAny_pure ?_);simp only [Bool.not_true,Bool.false_eq_true,if_false];exact wpAny_pure ⟨rfl,rfl,λ u z=>al u (List.mem_cons_of_mem _ z)⟩
  · rintro ⟨q1,q2⟩ s' ⟨hq,rfl,_⟩;have hq:q1=none:=hq;subst hq;exact wpAny_pure h
theorem Ro {r:List (List κ)} {b:Addr} {Q:Bool->Shared->Prop} (p:IsT2 kd s.heap r b) (h:Q true s):wpAny (model prog w) A (eqIsQuiet 8 (.ref b)) Q E s:=by
  have ty:=p.ty;obtain ⟨ob,its,m,e,_,d,rw2⟩:=p;unfold eqIsQuiet;refine wpAny_bind (wpAny_specialOf ty F.slot_tuple_eq.lookup ?_);show wpAny _ _ (isInstance (.ref b) (.type "tuple") >>= _) _ _ s;refine wpAny_bind (wpAny_isInstance ty isSubtype_tuple_tuple ?_);simp only [Bool.not_true,Bool.false_eq_true,if_false];refine wpAny_bind (wpAny_seqItems e d (wpAny_bind ?_));show wpAny _ _ (forIn its _ _) _ _ s;rw [<-Array.forIn_toList];refine wpAny_forIn_list _ (λ BH q s'=>q.1=none/\s'=s/\∃ z,Rows2 kd s.heap z BH) _ ?_ ?_ _ _ ⟨rfl,rfl,r,rw2⟩
  · rintro v BH q s' ⟨_,rfl,z,al⟩;cases al with
    | @cons k b' z' _ ek m'=>
      refine wpAny_bind (RC (kd:=kd) (k:=k) ek ?_);simp only [Bool.not_true,Bool.false_eq_true,if_false];exact wpAny_pure ⟨rfl,rfl,z',m'⟩
  · rintro ⟨q1,q2⟩ s' ⟨hq,rfl,_⟩;have hq:q1=none:=hq;subst hq;exact wpAny_pure h
end
def IX {prog:Program} {w:World} {κ:Type} [DecidableEq κ] (kd:KeyKind prog w κ):HeapKind prog w (List (List κ)) where
  is:=IsT2 kd
  hash:=NI kd
  draws:=λ r=>HS r+1
  room:=λ A=>A.units+8<cLine
  inj:=λ p p'=>p.one p'
  keeps:=λ p ho hd hs=>p.on ho hd hs
  pyHash:=λ hu p h=>Lu hu p h
  eqBool:=λ hu p p' h=>OK hu p p' h
  quiet:=λ p h=>Ro p h
section
variable {prog:Program} {w:World} {κ:Type} [DecidableEq κ] {kd:HeapKind prog w κ} {A:Around} {E:Value->Shared->Prop} {s:Shared}
theorem JX {d b:Addr} {xs:List (κ × Addr × Value)} {k:κ} {u:Value} {Q:Value->Shared->Prop} (hu:kd.room A) (hk:kd.is s.heap k b) (hm:s.heap.DictOfH kd d xs) (hz:xs.length<=sizeLine)
    (old:∀ p,atKey xs k=some p->Q p.2 { s with toks:=s.toks+kd.draws k })
    (new:atKey xs k=none->∀ h',h'.DictOfH kd d (xs++[(k,b,u)])->Heap.SameBut d s.heap h'->Q u { s with heap:=h',toks:=s.toks+kd.draws k }):
    wpAny (model prog w) A (dictSetDefault d (.ref b) u) Q E s:=by
  obtain ⟨o,es,ep,ho,hc,hd,he,his,hn⟩:=hm;unfold dictSetDefault
  try with_reducible refine wpAny_holding ?_
  refine wpAny_bind (kd.pyHash hu hk (wpAny_bind (wpAny_dictFind_heap (s:={ s with toks:=s.toks+kd.draws k }) hu hk ho hd he his hn ?_ ?_)))
  · intro no;have none':=atKey_none_of_get no;have nin:k∉xs.map (·.1):=not_mem_keys_of_get no;have sz:=size_of_entries he;have sb:Heap.SameBut d s.heap (s.heap.update d λ o=>o.mapDictKeys (·.push ⟨kd.hash k, .ref b,u⟩)):=Heap.SameBut.update ..;refine wpAny_bind (wpAny_rule (wpAny_bind (wpAny_updateDictKeys (hz:=by omega) (s:={ s with toks:=s.toks+kd.draws k }) ho hd (wpAny_pure (new none' _ ⟨_,_,ep+1,Heap.get?_update_self _ ho (Obj.isFreed_of_dict (Obj.data_mapDictKeys hd _)),hc.mapDictKeys _,Obj.data_mapDictKeys hd _,?_,?_,?_⟩ sb)))))
    · simp [he,entryOfKey]
    · intro x hx;rcases List.mem_append.mp hx with z | z
      · exact kd.keeps (his x z) ho hd sb
      · rw [List.mem_singleton.mp z];exact kd.keeps hk ho hd sb
    · rw [List.map_append,List.nodup_append];refine ⟨hn,by simp,λ x hx y hy e=> ?_⟩;rw [List.map_cons,List.map_nil,List.mem_singleton] at hy;rw [e,hy] at hx;exact nin hx
  · intro j p hj;refine wpAny_bind (wpAny_dictEntries (s:={ s with toks:=s.toks+kd.draws k }) ho hd ?_);rw [entry_at he j,hj];exact wpAny_bind (wpAny_rule (wpAny_pure (old _ (atKey_of_get hn hj))))
theorem IU {d b:Addr} {xs:List (κ × Addr × Value)} {k:κ} {u:Value} {P:Fin->Shared->Prop} (hu:kd.room A) (hs:(d == sysModules)=false) (hk:kd.is s.heap k b) (hm:s.heap.DictOfH kd d xs) (hz:xs.length<=sizeLine)
    (old:∀ p,atKey xs k=some p->P (.done (.ret p.2)) { s with toks:=s.toks+kd.draws k })
    (new:atKey xs k=none->∀ h',h'.DictOfH kd d (xs++[(k,b,u)])->Heap.SameBut d s.heap h'->P (.done (.ret u)) { s with heap:=h',toks:=s.toks+kd.draws k }):
    wpAny (model prog w) A (Builtin.«dict.setdefault» ⟨[.ref d, .ref b,u],[]⟩) P E s:=by
  unfold Builtin.«dict.setdefault»;refine wpAny_bind ?_;unfold Builtin.Dict.keyAndDefault;refine wpAny_bind (wpAny_notOrdered_dict hm.typeIs ?_);show wpAny _ _ (pure (d,Value.ref b,some u)) _ _ s;refine wpAny_pure ?_;show wpAny _ _ (if (d == sysModules)=true then _ else (dictSetDefault d (.ref b) u >>= _)) _ _ s;rw [if_neg (by rw [hs];decide)];exact wpAny_bind (JX hu hk hm hz (λ p e=>wpAny_pure (old p e)) λ e h' m' sb=>wpAny_pure (new e h' m' sb))
end
abbrev En2:=List (List Key) × Addr × Addr
def en2 (x:En2):List (List Key) × Addr × Value:=(x.1,x.2.1, .ref x.2.2)
def d2O (P:Program) (w:World) (d:Addr) (xs:List En2):HO:= .ext λ h=>(d == sysModules)=false/\∃ o es ep,h.get? d=some o/\o.ExactDict/\o.data= .dict es ep/\es.toList=(xs.map en2).map (entryOfKey (IX (AJ P w)))
def KeyAt (H:Hp) (r:List (List Key)) (b:Addr):Prop:=∃ bs:List Addr,H b=some (.tup (bs.map V.ref))/\bs.length=r.length/\∀ (i:Nat) (k:List Key) (c:Addr),r[i]?=some k->bs[i]?=some c->H c=some (.tup (k.map kV))
theorem KeyAt.same {H H':Hp} {r:List (List Key)} {b:Addr} (p:KeyAt H r b) (s:Same H H'):KeyAt H' r b:=by
  obtain ⟨bs,e,l,el⟩:=p;exact ⟨bs,s _ _ e,l,λ i k c h1 h2=>s _ _ (el i k c h1 h2)⟩
section
variable {P:Program} {w:World} {H:Hp} {h:Heap}
theorem IM (ok:HOk P w H h):∀ (r:List (List Key)) (bs:List Addr) (us:List Value),bs.length=r.length->(∀ (i:Nat) (k:List Key) (c:Addr),r[i]?=some k->bs[i]?=some c->H c=some (.tup (k.map kV)))->Vals (bs.map V.ref) us->Rows2 (AJ P w) h r us
  | [],[],us,_,_,v=>by cases v;exact .nil
  | k::r,c::bs,us,l,el,v=>by
    cases v with
    | @cons _ u _ us' rv rs=>
      obtain rfl:u=Value.ref c:=rv;exact .cons (DI ok (el 0 k c rfl rfl)) (IM ok r bs us' (Nat.succ.inj l) (λ i k c h1 h2=>el (i+1) k c h1 h2) rs)
  | [],_::_,_,l,_,_=>by cases l
  | _::_,[],_,l,_,_=>by cases l
theorem K9 {r:List (List Key)} {b:Addr} (ok:HOk P w H h) (p:KeyAt H r b):IsT2 (AJ P w) h r b:=by
  obtain ⟨bs,e,l,el⟩:=p;obtain ⟨_,its,v,o,h1,h2,n,h3⟩:=(show ObjOk P w H h b (.tup (bs.map V.ref)) from ok b _ e);exact ⟨o,its.toArray,n,h1,h2,h3,by simpa using IM ok r bs its l el v⟩
theorem Sv {d:Addr} {xs:List En2} (ok:HOk P w H h) (e:H d=some (d2O P w d xs)) (ks:∀ x∈xs,KeyAt H x.1 x.2.1) (nd:(xs.map (·.1)).Nodup):(d == sysModules)=false/\h.DictOfH (IX (AJ P w)) d (xs.map en2):=by
  obtain ⟨⟨ns,o,es,ep,h1,h2,h3,h4⟩,_⟩:=(show ObjOk P w H h d (d2O P w d xs) from ok d _ e);refine ⟨ns,o,es,ep,h1,h2,h3,h4,λ y hy=> ?_,?_⟩
  · obtain ⟨x,hx,rfl⟩:=List.mem_map.mp hy;exact K9 ok (ks x hx)
  · rw [List.map_map];exact nd
theorem PX {d:Addr} {xs:List En2} {h':Heap} {H':Hp} (ns:(d == sysModules)=false) (m:h'.DictOfH (IX (AJ P w)) d (xs.map en2)):ObjOk P w H' h' d (d2O P w d xs):=by
  obtain ⟨o,es,ep,h1,h2,h3,h4,_,_⟩:=m;exact ⟨⟨ns,o,es,ep,h1,h2,h3,h4⟩,⟨o,h1⟩,λ _ _ ⟨ns,o,es,ep,h1,h2,h3,h4⟩ k=>⟨ns,o,es,ep,k _ h1,h2,h3,h4⟩⟩
end
theorem MP (xs:List En2) (r:List (List Key)):atKey (xs.map en2) r=(xs.find? λ x=>decide (x.1=r)).map λ x=>(x.2.1,Value.ref x.2.2):=by
  unfold atKey
  induction xs with
  | nil=>rfl
  | cons x xs ih=>
    rw [List.map_cons,List.find?_cons,List.find?_cons];by_cases h:x.1=r
    · rw [show decide ((en2 x).1=r)=true from decide_eq_true h,decide_eq_true h];rfl
    · rw [show decide ((en2 x).1=r)=false from decide_eq_false h,decide_eq_false h];exact ih
def U9 (P:Program) (w:World):V->List V->Hp->VK->Prop:=λ x ys H Q=>∃ (d b l:Addr) (xs:List En2) (r:List (List Key)),x= .ref d/\ys=[.ref b, .ref l]/\H d=some (d2O P w d xs)/\(∀ x∈xs,KeyAt H x.1 x.2.1)/\(xs.map (·.1)).Nodup/\KeyAt H r b/\xs.length<1000/\
  (∀ x,(xs.find? λ x=>decide (x.1=r))=some x->Q (.ref x.2.2) H)/\((xs.find? λ x=>decide (x.1=r))=none->Q (.ref l) (upd H d (d2O P w d (xs++[(r,b,l)]))))
theorem L9 {X:Cx} (hu:X.A.units+64<cLine):MtR X "dict.setdefault" (U9 X.prog X.w):=by
  intro pins s σ H x ys v us Q I rx rv h;obtain ⟨d,b,l,xs,r,rfl,rfl,hd,ks,nd,kb,hz,old,new⟩:=h;cases rx;cases rv with
  | @cons _ u1 _ us1 q1 rr=>
    cases rr with
    | @cons _ u2 _ us2 q2 rr2=>
      cases rr2;obtain rfl:u1=Value.ref b:=q1;obtain rfl:u2=Value.ref l:=q2;obtain ⟨ns,dd⟩:=Sv I.hok hd ks nd;have hz2:(xs.map en2).length<=sizeLine:=by rw [List.length_map,sizeLine_eq];omega
      refine PySem.wpAny_call_entry PySem.F.slot_dict_setdefault dd.typeIs PySem.F.entry_dict_setdefault ?_ (PySem.F.args_dict_setdefault_3 _ _ _);refine IU (kd:=IX (AJ X.prog X.w)) ?_ ns (K9 I.hok kb) dd hz2 (λ p e=> ?_) λ e h' m' sb=> ?_
      · exact Nat.lt_of_le_of_lt (show X.A.units+1+8<=X.A.units+64 by omega) hu
      · rw [MP] at e;obtain ⟨x,hx,rfl⟩:=Option.map_eq_some_iff.mp e;exact ⟨_,rfl, .ref x.2.2,H,I.tok _,rfl,old x hx⟩
      · rw [MP] at e;have no:=Option.map_eq_none_iff.mp e;have he:∃ q,h'.get? d=some q:=let ⟨q,_,_,hq,_⟩:=m';⟨q,hq⟩;exact ⟨_,rfl, .ref l,_,EM I (by rw [hd];exact True.intro) sb he (PX ns (by rw [List.map_append];exact m')),rfl,new no⟩
def RS (P:Program) (w:World):TE:=λ _ H Q=>∀ p,H p=none->Q (.ref p) (upd H p (d2O P w p []))
theorem MC {X:Cx} {pos:Pos}:PE X (.Dict [] [] pos) (RS X.prog X.w):=λ pins s σ H Q I h=>
  wpAny_Dict_empty ⟨.ref s.heap.objs.size,_,I.laid (a:=s.heap.objs.size) (o:=d2O X.prog X.w s.heap.objs.size []) (t':=s.toks) (λ _ _ q=>Heap.get?_push_of_some _ q) (Nat.le_refl _) (PX (by
    have:=I.big;rw [beq_eq_false_iff_ne];exact λ z=>absurd this (by rw [<-z];exact Nat.lt_irrefl _)) (Heap.DictOfH.new _)),rfl,h _ (I.hok.fresh (Nat.le_refl _))⟩
end L2
namespace HT
open PySem PySem.Spec PyProof.Rows PySem.W
variable {prog:Program} {w:World} {A:Around} {E:Value->Shared->Prop} {s:Shared}
def rawIt (it d:Addr) (i n ep:Nat) (p q x y:Value) (h:Heap):Prop:=
  h.get? it=some ⟨.type "dict_itemiterator",none, .fields #[p,q, .ref d, .int i 0, .int n 0, .int ep 0,x,y], #[]⟩
theorem rawIt.type {it d:Addr} {i n ep:Nat} {p q x y:Value} (z:rawIt it d i n ep p q x y s.heap):s.TypeIs (.ref it) "dict_itemiterator":=⟨_,z,rfl⟩
def DC (k v:Value):Obj:=⟨.type "tuple",none, .seq #[k,v], #[]⟩
def rawOwn (it S:Addr) (p q:Value) (h:Heap):Prop:=(p= .none/\q= .bool false)\/∃ a f oa,p=rawInt ((a:Nat):Int)/\q= .bool f/\h.get? a=some oa/\a≠it/\a≠S
theorem rawOwn.to {it S:Addr} {p q:Value} {h h':Heap} (z:rawOwn it S p q h) (k:∀ b o,b≠it->b≠S->h.get? b=some o->h'.get? b=some o):rawOwn it S p q h':=
  z.imp id λ ⟨a,f,oa,h1,h2,h3,h4,h5⟩=>⟨a,f,oa,h1,h2,k a oa h4 h5 h3,h4,h5⟩
def RSt (it d S:Addr) (i n ep:Nat) (h:Heap):Prop:=∃ p q x y,rawIt it d i n ep p q x y h/\rawOwn it S p q h
theorem RSt.to {it d S:Addr} {i n ep:Nat} {h h':Heap} (z:RSt it d S i n ep h) (ne:it≠S) (k:∀ b o,b≠S->h.get? b=some o->h'.get? b=some o):RSt it d S i n ep h':=
  let ⟨p,q,x,y,h1,h2⟩:=z;⟨p,q,x,y,k _ _ ne h1,h2.to λ b o _ hs=>k b o hs⟩
theorem Lq {it d S:Addr} {i n ep:Nat} {k v:Value} {Q:Value->Shared->Prop} (z:RSt it d S i n ep s.heap) (hS:S<s.heap.objs.size)
    (g:∀ h',RSt it d S i n ep h'->h'.get? s.heap.objs.size=some (DC k v)->h'.objs.size=s.heap.objs.size+1->(∀ b o,b≠it->s.heap.get? b=some o->h'.get? b=some o)->Q (.ref s.heap.objs.size) { s with heap:=h' }):
    wpAny (model prog w) A (Builtin.Dict_items.pairFromOwner (.ref it) 6 k v) Q E s:=by
  obtain ⟨hp,gg,dr,tk,os⟩:=s;obtain ⟨p,q,x,y,z,own⟩:=z;have il:it<hp.objs.size:=Heap.lt_size z;unfold Builtin.Dict_items.pairFromOwner;refine wpAny_bind (wpAny_newTuple ?_);have z2:rawIt it d i n ep p q x y (hp.push (DC k v)):=Heap.get?_push_of_some _ z;have t2:(hp.push (DC k v)).get? hp.objs.size=some (DC k v):=Heap.get?_push_size _ rfl;have n2:(hp.push (DC k v)).objs.size=hp.objs.size+1:=Heap.size_push ..;have k2:∀ b o,hp.get? b=some o->(hp.push (DC k v)).get? b=some o:=λ b o e=>Heap.get?_push_of_some _ e;show wpAny _ _ (Builtin.Dict_items.ownedTupleIsFree (.ref it) >>= _) _ _ ⟨hp.push (DC k v),gg,dr,tk,os⟩;generalize hp.push (DC k v)=h2 at z2 t2 n2 k2 ⊢;refine wpAny_bind ?_;unfold Builtin.Dict_items.ownedTupleIsFree;rcases own with ⟨rfl,rfl⟩ | ⟨a,f,oa,rfl,rfl,ha,hai,haS⟩
  · refine wpAny_bind (wpAny_field z2 rfl (x:= .none) rfl (wpAny_pure ?_));simp only [if_true];refine wpAny_bind (wpAny_field z2 rfl (x:=x) rfl (wpAny_bind (wpAny_field z2 rfl (x:=y) rfl ?_)));refine wpAny_bind (wpAny_setField_rec z2 (by simp) λ h3 z3 b3=>wpAny_bind (wpAny_setField_rec z3 (by simp) λ h4 z4 b4=>wpAny_bind (wpAny_setField_rec z4 (by simp) λ h5 z5 b5=>wpAny_bind (wpAny_setField_rec z5 (by simp) λ h6 z6 b6=> ?_))));replace b3:Heap.SameBut it h2 h3:=b3;replace b4:Heap.SameBut it h3 h4:=b4;replace b5:Heap.SameBut it h4 h5:=b5;replace b6:Heap.SameBut it h5 h6:=b6;have all:∀ b o,b≠it->h2.get? b=some o->h6.get? b=some o:=λ b o hb e=>b6.extBut b o hb (b5.extBut b o hb (b4.extBut b o hb (b3.extBut b o hb e)));have t6:=all _ _ (Nat.ne_of_gt il) t2;replace z6:rawIt it d i n ep (rawInt ((hp.objs.size:Nat):Int)) (.bool false) k v h6:=z6;exact wpAny_bind (wpAny_letGo (wpAny_pure (g h6 ⟨_,_,_,_,z6, .inr ⟨_,_,_,rfl,rfl,t6,Nat.ne_of_gt il,Nat.ne_of_gt hS⟩⟩ t6 (by show h6.objs.size=_;rw [b6.1,b5.1,b4.1,b3.1,n2]) λ b o hb e=>all b o hb (k2 b o e))))
  · refine wpAny_bind (wpAny_field z2 rfl (x:=rawInt ((a:Nat):Int)) rfl ?_);show wpAny _ _ (loadIfAlive ((a:Int).toNat) >>= _) _ _ _;rw [Int.toNat_natCast];refine wpAny_bind (kdx_alive (k2 a oa ha) ?_);simp only [Option.isNone_some,Bool.false_eq_true,if_false];refine wpAny_bind (wpAny_field z2 rfl (x:= .bool f) rfl ?_);have fin:∀ h3,rawIt it d i n ep (rawInt ((a:Nat):Int)) (.bool true) x y h3->Heap.SameBut it h2 h3->Q (.ref hp.objs.size) ⟨h3,gg,dr,tk,os⟩:=λ h3 z3 b3=>
      g h3 ⟨_,_,_,_,z3, .inr ⟨a,_,oa,rfl,rfl,b3.extBut _ _ hai (k2 a oa ha),hai,haS⟩⟩ (b3.extBut _ _ (Nat.ne_of_gt il) t2) (by show h3.objs.size=_;rw [b3.1,n2]) λ b o hb e=>b3.extBut b o hb (k2 b o e)
    cases f with
    | true=>
      rw [if_neg (show ¬ ((Value.bool true != Value.bool true)=true) from Bool.false_ne_true)];refine wpAny_pure ?_;simp only [Bool.false_eq_true,if_false];exact wpAny_pure (fin h2 z2 (Heap.SameBut.refl _ _))
    | false=>
      rw [if_pos (show (Value.bool false != Value.bool true)=true from rfl)];refine wpAny_bind (wpAny_setField_rec z2 (by simp) λ h3 z3 b3=>wpAny_pure ?_);simp only [Bool.false_eq_true,if_false];exact wpAny_pure (fin h3 z3 b3)
theorem NV {it d S:Addr} {i ep:Nat} {es:Array DictEntry} {e:DictEntry} {Q:Option Value->Shared->Prop} (z:RSt it d S i es.size ep s.heap) (hS:S<s.heap.objs.size) (hiS:it≠S) (hm:RawD d es ep s.heap) (hx:es[i]?=some e)
    (g:∀ h',RSt it d S (i+1) es.size ep h'->h'.get? s.heap.objs.size=some (DC e.key e.val)->h'.objs.size=s.heap.objs.size+1->(∀ b o,b≠it->s.heap.get? b=some o->h'.get? b=some o)->Q (some (.ref s.heap.objs.size)) { s with heap:=h' }):
    wpAny (model prog w) A (pyNext (.ref it)) Q E s:=by
  obtain ⟨hp,gg,dr,tk,os⟩:=s;obtain ⟨p,q,x,y,z,own⟩:=z;obtain ⟨od,hod, -,hdd⟩:=hm;have T:Shared.TypeIs ⟨hp,gg,dr,tk,os⟩ (.ref it) "dict_itemiterator":=⟨_,z,rfl⟩;have yes:Builtin.Dict_items.ownsTuple "dict_itemiterator"=true:=by decide
  unfold pyNext;refine wpAny_bind (wpAny_attempt (wpAny_callSpecial?_slot (name:=Str.ofString "__next__") T PySem.F.slot_dict_itemiterator_next (wpAny_call_entry PySem.F.slot_dict_itemiterator_next T PySem.F.entry_dict_itemiterator_next ?_ (PySem.F.args_dict_itemiterator_next_1 _))));refine wpAny_bind (wpAny_pure (wpAny_bind (wpAny_bind (wpAny_bind (wpAny_typeNameOfWhole_itemiter T (wpAny_pure (wpAny_bind (wpAny_fieldsOf z rfl ?_))))))));simp only [yes,if_true];show wpAny _ _ (if (Value.ref d == Value.none)=true then _ else _) _ _ _;rw [if_neg (show ¬ ((Value.ref d == Value.none)=true) from Bool.false_ne_true)];refine wpAny_bind (wpAny_pure (wpAny_bind (wpAny_dictEntries hod hdd ?_)));rw [if_neg (by simp)];refine wpAny_bind (wpAny_pure (wpAny_bind (wpAny_dictEpoch hod hdd ?_)));rw [if_neg (by simp)];refine wpAny_pure ?_;simp only [show ¬ ((i:Int)<0) from by omega,if_false,Int.toNat_natCast,hx];refine wpAny_bind (wpAny_bind (wpAny_typeNameOfWhole_itemiter T (wpAny_pure (wpAny_bind (wpAny_isOneOf_itemiter T ?_)))));show wpAny _ _ (setField (.ref it) 3 (rawInt ((i:Int)+1)) >>= _) _ _ _;refine wpAny_bind (wpAny_setField_rec z (by simp) λ h1 z1 b1=> ?_);replace b1:Heap.SameBut it hp h1:=b1;replace z1:rawIt it d (i+1) es.size ep p q x y h1:=by
    have e:((i+1:Nat):Int)=(i:Int)+1:=by omega
    unfold rawIt;rw [e];simpa [rawInt] using z1
  have T1:Shared.TypeIs ⟨h1,gg,dr,tk,os⟩ (.ref it) "dict_itemiterator":=⟨_,z1,rfl⟩;refine wpAny_bind (wpAny_holding (wpAny_bind (wpAny_isOneOf_itemiter T1 (wpAny_bind (wpAny_isOneOf_itemiter T1 ?_)))));show wpAny _ _ (Builtin.Dict_items.pairFromOwner (.ref it) 6 e.key e.val) _ _ ⟨h1,gg,dr,tk,os⟩;have n1:h1.objs.size=hp.objs.size:=b1.1;refine Lq (S:=S) ⟨_,_,_,_,z1,own.to λ b o hb _ e=>b1.extBut b o hb e⟩ (by show S<h1.objs.size;rw [n1];exact hS) λ h' st t nn kk=> ?_;dsimp only at t nn kk ⊢;rw [n1] at t nn ⊢;exact wpAny_pure ⟨_,rfl,wpAny_pure (g h' st t nn λ b o hb e=>kk b o hb (b1.extBut b o hb e))⟩
theorem G8 {it d S:Addr} {i ep:Nat} {es:Array DictEntry} {Q:Option Value->Shared->Prop} (hh:A.handled=none) (z:RSt it d S i es.size ep s.heap) (hm:RawD d es ep s.heap) (hx:es[i]?=none)
    (g:∀ h',Heap.ExtBut it s.heap h'->Q none { s with heap:=h' }):wpAny (model prog w) A (pyNext (.ref it)) Q E s:=by
  obtain ⟨p,q,x,y,z, -⟩:=z;obtain ⟨od,hod, -,hdd⟩:=hm;have T:=z.type;have yes:Builtin.Dict_items.ownsTuple "dict_itemiterator"=true:=by decide
  unfold pyNext;refine wpAny_bind (wpAny_attempt (wpAny_callSpecial?_slot (name:=Str.ofString "__next__") T PySem.F.slot_dict_itemiterator_next (wpAny_call_entry PySem.F.slot_dict_itemiterator_next T PySem.F.entry_dict_itemiterator_next ?_ (PySem.F.args_dict_itemiterator_next_1 _))));refine wpAny_bind (wpAny_pure (wpAny_bind (wpAny_bind (wpAny_bind (wpAny_typeNameOfWhole_itemiter T (wpAny_pure (wpAny_bind (wpAny_fieldsOf z rfl ?_))))))));simp only [yes,if_true];show wpAny _ _ (if (Value.ref d == Value.none)=true then _ else _) _ _ s;rw [if_neg (show ¬ ((Value.ref d == Value.none)=true) from Bool.false_ne_true)];refine wpAny_bind (wpAny_pure (wpAny_bind (wpAny_dictEntries hod hdd ?_)));rw [if_neg (by simp)];refine wpAny_bind (wpAny_pure (wpAny_bind (wpAny_dictEpoch hod hdd ?_)));rw [if_neg (by simp)];refine wpAny_pure ?_;simp only [show ¬ ((i:Int)<0) from by omega,if_false,Int.toNat_natCast,hx];refine wpAny_bind (wpAny_bind (wpAny_typeNameOfWhole_itemiter T (wpAny_pure ?_)));show wpAny _ _ (setField (.ref it) 2 .none >>= _) _ _ s;refine wpAny_bind (wpAny_setField z rfl (by simp) ?_);show wpAny _ _ (newExc (.type "StopIteration") [] >>= _) _ _ _;refine wpAny_bind ?_;simp only [newExc,newTuple];refine wpAny_bind (wpAny_newObj_type (wpAny_bind (m:=firstArgMember _ _) (wpAny_of_eq (a:=Value.none) (by first | rfl | (simp only [firstArgMember];rfl)) (wpAny_newObj_type ?_ (by size_fits)))) (by size_fits));simp only [raiseNew];refine wpAny_bind (wpAny_handled ?_);rw [show A.in1.handled=none from hh];refine wpAny_bind (wpAny_pure (wpAny_throw ?_));exact wpAny_bind (wpAny_isInstance (T:="StopIteration") (b:=true) ⟨_,Heap.get?_push_size _ rfl,rfl⟩ isSubtype_stop (wpAny_pure (g _ (((Heap.SameBut.update ..).extBut.push _).push _))))
structure PairsAt (es:Array DictEntry) (lo:Addr) (h:Heap) (as:List Addr):Prop where
  up:as.Pairwise (· < ·)
  lo:∀ a∈as,lo<a
  at':∀ (j:Nat) (a:Addr),as[j]?=some a->∃ e,es[j]?=some e/\h.get? a=some (DC e.key e.val)
theorem PairsAt.to {es:Array DictEntry} {lo:Addr} {h h':Heap} {as:List Addr} (g:PairsAt es lo h as) (k:∀ b o,lo<b->h.get? b=some o->h'.get? b=some o):PairsAt es lo h' as:=
  ⟨g.up,g.lo,λ j a hj=>let ⟨e,h1,h2⟩:=g.at' j a hj;⟨e,h1,k a _ (g.lo a (List.mem_of_getElem? hj)) h2⟩⟩
theorem PairsAt.low {es:Array DictEntry} {lo lo':Addr} {h:Heap} {as:List Addr} (g:PairsAt es lo h as) (l:lo'<=lo):PairsAt es lo' h as:=⟨g.up,λ a ha=>Nat.lt_of_le_of_lt l (g.lo a ha),g.at'⟩
theorem PairsAt.add {es:Array DictEntry} {lo n:Addr} {h:Heap} {as:List Addr} {e:DictEntry} (g:PairsAt es lo h as) (hn:∀ a∈as,a<n) (l:lo<n) (hx:es[as.length]?=some e) (hy:h.get? n=some (DC e.key e.val)):PairsAt es lo h (as++[n]) where
  up:=List.pairwise_append.mpr ⟨g.up,List.pairwise_singleton _ _,λ a ha b hb=>by rw [List.mem_singleton.mp hb];exact hn a ha⟩
  lo:=λ a ha=>(List.mem_append.mp ha).elim (g.lo a) λ hb=>by rw [List.mem_singleton.mp hb];exact l
  at':=λ j b hj=>by
    rcases Nat.lt_or_ge j as.length with h1 | h1
    · rw [List.getElem?_append_left h1] at hj;exact g.at' j b hj
    · rw [List.getElem?_append_right h1] at hj;obtain ⟨h2,h3⟩:j - as.length=0/\n=b:=by
        cases c:j - as.length with
        | zero=>rw [c] at hj;exact ⟨rfl,by simpa using hj⟩
        | succ m=>rw [c] at hj;simp at hj
      obtain rfl:j=as.length:=by omega
      exact ⟨e,hx,h3▸hy⟩
theorem Ka {S I d:Addr} {es:Array DictEntry} {ep:Nat} {R:Result->Shared->Prop} (hh:A.handled=none) (SI:S<I) (dS:d≠S) (dI:d≠I) (hn:es.size<=sizeLine) (res:Value) {h₁:Heap}
    (hR:∀ h' tk acc c as,(∀ b o,b≠S->b≠I->h₁.get? b=some o->h'.get? b=some o)->h'.get? S=some ⟨.type "list",none, .seq acc c, #[]⟩->as.length=es.size->PairsAt es I h' as->acc.toList=as.map Value.ref->R (.ok (.ret res)) { s with heap:=h',toks:=tk }):
    ∀ (k:Nat) (h:Heap) (tk c:Nat) (acc:Array Value) (as:List Addr),as.length+k=es.size->RSt I d S as.length es.size ep h->RawD d es ep h->(∀ b o,b≠S->b≠I->h₁.get? b=some o->h.get? b=some o)->
      h.get? S=some ⟨.type "list",none, .seq acc c, #[]⟩->acc.toList=as.map Value.ref->PairsAt es I h as->I<h.objs.size->codeAny (model prog w) A (.builtin "list.extend.loop" ⟨[.ref S, .ref I,res],[]⟩) R { s with heap:=h,toks:=tk }:=by
  have ne:S≠I:=Nat.ne_of_lt SI;intro k
  induction k with
  | zero=>
    intro h tk c acc as hk st hD kp hS hacc hG hI;refine codeAny_builtin PySem.F.entry_extend_loop ?_;rw [Around.under_plainId PySem.F.plain_extend_loop _];show wpAny _ A.in1 (pyNext (.ref I) >>= _) _ _ _;exact wpAny_bind (G8 (s:={ s with heap:=h,toks:=tk }) (A:=A.in1) hh st hD (by simp;omega) λ h' he=>wpAny_pure (hR h' tk acc c as (λ b o h1 h2 e=>he b o h2 (kp b o h1 h2 e)) (he S _ ne hS) (by omega) (hG.to λ b o hb e=>he b o (Nat.ne_of_gt hb) e) hacc))
  | succ k ih=>
    intro h tk c acc as hk st hD kp hS hacc hG hI;have lt:as.length<es.size:=by omega
    have sz:acc.size=as.length:=by rw [<-Array.length_toList,hacc,List.length_map]
    have hx:es[as.length]?=some es[as.length]:=by simp [lt]
    have Sl:S<h.objs.size:=Heap.lt_size hS;refine codeAny_builtin PySem.F.entry_extend_loop ?_;rw [Around.under_plainId PySem.F.plain_extend_loop _];show wpAny _ A.in1 (pyNext (.ref I) >>= _) _ _ _;refine wpAny_bind (NV (s:={ s with heap:=h,toks:=tk }) (S:=S) st Sl (Ne.symm ne) hD hx λ h' st' t n' kk=> ?_);dsimp only at t n' kk ⊢;have S':=kk S _ ne hS;have up:∀ b o,b≠S->h'.get? b=some o->(h'.update S (Obj.mapSeq (·.push (Value.ref h.objs.size)))).get? b=some o:=λ b o hb e=>(Heap.get?_update_other _ _ (Ne.symm hb)).trans e;have t':=up _ _ (Nat.ne_of_gt Sl) t;have small:∀ a∈as,a<h.objs.size:=λ a ha=>let ⟨j,hj⟩:=List.mem_iff_getElem?.mp ha;let ⟨_,_,e⟩:=hG.at' j a hj;Heap.lt_size e;show wpAny _ A.in1 (updateSeq S (·.push (Value.ref h.objs.size)) >>= _) _ _ _;refine wpAny_bind (wpAny_updateSeq S' rfl (wpAny_pure ⟨plainId_quiet PySem.F.plain_extend_loop _,ih _ tk _ (acc.push (Value.ref h.objs.size)) (as++[h.objs.size]) (by rw [List.length_append,List.length_singleton];omega) ?_ (hD.to λ o e=>up d o dS (kk d o dI e)) (λ b o h1 h2 e=>up b o h1 (kk b o h2 (kp b o h1 h2 e)))
      (Heap.get?_update_self _ S' rfl) (by rw [Array.toList_push,hacc,List.map_append];rfl) ?_ (Nat.lt_trans hI (Heap.lt_size t'))⟩) (by rw [sz];omega) (by show (acc.push (Value.ref h.objs.size)).size<=sizeLine+1;rw [Array.size_push,sz];omega))
    · rw [List.length_append,List.length_singleton];exact st'.to (Ne.symm ne) up
    · exact (hG.to λ b o hb e=>up b o (Nat.ne_of_gt (Nat.lt_trans SI hb)) (kk b o (Nat.ne_of_gt hb) e)).add small hI hx t'
theorem J1 {v d:Addr} {es:Array DictEntry} {ep:Nat} {Q:Value->Shared->Prop} (hv:s.heap.IsItemsView v d) (hm:RawD d es ep s.heap)
    (g:Q (.ref s.heap.objs.size) { s with heap:=s.heap.push ⟨.type "dict_itemiterator",none, .fields #[.none, .bool false, .ref d, .int 0 0, .int es.size 0, .int ep 0, .none, .none], #[]⟩ }):wpAny (model prog w) A (pyIter (.ref v)) Q E s:=by
  have T:=hv.typeIs;obtain ⟨ov,ho,hc,hd⟩:=hv;obtain ⟨od,hod, -,hdd⟩:=hm;have yes:Builtin.Dict_items.ownsTuple "dict_itemiterator"=true:=by decide
  refine wpAny_pyIter_slot T PySem.F.slot_dict_items_iter (wpAny_call_entry PySem.F.slot_dict_items_iter T PySem.F.entry_dict_items_iter ?_ (PySem.F.args_dict_items_iter_1 _));unfold Builtin.«dict_items.__iter__» Builtin.Dict_items.dictOf Builtin.Dict_items.newIterator;refine wpAny_bind (wpAny_pure (wpAny_bind (wpAny_bind (wpAny_field ho hd (x:= .ref d) rfl (wpAny_pure ?_)))));refine wpAny_bind (wpAny_bind (wpAny_dictEntries hod hdd (wpAny_bind (wpAny_dictEpoch hod hdd ?_))));simp only [yes,if_true];refine wpAny_newObj_type (wpAny_pure ⟨_,rfl,"dict_itemiterator",_,⟨_,Heap.get?_push_size _ rfl,rfl⟩,PySem.F.slot_dict_itemiterator_next.lookup,?_⟩) ?_
  · simpa [rawInt,Builtin.Dict_items.ownedTupleFields] using g
  · simp only [sizeOk,Builtin.Dict_items.ownedTupleFields,List.size_toArray,List.length_append,List.length_cons,List.length_nil,sizeLine_eq];omega
abbrev Lh (prog:Program) (w:World) (A:Around) (R:Result->Shared->Prop):PySem.Fin->Shared->Prop:=λ fin s'=>match fin with | .done f=>R (.ok f) s' | .again c'=>c'.quiet=true/\codeAny (model prog w) A c' R s'
theorem HU {r d S:Addr} {es:Array DictEntry} {ep c₀:Nat} {R:Result->Shared->Prop} (hh:A.handled=none) (hv:s.heap.IsItemsView r d) (hm:RawD d es ep s.heap) (Sr:S≠r) (Sd:d≠S) (res:Value) (hS:s.heap.get? S=some ⟨.type "list",none, .seq #[] c₀, #[]⟩)
    (hR:∀ h' tk acc c as,(∀ b o,b≠S->s.heap.get? b=some o->h'.get? b=some o)->h'.get? S=some ⟨.type "list",none, .seq acc c, #[]⟩->as.length=es.size->PairsAt es s.heap.objs.size h' as->acc.toList=as.map Value.ref->R (.ok (.ret res)) { s with heap:=h',toks:=tk }) (hn:es.size<=sizeLine):
    wpAny (model prog w) A.in1 (Builtin.List.listExtendWith (.ref S) (.ref r) res) (Lh prog w A R) (λ e s'=>R (.error e) s') s:=by
  have SI:S<s.heap.objs.size:=Heap.lt_size hS;have dI:d<s.heap.objs.size:=Heap.lt_size hm.choose_spec.1;have go:∀ (h:Heap) (c₁ tk:Nat),(∀ b o,b≠S->(s.heap.push ⟨.type "dict_itemiterator",none, .fields #[.none, .bool false, .ref d, .int 0 0, .int es.size 0, .int ep 0, .none, .none], #[]⟩).get? b=some o->h.get? b=some o)->
      h.get? S=some ⟨.type "list",none, .seq #[] c₁, #[]⟩->codeAny (model prog w) A (.builtin "list.extend.loop" ⟨[.ref S, .ref s.heap.objs.size,res],[]⟩) R { s with heap:=h,toks:=tk }:=by
    intro h c₁ tk hk hS1;have hI:=hk s.heap.objs.size _ (Nat.ne_of_gt SI) (Heap.get?_push_size _ rfl);exact Ka (es:=es) (ep:=ep) (s:=s) (h₁:=s.heap) hh SI Sd (Nat.ne_of_lt dI) hn res (λ h' tk' acc c as k' S' l G a=>hR h' tk' acc c as (λ b o hb e=>k' b o hb (Nat.ne_of_lt (Heap.lt_size e)) e) S' l G a)
      es.size h tk c₁ #[] [] (Nat.zero_add _) ⟨_,_,_,_,hI, .inl ⟨rfl,rfl⟩⟩ (hm.to λ o e=>hk d o Sd (Heap.get?_push_of_some _ e)) (λ b o hb _ e=>hk b o hb (Heap.get?_push_of_some _ e)) hS1 rfl ⟨.nil,λ _ ha=>(List.not_mem_nil ha).elim,λ j a hj=>by simp at hj⟩ (Heap.lt_size hI)
  unfold Builtin.List.listExtendWith;refine wpAny_bind (wpAny_typeOf (T:="dict_items") hv.typeIs ?_);simp only [show Builtin.List.listSameRef (.ref S) (.ref r)=false by simp [Builtin.List.listSameRef,Sr],show (Value.type "dict_items" == Value.type "list")=false by decide,show (Value.type "dict_items" == Value.type "tuple")=false by decide,Bool.or_false,Bool.false_eq_true,if_false];refine wpAny_bind (J1 hv hm ?_);have hS1:=Heap.get?_push_of_some ⟨.type "dict_itemiterator",none, .fields #[.none, .bool false, .ref d, .int 0 0, .int es.size 0, .int ep 0, .none, .none], #[]⟩ hS;refine wpAny_bind (wpAny_holding (kdx_hint (let ⟨o,ho,hc,_⟩:=hv;⟨o,Heap.get?_push_of_some _ ho,hc⟩) (wpAny_ite_split (λ _=> ?_) λ _=>wpAny_pure ⟨plainId_quiet PySem.F.plain_extend_loop _,go _ c₀ _ (λ b o _ e=>e) hS1⟩)));refine wpAny_bind (wpAny_rule (wpAny_bind ?_));show wpAny _ _ (updateSeq S (·.push .none) >>= λ _=>updateSeq S (·.pop)) _ _ _;refine wpAny_bind (wpAny_updateSeq hS1 rfl ?_);have hS2:=Heap.get?_update_self (Obj.mapSeq (·.push Value.none)) hS1 rfl;exact wpAny_updateSeq (hz:=by seq_fits) hS2 rfl (wpAny_pure ⟨plainId_quiet PySem.F.plain_extend_loop _,go _ _ _ (λ b o hb e=>(Heap.get?_update_other _ _ (Ne.symm hb)).trans ((Heap.get?_update_other _ _ (Ne.symm hb)).trans e)) (Heap.get?_update_self (Obj.mapSeq (·.pop)) hS2 rfl)⟩)
theorem Kh {r d S:Addr} {es:Array DictEntry} {ep:Nat} {R:Result->Shared->Prop} (hh:A.handled=none) (hv:s.heap.IsItemsView r d) (hm:RawD d es ep s.heap) (Sr:S≠r) (Sd:d≠S) (hS:s.heap.get? S=some ⟨.type "list",none, .seq #[] 0, #[]⟩)
    (hR:∀ h' tk acc c as,(∀ b o,b≠S->s.heap.get? b=some o->h'.get? b=some o)->h'.get? S=some ⟨.type "list",none, .seq acc c, #[]⟩->as.length=es.size->PairsAt es S h' as->acc.toList=as.map Value.ref->R (.ok (.ret .none)) { s with heap:=h',toks:=tk }) (hn:es.size<=sizeLine):
    wpAny (model prog w) A.in1 (Builtin.«list.__init__» ⟨[.ref S, .ref r],[]⟩) (Lh prog w A R) (λ e s'=>R (.error e) s') s:=by
  show wpAny _ _ (do let old <-Builtin.List.listItems (.ref S);Builtin.List.listUpdate (.ref S) (λ _=> #[]);letGo old.toList.reverse;Builtin.List.listExtendWith (.ref S) (.ref r) .none) (Lh prog w A R) _ s;unfold Builtin.List.listItems;refine wpAny_bind (wpAny_bind (wpAny_seqItems hS rfl (wpAny_pure ?_)));show wpAny _ _ (updateSeq S (λ _=> #[]) >>= λ _=>letGo (#[]:Array Value).toList.reverse >>= λ _=>Builtin.List.listExtendWith (.ref S) (.ref r) .none) (Lh prog w A R) _ s;refine wpAny_bind (wpAny_updateSeq hS rfl (wpAny_bind (wpAny_letGo ?_)));have hS2:=Heap.get?_update_self (Obj.mapSeq (λ _=>(#[]:Array Value))) hS rfl;have oth:∀ b o,b≠S->s.heap.get? b=some o->(s.heap.update S (Obj.mapSeq (λ _=>(#[]:Array Value)))).get? b=some o:=λ b o hb e=>(Heap.get?_update_other _ _ (Ne.symm hb)).trans e;exact HU (es:=es) (ep:=ep) hh (let ⟨o,ho,x⟩:=hv;⟨o,oth r o Sr.symm ho,x⟩) (hm.to λ o e=>oth d o Sd e) Sr Sd .none hS2 (λ h' tk acc c as hk S' hl hG a=>hR h' tk acc c as (λ b o hb e=>hk b o hb (oth b o hb e)) S' hl (hG.low (Nat.le_of_lt (Heap.lt_size hS2))) a) hn
theorem pairs_list {r d:Addr} {es:Array DictEntry} {ep:Nat} {Q:Value->Shared->Prop} (hh:A.handled=none) (hv:s.heap.IsItemsView r d) (hm:RawD d es ep s.heap) (hn:es.size<=sizeLine)
    (g:∀ h' tk acc c as,(∀ b o,s.heap.get? b=some o->h'.get? b=some o)->h'.get? s.heap.objs.size=some ⟨.type "list",none, .seq acc c, #[]⟩->as.length=es.size->PairsAt es s.heap.objs.size h' as->acc.toList=as.map Value.ref->Q (.ref s.heap.objs.size) { s with heap:=h',toks:=tk }):
    wpAny (model prog w) A (call (.type "list") [.ref r]) Q E s:=by
  refine callType_codes (Q₁:=λ obj s₁=>obj= .ref s.heap.objs.size/\s₁={ s with heap:=s.heap.push ⟨.type "list",none, .seq #[] 0, #[]⟩ }) PySem.F.called_list (PySem.F.typeCall_list_1 _) PySem.F.entry_list_init (code_list_new _ ⟨rfl,rfl⟩) λ obj s₁ h₁=> ?_;obtain ⟨rfl,rfl⟩:=h₁;have hS:(s.heap.push ⟨.type "list",none, .seq #[] 0, #[]⟩).get? s.heap.objs.size=some ⟨.type "list",none, .seq #[] 0, #[]⟩:=Heap.get?_push_size _ rfl;have hr:r<s.heap.objs.size:=let ⟨_,ho,_⟩:=hv;Heap.lt_size ho;have hd:d<s.heap.objs.size:=Heap.lt_size hm.choose_spec.1;refine ⟨⟨_,hS,rfl⟩,PySem.F.args_list_init_2 _ _,?_⟩;exact Kh (es:=es) (ep:=ep) (A:=A.in1) hh (let ⟨o,ho,x⟩:=hv;⟨o,Heap.get?_push_of_some _ ho,x⟩) (hm.to λ o e=>Heap.get?_push_of_some _ e) (Nat.ne_of_gt hr) (Nat.ne_of_lt hd) hS (λ h' tk acc c as hk S' hl hG a=>⟨rfl,g h' tk acc c as (λ b o e=>hk b o (Nat.ne_of_lt (Heap.lt_size e)) (Heap.get?_push_of_some _ e)) S' hl hG a⟩) hn
theorem pairs_view {d:Addr} {es:Array DictEntry} {ep:Nat} {R:PySem.Fin->Shared->Prop} (ns:(d == sysModules)=false) (hm:RawD d es ep s.heap)
    (g:R (.done (.ret (.ref s.heap.objs.size))) { s with heap:=s.heap.push ⟨.type "dict_items",none, .fields #[.ref d], #[]⟩ }):wpAny (model prog w) A (Builtin.«dict.items» ⟨[.ref d],[]⟩) R E s:=by
  unfold Builtin.«dict.items» Builtin.Dict.noArgs;refine wpAny_bind (wpAny_bind (wpAny_notOrdered_dict hm.type ?_));show wpAny _ _ (pure d) _ _ s;refine wpAny_pure ?_;show wpAny _ _ (Builtin.Dict.showsAll d >>= _) _ _ s;unfold Builtin.Dict.showsAll;rw [if_neg (by rw [ns];exact Bool.false_ne_true)];exact wpAny_bind (wpAny_pure (wpAny_bind (wpAny_newObj_type (wpAny_pure g))))
end HT
namespace L2
open PySem PySem.Spec PyProof.Rows
def GX:Hp->List (Addr × HO)->Hp
  | H,[]=>H
  | H,p::r=>upd (GX H r) p.1 p.2
theorem Is {H:Hp} {a:Addr}:∀ {ps:List (Addr × HO)},a∉ps.map (·.1)->GX H ps a=H a
  | [],_=>rfl
  | p::r,h=>by
    rw [List.map_cons,List.mem_cons,not_or] at h;show upd (GX H r) p.1 p.2 a=_;rw [Am h.1];exact Is h.2
theorem Jx {H:Hp}:∀ {ps:List (Addr × HO)} {a:Addr} {o:HO},GX H ps a=some o->(a,o)∈ps\/H a=some o
  | [],_,_,e=> .inr e
  | p::r,a,o,e=>by
    by_cases h:a=p.1
    · subst h;have e:upd (GX H r) p.1 p.2 p.1=some o:=e;rw [Ae] at e;cases e;exact .inl (.head _)
    · have e:upd (GX H r) p.1 p.2 a=some o:=e;rw [Am h] at e;exact (Jx e).imp (.tail _) id
theorem HV {H:Hp}:∀ {ps:List (Addr × HO)} {a:Addr} {o:HO},(ps.map (·.1)).Nodup->(a,o)∈ps->GX H ps a=some o
  | p::r,a,o,nd,h=>by
    have nd:=List.nodup_cons.mp nd;rcases List.mem_cons.mp h with h | h
    · subst h;exact Ae
    · have ne:a≠p.1:=λ z=>nd.1 (List.mem_map.mpr ⟨(a,o),h,z⟩);show upd (GX H r) p.1 p.2 a=_;rw [Am ne];exact HV nd.2 h
section
variable {X:Cx} {pins:List (Addr × Obj)} {σ:St} {H H':Hp} {s:Shared} {h':Heap}
theorem Inv.laidS {t':Nat} (I:Inv X pins σ H s) (k:∀ b u,s.heap.get? b=some u->h'.get? b=some u) (old:∀ b u,H b=some u->H' b=some u) (new:∀ b u,H' b=some u->H b=some u\/(s.heap.objs.size<=b/\ObjOk X.prog X.w H' h' b u)):
    Inv X pins σ H' { s with heap:=h',toks:=t' }:=by
  refine I.un ⟨λ b u q _ _ _=>k b u q,λ b u q _ _ _=>⟨u.slots,k b u q⟩,λ b u q n _=> ?_,λ b u q _=>⟨u,k b u q⟩,λ b xs q=>old _ _ q,λ b u xs q=>old _ _ q,λ b ps q=>⟨#[],by rw [old _ _ q];simp⟩⟩ λ b u e=> ?_
  · cases c:H' b with
    | none=>rfl
    | some u=>
      rcases new b u c with z | z
      · rw [n] at z;cases z
      · exact absurd (Nat.lt_of_lt_of_le (Heap.lt_size q) z.1) (Nat.lt_irrefl _)
  · rcases new b u e with z | z
    · exact (I.hok b u z).stay (λ c v _ q=>k c v q) (λ c q=>old _ _ q) λ c xs q=>old _ _ q
    · exact z.2
end
def viO (r d:Addr):HO:= .ext λ h=>h.IsItemsView r d
theorem SK {P:Program} {w:World} {H:Hp} {h:Heap} {r d:Addr} (ok:HOk P w H h) (e:H r=some (viO r d)):h.IsItemsView r d:=(show ObjOk P w H h r (viO r d) from ok r _ e).1
theorem JI {P:Program} {w:World} {H:Hp} {h:Heap} {d:Addr} {xs:List En2} (ok:HOk P w H h) (e:H d=some (d2O P w d xs)):(d == sysModules)=false/\∃ es ep,HT.RawD d es ep h/\es.toList=(xs.map en2).map (entryOfKey (IX (AJ P w))):=by
  obtain ⟨⟨ns,o,es,ep,h1,h2,h3,h4⟩,_⟩:=(show ObjOk P w H h d (d2O P w d xs) from ok d _ e);exact ⟨ns,es,ep,⟨o,h1,h2,h3⟩,h4⟩
def Ph (P:Program) (w:World):V->List V->Hp->VK->Prop:=λ x ys H Q=>∃ (d:Addr) (xs:List En2),x= .ref d/\ys=[]/\H d=some (d2O P w d xs)/\∀ r,H r=none->Q (.ref r) (upd H r (viO r d))
theorem Mc {X:Cx}:MtR X "dict.items" (Ph X.prog X.w):=by
  intro pins s σ H x ys v us Q I rx rv h;obtain ⟨d,xs,rfl,rfl,hd,g⟩:=h;cases rx;cases rv;obtain ⟨ns,es,ep,hm, -⟩:=JI I.hok hd;refine PySem.wpAny_call_entry PySem.F.slot_dict_items hm.type PySem.F.entry_dict_items ?_ (PySem.F.args_dict_items_1 _);refine HT.pairs_view ns hm ⟨_,rfl, .ref s.heap.objs.size,_,I.laid (a:=s.heap.objs.size) (o:=viO s.heap.objs.size d) (t':=s.toks) (λ _ _ q=>Heap.get?_push_of_some _ q) (Nat.le_refl _) ?_,rfl,g _ (I.hok.fresh (Nat.le_refl _))⟩;exact ⟨⟨_,Heap.get?_push_size _ rfl,rfl,rfl⟩,⟨_,Heap.get?_push_size _ rfl⟩,λ _ _ ⟨o,ho,x⟩ k=>⟨o,k _ ho,x⟩⟩
def prO (x:En2):HO:= .tup [.ref x.2.1, .ref x.2.2]
def Qz (P:Program) (w:World) (ys:List V) (H:Hp) (Q:VK):Prop:=∃ (r d:Addr) (xs:List En2),ys=[.ref r]/\H r=some (viO r d)/\H d=some (d2O P w d xs)/\xs.length<1000/\
  ∀ (l:Addr) (ts:List Addr),H l=none->ts.length=xs.length->(l::ts).Nodup->(∀ t∈ts,H t=none)->Q (.ref l) (GX H ((l, .lst (ts.map V.ref))::ts.zip (xs.map prO)))
theorem Kf {X:Cx} (hc:X.calm=true):A7 X (.type "list") (Qz X.prog X.w):=by
  intro pins s σ H ys us Q I rv h;obtain ⟨r,d,xs,rfl,hr,hd,hz,g⟩:=h;obtain ⟨u,rfl,ru⟩:=DF rv;cases ru;obtain ⟨ns,es,ep,hm,hes⟩:=JI I.hok hd;have hsz:es.size=xs.length:=by rw [<-Array.length_toList,hes,List.length_map,List.length_map]
  refine HT.pairs_list (I.ok.hd hc) (SK I.hok hr) hm (by rw [hsz,sizeLine_eq];omega) λ h' tk acc c as hk hS hl hG hacc=> ?_;have ll:as.length=xs.length:=by rw [hl,hsz]
  have nl:s.heap.objs.size∉as:=λ z=>Nat.lt_irrefl _ (hG.lo _ z);have nd:(s.heap.objs.size::as).Nodup:=List.nodup_cons.mpr ⟨nl,hG.up.imp λ z=>Nat.ne_of_lt z⟩;have fr:∀ b,s.heap.objs.size<=b->H b=none:=λ b z=>I.hok.fresh z;have key:∀ b u,(b,u)∈(s.heap.objs.size,HO.lst (as.map V.ref))::as.zip (xs.map prO)->s.heap.objs.size<=b/\ObjOk X.prog X.w (GX H ((s.heap.objs.size,HO.lst (as.map V.ref))::as.zip (xs.map prO))) h' b u:=by
    intro b u hb;rcases List.mem_cons.mp hb with hb | hb
    · cases hb;refine ⟨Nat.le_refl _,by rw [List.length_map,ll,sizeLine_eq];omega,acc.toList,c,?_,by simpa using hS⟩;rw [hacc];exact Ir (by simp) λ j u hu=>by
        rw [List.getElem?_map] at hu ⊢;obtain ⟨a,ha,rfl⟩:=Option.map_eq_some_iff.mp hu;exact ⟨.ref a,by rw [ha];rfl,rfl⟩
    · obtain ⟨j,hj⟩:=List.mem_iff_getElem?.mp hb;obtain ⟨h1,h2⟩:=List.getElem?_zip_eq_some.mp hj;rw [List.getElem?_map] at h2;obtain ⟨x,hx,rfl⟩:=Option.map_eq_some_iff.mp h2;obtain ⟨e,he,hg⟩:=hG.at' j b h1;rw [<-Array.getElem?_toList,hes,List.getElem?_map,List.getElem?_map,hx] at he;cases he;exact ⟨Nat.le_of_lt (hG.lo b (List.mem_of_getElem? h1)),by show 2<=sizeLine;rw [sizeLine_eq];omega,[.ref x.2.1, .ref x.2.2], .cons rfl (.cons rfl .nil),_,hg,rfl,_,rfl⟩
  refine ⟨.ref s.heap.objs.size,_,I.laidS (t':=tk) hk (λ b u e=> ?_) λ b u e=> ?_,rfl,g _ as (fr _ (Nat.le_refl _)) ll nd λ t ht=>fr t (Nat.le_of_lt (hG.lo t ht))⟩
  · rw [Is]
    · exact e
    · intro z;obtain ⟨p,hp,rfl⟩:=List.mem_map.mp z;rw [fr _ (key p.1 p.2 hp).1] at e;cases e
  · exact (Jx e).elim (λ z=> .inr (key b u z)) .inl
def Nl (P:Program) (w:World) (x:V) (H:Hp):Prop:=∃ d xs,x= .ref d/\H d=some (d2O P w d xs)
theorem PD {X:Cx} {pins:List (Addr × Obj)} {σ:St} {H:Hp} {s:Shared} {x:V} {v:Value} (I:Inv X pins σ H s) (r:RelV x v) (h:Nl X.prog X.w x H):s.TypeIs v "dict"/\∀ a,v= .ref a->∃ ob,s.heap.get? a=some ob/\ob.dict=none:=by
  obtain ⟨d,xs,rfl,e⟩:=h;cases r;obtain ⟨-,es,ep,hm, -⟩:=JI I.hok e;refine ⟨hm.type,λ a q=> ?_⟩;cases q;obtain ⟨o,h1,h2, -⟩:=hm;exact ⟨o,h1,h2.2.1⟩
def Ul (P:Program) (w:World) (r:V->List V->Hp->VK->Prop) (to:TE):TE:=λ σ H Q=>to σ H λ x H1=>Nl P w x H1/\r x [] H1 Q
def tBD (P:Program) (w:World) (r:V->List V->Hp->VK->Prop) (to:TE) (t:TA):TE:=λ σ H Q=>to σ H λ x H1=>Nl P w x H1/\t σ H1 λ xs H2=>r x xs H2 Q
section
variable {P:Program} {w:World} {H:Hp} {Q:VK} {σ:St} {to:TE} {t:TA} {r:V->List V->Hp->VK->Prop}
theorem Rq (h:to σ H λ x H1=>Nl P w x H1/\r x [] H1 Q):Ul P w r to σ H Q:=h
theorem Sk (h:to σ H λ x H1=>Nl P w x H1/\t σ H1 λ xs H2=>r x xs H2 Q):tBD P w r to t σ H Q:=h
end
variable {X:Cx} {o e:Expr} {es:List Expr} {to:TE} {t:TA} {name:Str} {apos cpos:Pos} {id:String} {r:V->List V->Hp->VK->Prop}
theorem QP (slot:Slot "dict" name id) (hty:typeOf (.builtin id)=pure (.type "method_descriptor")) (hm:MtR X id r) (ho:PE X o to) (hbase:attributeBase o name X.env (eval o X.env)=eval o X.env:=by rfl) (hline:(apos.endLine == cpos.line)=true:=by rfl):
    PE X (.Call (.Attribute o name apos) [] [] cpos) (Ul X.prog X.w r to):=by
  intro pins s σ H Q I h;refine wpAny_Call_method0_late hbase hline (thn (ho pins s σ H _ I h) λ v s1 ⟨x,H1,I1,r1,ty,q1⟩=> ?_);have hh:=PD I1 r1 ty;exact ⟨"dict",id,PySem.F.plainAttrs_dict,slot,hty,hh.1,hh.2,Calls.callWith_builtin rfl (PySem.evalArgs_none (hm pins s1 σ H1 x [] v [] Q I1 r1 .nil q1))⟩
theorem U4 (slot:Slot "dict" name id) (hty:typeOf (.builtin id)=pure (.type "method_descriptor")) (hm:MtR X id r) (ho:PE X o to) (ha:PA X (e::es) t) (hbase:attributeBase o name X.env (eval o X.env)=eval o X.env:=by rfl)
    (hfew:((backTo cpos (starEach (e::es) X.env)).all (λ x=> !x.1)&&(backToKw cpos (keywordEach [] X.env)).all (λ x=>x.1.isSome)&&decide ((e::es).length+([]:List Keyword).length+(if ([]:List Keyword).isEmpty then 0 else 1)<30))=true:=by rfl)
    (hline:(apos.endLine == cpos.line)=true:=by rfl) (hs:starEach (e::es) X.env=(false,eval e X.env)::starEach es X.env:=by rfl) (hplain:(backTo cpos (starEach es X.env)).any (·.1)=false:=by rfl):
    PE X (.Call (.Attribute o name apos) (e::es) [] cpos) (tBD X.prog X.w r to t):=by
  intro pins s σ H Q I h;refine wpAny_Call_method_late hbase hfew hline rfl (thn (ho pins s σ H _ I h) λ v s1 ⟨x,H1,I1,r1,ty,q1⟩=> ?_);have hh:=PD I1 r1 ty;refine ⟨"dict",id,PySem.F.plainAttrs_dict,slot,hty,hh.1,hh.2,?_⟩;have hA:=ha cpos pins s1 σ H1 _ I1 q1;rw [hs] at hA ⊢;exact Calls.callWith_builtin (by show (false||(backTo cpos (starEach es X.env)).any (·.1))=false;rw [hplain] <;> rfl) (Calls.evalArgs_plain (thn hA λ us s2 ⟨vs,H2,I2,r2,q2⟩=>hm pins s2 σ H2 x vs v us Q I2 r1 r2 q2))
end L2
namespace L2
open PySem PySem.Spec PyProof.Rows PySem.W
theorem Na {X:Cx} {pins:List (Addr × Obj)} {σ:St} {H:Hp} {s:Shared} {p:Addr} {bs:List Addr} {ks:List (List Key)} {rk:List Key->Nat} {Q:VK} (I:Inv X pins σ H s)
    (col:∀ (R:List Value->Shared->Prop) (E:Value->Shared->Prop),(∀ h1 tk,(∀ b o,s.heap.get? b=some o->h1.get? b=some o)->R (bs.map Value.ref) { s with heap:=h1,toks:=tk })->wpAny (model X.prog X.w) X.A.in1 (collect (.ref p)) R E s)
    (hl:ks.length<64) (hbl:bs.length=ks.length) (hbt:∀ i,i<ks.length->H (bs.getD i 0)=some (.tup ((ks.getD i []).map kV))) (lx:LexOk rk ks) (hnd:ks.Nodup)
    (q:∀ (l:Addr) (bs:List Addr) (ms:List (List Key)),H l=none->ms.Perm ks->ms.Pairwise (λ a b=>rk a<rk b)->bs.length=ms.length->(∀ i,i<ms.length->H (bs.getD i 0)=some (.tup ((ms.getD i []).map kV)))->Q (.ref l) (upd H l (.lst (bs.map V.ref)))):
    wpAny (model X.prog X.w) X.A (call (.builtin "sorted") [.ref p]) (EP X pins σ Q) X.xe s:=by
  refine Calls.call_function_entry kind_sorted plain_sorted entry_sorted (args_sorted1 _) ?_;show wpAny _ _ (checkCount "sorted" 1 1 1 >>= λ _=>collect (.ref p) >>= λ xs=>newList xs >>= λ l=>holding [l] (call (.builtin "list.sort") [l] []) >>= λ _=>ret l) _ _ _;rw [EQ];refine wpAny_bind (wpAny_pure ?_);refine wpAny_bind (col _ _ λ h1 tk k1=> ?_);have I1:=I.kept (t':=tk) k1;have hkl:ks.length=ks.length:=rfl;have hvl:(bs.map Value.ref).length=ks.length:=by rw [List.length_map,hbl]
  refine wpAny_bind (wpAny_newList ?_ ?_)
  · refine wpAny_bind (wpAny_holding ?_);have hg:(h1.push { cls:=Value.type "list",data:=Data.seq (bs.map Value.ref).toArray }).get? h1.objs.size=some (seqObj "list" (bs.map Value.ref).toArray 0):=Heap.get?_push_size _ rfl;refine wpAny_call_entry slot_list_sort ⟨_,hg,rfl⟩ entry_list_sort ?_ (args_list_sort _);refine HT.sort_shell (λ out=>∃ (cs:List Addr) (ms:List (List Key)),out=cs.map Value.ref/\ms.Perm ks/\ms.Pairwise (λ a b=>rk a<rk b)/\cs.length=ms.length/\∀ i,i<ms.length->H (cs.getD i 0)=some (.tup ((ms.getD i []).map kV))) hg (by rw [hvl];exact hl) (λ c=> ?_) (λ c h' k'=> ?_) λ out g ol=> ?_
    · refine ⟨bs,ks,rfl,List.Perm.refl _,?_,by rw [hbl,hkl],λ i hi=>hbt i (hkl▸hi)⟩
      match ks,hkl,hvl▸c with
      | [],_,_=>exact .nil
      | [_],_,_=>exact List.pairwise_singleton ..
      | _::_::_,e,z=>rw [<-e] at z;simp only [List.length_cons] at z;omega
    · have tp:∀ i,i<ks.length->∃ x j t u,ks.getD i []=[.inr x, .inl j]/\IsTup h' (bs.getD i 0) #[.str x t, .int j u]:=by
        intro i hi;have hm:ks.getD i []∈ks:=by
          rw [List.getD_eq_getElem?_getD,List.getElem?_eq_getElem (hkl▸hi)];exact List.getElem_mem _
        obtain ⟨x,j,e⟩:=lx.shp _ hm;have hb:=hbt i hi;rw [e] at hb;obtain ⟨its,rv,⟨ob,hob,hcb,n,hdb⟩, -⟩:=I1.tuple (SqT.of (K:=X.K) hb);cases rv with
        | cons r1 rr=>
          cases rr with
          | cons r2 rr2=>
            cases rr2;obtain ⟨t,rfl⟩:=r1;obtain ⟨u,rfl⟩:=r2;exact ⟨x,j,t,u,e,ob,k' _ _ (Nat.ne_of_lt (Heap.lt_size hob)) (Heap.get?_push_of_some _ hob),hcb,n,hdb⟩
      obtain ⟨fs,kf,fl,fst⟩:=HT.kat_strs (h:=h') (bs.map Value.ref) (λ v hv=>by
        obtain ⟨b,hb,rfl⟩:=List.mem_map.mp hv;obtain ⟨i,hi,rfl⟩:=List.mem_iff_getElem.mp hb;obtain ⟨x,j,t,u, -,z⟩:=tp i (hbl▸hi);rw [List.getD_eq_getElem?_getD,List.getElem?_eq_getElem hi] at z;exact ⟨_,x,j,t,u,rfl,z⟩)
      refine kat_kind (T:= .type "str") kf (by omega) (λ v hv=> ?_) (by decide) ?_
      · obtain ⟨x,t,rfl⟩:=fst v hv;exact Looks.now
      · have inj:MSort.Inj (λ i=>rk (ks.getD i [])) ks.length:=by
          intro i j hi hj e;have mi:ks.getD i []=ks[i]'(hkl▸hi):=by rw [List.getD_eq_getElem?_getD,List.getElem?_eq_getElem (hkl▸hi)];rfl
          have mj:ks.getD j []=ks[j]'(hkl▸hj):=by rw [List.getD_eq_getElem?_getD,List.getElem?_eq_getElem (hkl▸hj)];rfl
          have e:rk (ks.getD i [])=rk (ks.getD j []):=e;rw [mi,mj] at e;have:=lx.inj _ (List.getElem_mem _) _ (List.getElem_mem _) e;exact (List.getElem_inj hnd).mp this
        have ev:∀ i,i<ks.length->(bs.map Value.ref).getD i Value.none= .ref (bs.getD i 0):=by
          intro i hi;rw [List.getD_eq_getElem?_getD,List.getElem?_map,List.getD_eq_getElem?_getD,List.getElem?_eq_getElem (hbl▸hi)];rfl
        have run:=HT.kas_pure (prog:=X.prog) (w:=X.w) (A:=X.A.in1.in1) (s:=({ s with heap:=h',toks:=tk }:Shared)) (vs:=bs.map Value.ref) (κ:=tuples' true) (lt:=MSort.L λ i=>rk (ks.getD i [])) (n:=ks.length)
          (λ i j hi hj C hC=>by
            unfold kas_ask;rw [ev i hi,ev j hj];obtain ⟨x,a,t,u,e1,t1⟩:=tp i hi;obtain ⟨y,b,t',u',e2,t2⟩:=tp j hj;refine HT.lex_lt t1 t2 ?_;have m1:ks.getD i []∈ks:=by
              rw [List.getD_eq_getElem?_getD,List.getElem?_eq_getElem (hkl▸hi)];exact List.getElem_mem _
            have m2:ks.getD j []∈ks:=by
              rw [List.getD_eq_getElem?_getD,List.getElem?_eq_getElem (hkl▸hj)];exact List.getElem_mem _
            have hC:C (decide (rk (ks.getD i [])<rk (ks.getD j []))) _:=hC;rw [e1] at m1 hC;rw [e2] at m2 hC;rw [lx.ord _ _ _ _ m1 m2];exact hC) _ (MSort.sort inj (by omega))
        rw [<-hvl] at run;refine HT.kas_mono run λ p' s' hq=> ?_;obtain ⟨rfl,ok,up⟩:=hq;refine ⟨rfl,p'.toList.map (λ i=>bs.getD i 0),p'.toList.map (λ i=>ks.getD i []),?_,?_,?_,by simp,?_⟩
        · rw [List.map_map];refine List.map_congr_left λ i hi=> ?_;exact ev i (hvl▸List.mem_range.mp (ok.perm.mem_iff.mp hi))
        · refine (ok.perm.map _).trans (List.Perm.of_eq ?_);rw [hvl, <-hkl];exact AK id ks [] |>.trans (List.map_id _)
        · rw [List.pairwise_iff_getElem];intro i j hi hj hij;rw [List.length_map,Array.length_toList,ok.size] at hi hj;have:=up i j hij hj;unfold MSort.K at this;have hi':i<p'.size:=by rw [ok.size];exact hi
          have hj':j<p'.size:=by rw [ok.size];exact hj
          have gi:p'.getD i 0=p'[i]:=by simp [Array.getD,hi']
          have gj:p'.getD j 0=p'[j]:=by simp [Array.getD,hj']
          rw [gi,gj] at this;simpa using this
        · intro i hi;rw [List.length_map,Array.length_toList,ok.size] at hi;have hi':i<p'.size:=by rw [ok.size];exact hi
          have hl':=ok.lt hi;have gi:p'.getD i 0=p'[i]:=by simp [Array.getD,hi']
          rw [gi] at hl';have z:=hbt p'[i] (hvl▸hl');rw [List.getD_eq_getElem?_getD,List.getElem?_map,List.getD_eq_getElem?_getD (l:=List.map _ _),List.getElem?_map,Array.getElem?_toList,Array.getElem?_eq_getElem hi'];exact z
    · obtain ⟨cs,ms,rfl,pm,pw,cl,at_⟩:=g;refine ⟨_,rfl,?_⟩;refine wpAny_pure ⟨_,rfl,?_⟩;obtain ⟨e,he⟩:=sortedHeap_at (out:=(cs.map Value.ref).toArray) hg;refine ⟨.ref h1.objs.size,_,I1.laid (t':=tk) (o:= .lst (cs.map V.ref)) (λ b ob z=> ?_) (Nat.le_refl _) ?_,rfl,q _ cs ms (I1.hok.fresh (Nat.le_refl _)) pm pw cl at_⟩
      · have hb:=Heap.lt_size z;have hsz:b<(h1.push { cls:=Value.type "list",data:=Data.seq (bs.map Value.ref).toArray }).objs.size:=Nat.lt_trans hb (Heap.lt_size hg);show (sortedHeap _ _ _ _).get? b=_;rw [sortedHeap_old (Nat.ne_of_lt hb) hsz];exact Heap.get?_push_of_some _ z
      · refine ⟨?_,cs.map Value.ref,e,Fg cs,?_⟩
        · rw [List.length_map,cl,pm.length_eq,hkl];exact Nat.le_trans (Nat.le_of_lt hl) (by decide)
        · show (sortedHeap _ _ _ _).get? _=_;rw [he]
  · rw [hvl];exact Nat.le_trans (Nat.le_of_lt hl) (by decide)
def Qw (K:PySem.W.Frag):List V->Hp->VK->Prop:=λ xs H Q=>∃ (p:Addr) (bs:List Addr) (ks:List (List Key)) (rk:List Key->Nat),xs=[.ref p]/\SqL K H p (bs.map V.ref)/\ks.length<64/\bs.length=ks.length/\(∀ i,i<ks.length->H (bs.getD i 0)=some (.tup ((ks.getD i []).map kV)))/\LexOk rk ks/\ks.Nodup/\
  ∀ (l:Addr) (bs:List Addr) (ms:List (List Key)),H l=none->ms.Perm ks->ms.Pairwise (λ a b=>rk a<rk b)->bs.length=ms.length->(∀ i,i<ms.length->H (bs.getD i 0)=some (.tup ((ms.getD i []).map kV)))->Q (.ref l) (upd H l (.lst (bs.map V.ref)))
theorem FZ:∀ {bs:List Addr} {its:List Value},Vals (bs.map V.ref) its->its=bs.map Value.ref
  | [],_, .nil=>rfl
  | b::bs,_, .cons r h=>by
    cases r;rw [FZ h];rfl
theorem Ma {X:Cx} {K:PySem.W.Frag} (hK:X.K=K:=by rfl):A7 X (.builtin "sorted") (Qw K):=by
  subst hK;intro pins s σ H xs us Q I r h;obtain ⟨p,bs,ks,rk,rfl,hq,hl,hbl,hbt,lx,nd,q⟩:=h;obtain ⟨u,rfl,rx⟩:=DF r;cases rx;obtain ⟨its,rv,pl,hz⟩:=I.list hq;cases FZ rv;obtain ⟨o,ho,hc,n,hd⟩:=pl.isList;refine Na I (λ R E g=>wpAny_collect_seq p (.inl rfl) ho hc hd (λ h1 k1=> ?_) ?_) hl hbl hbt lx nd q
  · have:=g h1 s.toks k1;simpa using this
  · rw [List.size_toArray,List.length_map,hbl];exact Nat.le_trans (Nat.le_of_lt hl) (by decide)
section
variable {K:PySem.W.Frag} {a b:Addr} {xs zs:List V} {H:Hp} {σ0:St}
end
theorem lk_slot:Slot "list" "__getattribute__" "list.__getattribute__":= .of (owner:="list") (n:="__getattribute__") (by rw [typeLookup_type,builtinLookup_eq_fast];kernel_rfl) (by decide +kernel) (by decide +kernel) (by decide +kernel) (by first | exact .inl (by decide +kernel) | exact .inr (by decide +kernel)) (by rw [isSubtype_type];kernel_rfl)
theorem NX:entryFor table "list.__getattribute__"=some Builtin.«object.__getattribute__» := entryFor_alias (id':="object.__getattribute__") (by kernel_rfl) (by decide +kernel) (by decide +kernel) (by kernel_rfl)
theorem Pp:typeLookup (.type "list") "keys"=pure none:=by rw [typeLookup_type,builtinLookup_eq_fast];kernel_rfl
theorem UL:typeLookup (.type "list") "__getattr__"=pure none:=by rw [typeLookup_type,builtinLookup_eq_fast];kernel_rfl
theorem O0 (a b:Value):argsOk "list.__getattribute__" ⟨[a,b],[]⟩:=by
  unfold argsOk;rw [signature?_of (id:="list.__getattribute__") (n:=['_', '_', 'e', 't', 'u', 'b', 'i', 'r', 't', 't', 'a', 't', 'e', 'g', '_', '_']) (o:=['t', 's', 'i', 'l']) (by kernel_rfl) F.owner_list];kernel_rfl
theorem NJ (a:Addr) (fs:Array Value) (c:Nat) (u:Tok):Meets (Builtin.«object.__getattribute__» ⟨[.ref a, .str "keys" u],[]⟩) (λ A R s=>s.heap.get? a=some ⟨.type "list",none, .seq fs c, #[]⟩/\raisesAttr (.ref a) "keys" A R s):=
  Meets.of_wp λ prog w A R s hs=>by
    obtain ⟨hp,g,d,tk,os⟩:=s;obtain ⟨hx,hs⟩:=hs;have hT:(⟨hp,g,d,tk,os⟩:Shared).TypeIs (.ref a) "list":=⟨_,hx,rfl⟩;have f9:=Pp;unfold Builtin.«object.__getattribute__»
    repeat (any_goals (first | assumption | wp_step))
    exact wpAny_raiseAttrError hs.1 hs.2 (attrMsg_fits (by decide +kernel) (by size_fits))
theorem O3 {prog:Program} {w:World} {A:Around} {E:Value->Shared->Prop} {s:Shared} {a:Addr} {fs:Array Value} {c:Nat} {Q:Option Value->Shared->Prop} (hx:s.heap.get? a=some ⟨.type "list",none, .seq fs c, #[]⟩) (hA:A.handled=none)
    (h:∀ h' tk e,Heap.NewExcOf s.heap h' e "AttributeError"->Q none { s with heap:=h',toks:=tk }):wpAny (model prog w) A (getAttr? (.ref a) "keys") Q E s:=by
  obtain ⟨hp,g,d,tk,os⟩:=s;have hT:∀ tk',(⟨hp,g,d,tk',os⟩:Shared).TypeIs (.ref a) "list":=λ _=>⟨_,hx,rfl⟩;have f1:=sub_AttributeError;have f3:=lk_slot.lookup;have f4:=lk_slot.bind (.ref a);have f5:=UL;unfold getAttr? getAttrBy? getAttrBy
  repeat (any_goals (first | assumption | exact hT _ | ((with_reducible show wpAny _ _ (call (Value.builtin "list.__getattribute__") _ _) _ _ _);refine call_meets lk_slot (hT _) NX (O0 _ _) (NJ a fs c _) ⟨hx,hA,λ h' tk' e hx'=> ?_⟩) | wp_step))
  obtain ⟨t',u',he⟩:=hx'.there;show wpAny _ _ (getattributeRaised _ _ _ _ _ _ _) _ _ _;unfold getattributeRaised
  repeat (any_goals (first | assumption | wp_step))
  exact h _ _ _ hx'.of
section
variable {X:Cx} {pins:List (Addr × Obj)} {σ:St} {H:Hp} {s:Shared} {A:Around} {E:Value->Shared->Prop}
theorem Kd {a b:Addr} {kvs:List (List Key × V)} {k:List Key} {v:V} {r:Value} {Q:Unit->Shared->Prop} (hu:A.units<cLine) (I:Inv X pins σ H s) (e:H a=some (.dT kvs)) (eb:H b=some (.tup (k.map kV))) (l:kvs.length<sizeLine) (rv:RelV v r)
    (h:∀ h' t',Inv X pins σ (upd H a (.dT (Ct kvs k v))) { s with heap:=h',toks:=t' }->Heap.SameBut a s.heap h'->(∃ q,h'.get? a=some q)->Q () { s with heap:=h',toks:=t' }):wpAny (model X.prog X.w) A (dictSet a (.ref b) r) Q E s:=by
  obtain ⟨z,hd,xs,rel,dd⟩:=K4 I.hok e;have hz:xs.length<=sizeLine:=by rw [<-Paired.length rel];exact z
  have hl:(Ct kvs k v).length<=sizeLine:=by have:=Bf kvs k v;omega
  refine wpAny_dictSet_heap (hsz:=hz) (show (tupleKind _).room A from hu) (DI I.hok eb) dd λ h' dd' hs=> ?_;obtain ⟨q,es,ep,hq,h2,h3,h4,_,h5⟩:=dd';refine h _ _ (EM I (by rw [e];exact True.intro) hs ⟨q,hq⟩ ⟨hl,hd,_,(rel.put k eb rv).keeps λ c ys ec=> ?_,q,es,ep,hq,h2,h3,h4,h5⟩) hs ⟨q,hq⟩;rw [Am (A8 ec e (λ z=>nomatch z))];exact ec
def Cv (es:List (List Key × V)):List (List Key × V):=es.foldl (λ m e=>Ct m e.1 e.2) []
theorem DD (es:List (List Key × V)) (e:List Key × V):Cv (es++[e])=Ct (Cv es) e.1 e.2:=by
  unfold Cv;rw [List.foldl_append];rfl
theorem JK (es:List (List Key × V)):(Cv es).length<=es.length:=by
  induction es using MM.snoc_ind with
  | h0=>exact Nat.le_refl _
  | h1 l a ih=>
    rw [DD,List.length_append,List.length_singleton];have:=Bf (Cv l) a.1 a.2;omega
def NP (H:Hp) (ps:List Addr) (es:List (List Key × V)):Prop:=∀ i,i<es.length->∃ b,H (ps.getD i 0)=some (.tup [.ref b,(es.getD i ([], .non)).2])/\H b=some (.tup ((es.getD i ([], .non)).1.map kV))
theorem O2 {p it D:Addr} {H0:Hp} {ps:List Addr} {es:List (List Key × V)} {R:Result->Shared->Prop} (hA:A.in1.handled=none) (hu:A.units+8<cLine) (nD:it≠D) (hl:ps.length=es.length) (h1000:es.length<=1000)
    (hq:bar D H0 p=some (.lst (ps.map V.ref))) (hat:NP (bar D H0) ps es):∀ (m i:Nat) (s:Shared) (H:Hp),es.length - i=m->i<=es.length->Inv X pins σ H s->B7 X pins H it->it<s.heap.objs.size->
      s.heap.IsListIter it p i->Same (bar D H0) H->H D=some (.dT (Cv (es.take i)))->(∀ s' H',Inv X pins σ H' s'->Same (bar D H0) H'->H' D=some (.dT (Cv es))->R (.ok (.ret .none)) s')->
      codeAny (model X.prog X.w) A (.builtin "dict.update.loop" ⟨[.ref D, .ref it,rawInt i, .none],[]⟩) R s:=by
  intro m
  induction m with
  | zero=>
    intro i s H hm hi I f lt Z sm hD hR;have e:i=es.length:=by omega
    subst e;obtain ⟨its,rv,pl,_⟩:=I.list (SqL.of (sm _ _ hq));cases FZ rv;refine codeAny_builtin JC ?_;rw [Around.under_plainId EN _];show wpAny _ A.in1 (pyNext (.ref it) >>= _) _ _ s;refine wpAny_bind (wpAny_pyNext_list_end hA Z pl.isList (by simp;omega) λ h' hk=> ?_);have I1:=Inv.turnedL (t':=s.toks) (h':=h') [it] I (λ b hb=>by rw [List.mem_singleton.mp hb];exact f) λ c o hc q=>hk c o (λ z=>hc (by simp [z])) q;rw [List.take_length] at hD;exact wpAny_bind (wpAny_pure (wpAny_pure (hR _ H I1 sm hD)))
  | succ m ih=>
    intro i s H hm hi I f lt Z sm hD hR;have hlt:i<es.length:=by omega
    obtain ⟨its,rv,pl,_⟩:=I.list (SqL.of (sm _ _ hq));cases FZ rv;have gi:(ps.map Value.ref).toArray[i]?=some (.ref (ps.getD i 0)):=by
      rw [List.getElem?_toArray,List.getElem?_map,List.getElem?_eq_getElem (by omega),List.getD_eq_getElem?_getD,List.getElem?_eq_getElem (by omega)];rfl
    obtain ⟨b,hp,hb⟩:=hat i hlt;replace hp:=sm _ _ hp;replace hb:=sm _ _ hb;refine codeAny_builtin JC ?_;rw [Around.under_plainId EN _];show wpAny _ A.in1 (pyNext (.ref it) >>= _) _ _ s;refine wpAny_bind (wpAny_pyNext_list_item Z pl.isList gi λ h' Z' hk=> ?_);have I1:=Inv.turnedL (t':=s.toks) (h':=h') [it] I (λ b hb=>by rw [List.mem_singleton.mp hb];exact f) λ c o hc q=>(hk.2 c (λ z=>hc (by simp [z]))).trans q;obtain ⟨its2,rv2,⟨ot,hot,hct,nt,hdt⟩,_⟩:=I1.tuple (SqT.of (K:=X.K) hp)
    match its2,rv2,hdt with
    | [u,u2], .cons ru (.cons ru2 .nil),hdt=>
      cases ru;have lk:(Cv (es.take i)).length<sizeLine:=by
        have h1:=JK (es.take i);rw [List.length_take] at h1;rw [sizeLine_eq];omega
      show wpAny _ _ (holding [Value.ref (ps.getD i 0)] _ >>= _) _ _ _;refine wpAny_bind (wpAny_holding (wpAny_bind (wpAny_tryCatch ?_)));unfold Builtin.Dict.pairItems;refine wpAny_bind (wpAny_typeOf (T:="tuple") ⟨_,hot,hct⟩ ?_);rw [if_pos (by decide)];refine wpAny_bind (wpAny_seqItems hot hdt (wpAny_pure ?_));show wpAny _ _ (holding [Value.ref b,u2] (dictSet D (Value.ref b) u2)) _ _ _;refine wpAny_holding (Kd (by show A.units+1<cLine;omega) I1 hD hb lk ru2 λ h2 t2 I2 sb he=> ?_);refine wpAny_pure ⟨plainId_quiet EN _,?_⟩;show codeAny _ A (.builtin "dict.update.loop" ⟨[.ref D, .ref it,rawInt ((i:Int)+1), .none],[]⟩) R _;rw [show ((i:Int)+1)=((i+1:Nat):Int) by omega];refine ih (i+1) _ _ (by omega) hlt I2 (Ik f nD) ?_ ?_ (λ c o e=> ?_) ?_ hR
      · show it<h2.objs.size;obtain ⟨oi,hoi,_⟩:=Z';exact Heap.lt_size ((sb.2 it nD).trans hoi)
      · obtain ⟨oi,hoi,z⟩:=Z';exact ⟨oi,(sb.2 it nD).trans hoi,z⟩
      · have nc:c≠D:=λ y=>by rw [y,show bar D H0 D=none from if_pos rfl] at e;cases e
        rw [Am nc];exact sm c o e
      · have e9:es.take (i+1)=es.take i++[es.getD i ([], .non)]:=by
          rw [List.take_add_one,List.getElem?_eq_getElem hlt,List.getD_eq_getElem?_getD,List.getElem?_eq_getElem hlt];rfl
        rw [Ae,e9,DD]
def QZ:List V->Hp->VK->Prop:=λ xs H Q=>∃ (p:Addr) (ps:List Addr) (es:List (List Key × V)),xs=[.ref p]/\H p=some (.lst (ps.map V.ref))/\ps.length=es.length/\es.length<=1000/\NP H ps es/\∀ H' d,Same H H'->H d=none->H' d=some (.dT (Cv es))->Q (.ref d) H'
theorem OB {X:Cx} (hu:X.A.units+64<cLine) (hc:X.calm=true:=by rfl):A7 X (.type "dict") QZ:=by
  intro pins s σ H xs us Q I r h;obtain ⟨p,ps,es,rfl,hp,hl,h1000,hat,q⟩:=h;obtain ⟨u,rfl,rx⟩:=DF r;cases rx;refine callType_codes (Q₁:=λ v s2=>v= .ref s.heap.objs.size/\s2={ s with heap:=s.heap.push { cls:= .type "dict",data:= .dict #[] } }) F.kt_called_dict (F.kt_typeCall_dict_1 _) F.entry_dict_init (kt_code_dict_new _ ⟨rfl,rfl⟩) ?_;rintro _ _ ⟨rfl,rfl⟩;have fr:H s.heap.objs.size=none:=I.fresh;have I1:=I.laid (a:=s.heap.objs.size) (o:= .dT []) (h':=s.heap.push { cls:= .type "dict",data:= .dict #[] }) (t':=s.toks) (λ _ _ q=>Heap.get?_push_of_some _ q) (Nat.le_refl _) (Ge s.heap I.big);have gd:(s.heap.push { cls:= .type "dict",data:= .dict #[] }).get? s.heap.objs.size=some { cls:= .type "dict",data:= .dict #[] }:=Heap.get?_push_size _ rfl;have kp1:∀ c o,s.heap.get? c=some o->(s.heap.push { cls:= .type "dict",data:= .dict #[] }).get? c=some o:=λ c o e=>Heap.get?_push_of_some _ e;generalize s.heap.push { cls:= .type "dict",data:= .dict #[] }=h1 at I1 gd kp1 ⊢;obtain ⟨_,its,c0,rv,lg0⟩:=(show ObjOk X.prog X.w H s.heap p (.lst (ps.map V.ref)) from I.hok p _ hp);have lg:=kp1 _ _ lg0;have tD:({ s with heap:=h1 }:Shared).TypeIs (.ref s.heap.objs.size) "dict":=⟨_,gd,rfl⟩;refine ⟨tD,F.args_dict_init_2 _ _,?_⟩;unfold Builtin.«dict.__init__»;refine wpAny_bind ?_;unfold Builtin.Dict.selfAndRest;refine wpAny_bind (wpAny_notOrdered_dict tD ?_);show wpAny _ _ (pure (s.heap.objs.size,[Value.ref p])) _ _ _;refine wpAny_pure ?_;show wpAny _ _ (Builtin.Dict.updateFrom "dict.__init__" s.heap.objs.size (.ref p) [] .none) _ _ _;unfold Builtin.Dict.updateFrom;refine wpAny_bind (wpAny_typeOf (T:="list") ⟨_,lg,rfl⟩ ?_);rw [if_pos (by decide)];refine wpAny_bind (O3 lg (show X.A.in1.in1.handled=none from I.ok.hd hc) λ h2 tk e hx=> ?_);have kp2:∀ c o,h1.get? c=some o->h2.get? c=some o:=hx.keeps;have I2:=I1.kept (t':=tk) kp2;have sH:Same H (bar s.heap.objs.size (upd H s.heap.objs.size (.dT []))):=λ c o q=>by
    have nc:c≠s.heap.objs.size:=λ y=>by rw [y,fr] at q;cases q
    exact (if_neg nc).trans ((Am nc).trans q)
  show wpAny _ _ (rule _ >>= _) _ _ _;refine wpAny_bind (wpAny_rule (wpAny_bind (wpAny_pyIter_list ⟨_,kp2 _ _ lg,rfl,_,rfl⟩ (wpAny_pure ⟨plainId_quiet EN _,?_⟩))));have I3:=I2.kept (h':=h2.push { cls:= .type "list_iterator",data:= .fields #[.ref p, .int 0 0] }) (t':=tk) λ c o q=>Heap.get?_push_of_some _ q;have ltD:s.heap.objs.size<h2.objs.size:=Heap.lt_size (kp2 _ _ gd);have f3:B7 X pins (upd H s.heap.objs.size (.dT [])) h2.objs.size:=I2.fpOk (Nat.le_refl _) (I2.hok.fresh (Nat.le_refl _));refine O2 (A:=X.A.in1) (H0:=upd H s.heap.objs.size (.dT [])) (show X.A.in1.in1.handled=none from I.ok.hd hc) (by show X.A.units+1+8<cLine;omega) (Nat.ne_of_gt ltD) hl h1000 (sH _ _ hp) (λ i hi=>let ⟨b,e1,e2⟩:=hat i hi;⟨b,sH _ _ e1,sH _ _ e2⟩) es.length 0 _ _ rfl (Nat.zero_le _) I3 f3 ?_ ⟨_,Heap.get?_push_size _ rfl,rfl,rfl⟩ MB Ae λ s' H' I' sm hD=>⟨rfl, .ref s.heap.objs.size,H',I',rfl,q H' _ (sH.trans sm) fr hD⟩;rw [Heap.size_push];exact Nat.lt_succ_self _
end
end L2
namespace MG
abbrev Th:=Bool × Nat
abbrev Vis:=List (Th × Option Th)
def has (v:Vis) (x:Th):Bool:=v.any λ p=>decide (p.1=x)
theorem has_iff {v:Vis} {x:Th}:has v x=true↔x∈v.map (·.1):=by
  unfold has;rw [List.any_eq_true,List.mem_map];constructor
  · rintro ⟨p,hp,e⟩;exact ⟨p,hp,of_decide_eq_true e⟩
  · rintro ⟨p,hp,e⟩;exact ⟨p,hp,decide_eq_true e⟩
def A4 (u:Th) (acc:Vis × List Th) (x:Th):Vis × List Th:=if has acc.1 x=true then acc else (acc.1++[(x,some u)],acc.2++[x])
def goT (ad:Th->List Th) (acc:Vis × List Th) (u:Th):Vis × List Th:=(ad u).foldl (A4 u) acc
def IN (ad:Th->List Th) (vis:Vis) (met:List Th):Vis × List Th:=met.foldl (goT ad) (vis,[])
def lv (ad:Th->List Th) (one:Th):Nat->Vis × List Th
  | 0=>([(one,none)],[one])
  | k+1=>IN ad (lv ad one k).1 (lv ad one k).2
def End (ad:Th->List Th) (one:Th) (vis:Vis):Prop:=∃ k,lv ad one k=(vis,[])
theorem OX {ad:Th->List Th} {one:Th} {vis:Vis} {k:Nat} (h:lv ad one k=(vis,[])):∀ j,lv ad one (k+j)=(vis,[])
  | 0=>h
  | j+1=>by
    show IN ad (lv ad one (k+j)).1 (lv ad one (k+j)).2=_;rw [OX h j];rfl
structure Good (U:List Th) (n0:Nat) (acc:Vis × List Th):Prop where
  nd:(acc.1.map (·.1)).Nodup
  sub:∀ x∈acc.1.map (·.1),x∈U
  sub2:∀ x∈acc.2,x∈U
  len:acc.1.length=n0+acc.2.length
  pre:∀ a b x p,acc.1=a++(x,some p)::b->p∈a.map (·.1)
theorem Good.step {U:List Th} {n0:Nat} {acc:Vis × List Th} {u x:Th} (g:Good U n0 acc) (hx:x∈U) (hu:u∈acc.1.map (·.1)):Good U n0 (A4 u acc x):=by
  unfold A4;split
  · exact g
  · rename_i h
    have hn:x∉acc.1.map (·.1):=λ z=>h (has_iff.mpr z);refine ⟨?_,λ y hy=> ?_,λ y hy=> ?_,?_,λ a b y p e=> ?_⟩
    · rw [List.map_append];exact L2.nd_snoc g.nd hn
    · rw [List.map_append] at hy;rcases List.mem_append.mp hy with z | z
      · exact g.sub y z
      · rw [List.mem_singleton.mp z];exact hx
    · rcases List.mem_append.mp hy with z | z
      · exact g.sub2 y z
      · rw [List.mem_singleton.mp z];exact hx
    · have:=g.len;simp;omega
    · rcases List.eq_nil_or_concat b with rfl | ⟨b',z,rfl⟩
      · have e2:acc.1++[(x,some u)]=a++[(y,some p)]:=e;obtain ⟨e3,e4⟩:=List.append_inj' e2 rfl;injection e4 with e5 _;injection e5 with e6 e7;injection e7 with e8;rw [<-e3, <-e8];exact hu
      · have e0:acc.1++[(x,some u)]=a++(y,some p)::b'.concat z:=e;have e2:acc.1++[(x,some u)]=(a++(y,some p)::b')++[z]:=by rw [e0];simp
        obtain ⟨e3,_⟩:=List.append_inj' e2 rfl;exact g.pre a b' y p e3
theorem Gx {u x:Th} {acc:Vis × List Th} {y:Th} (h:y∈acc.1.map (·.1)):y∈(A4 u acc x).1.map (·.1):=by
  unfold A4;split
  · exact h
  · rw [List.map_append];exact List.mem_append_left _ h
theorem Good.go {U:List Th} {n0:Nat} {u:Th}:∀ (l:List Th) {acc:Vis × List Th},Good U n0 acc->(∀ x∈l,x∈U)->u∈acc.1.map (·.1)->Good U n0 (l.foldl (A4 u) acc)/\u∈(l.foldl (A4 u) acc).1.map (·.1)/\∀ y∈acc.1.map (·.1),y∈(l.foldl (A4 u) acc).1.map (·.1)
  | [],acc,g,_,hu=>⟨g,hu,λ y hy=>hy⟩
  | x::l,acc,g,hl,hu=>by
    rw [List.foldl_cons];obtain ⟨a,b,c⟩:=Good.go l (g.step (hl x (List.mem_cons_self ..)) hu) (λ y hy=>hl y (List.mem_cons_of_mem _ hy)) (Gx hu);exact ⟨a,b,λ y hy=>c y (Gx hy)⟩
theorem Good.lev {U:List Th} {n0:Nat} {ad:Th->List Th} (cl:∀ t∈U,∀ x∈ad t,x∈U):∀ (met:List Th) {acc:Vis × List Th},Good U n0 acc->(∀ u∈met,u∈acc.1.map (·.1))->Good U n0 (met.foldl (goT ad) acc)
  | [],acc,g,_=>g
  | u::met,acc,g,hm=>by
    rw [List.foldl_cons];have hu:=hm u (List.mem_cons_self ..);obtain ⟨a,b,c⟩:=Good.go (u:=u) (ad u) g (cl u (g.sub u hu)) hu;exact Good.lev cl met a λ v hv=>c v (hm v (List.mem_cons_of_mem _ hv))
theorem NH {u:Th}:∀ (l:List Th) (acc:Vis × List Th) (y:Th),y∈acc.1.map (·.1)->y∈(l.foldl (A4 u) acc).1.map (·.1)
  | [],acc,y,h=>h
  | x::l,acc,y,h=>by
    rw [List.foldl_cons];exact NH l _ y (Gx h)
theorem K3 {ad:Th->List Th}:∀ (met:List Th) (acc:Vis × List Th) (y:Th),y∈acc.1.map (·.1)->y∈(met.foldl (goT ad) acc).1.map (·.1)
  | [],acc,y,h=>h
  | u::met,acc,y,h=>by
    rw [List.foldl_cons];exact K3 met _ y (NH (ad u) acc y h)
theorem Good.bound {U:List Th} {n0:Nat} {acc:Vis × List Th} (g:Good U n0 acc):acc.1.length<=U.length/\acc.2.length<=U.length:=by
  have:=g.nd.length_le_of_subset g.sub;have:=g.len;simp at*;omega
theorem Nw {ad:Th->List Th}:∀ (l:List Th) (u:Th) (acc:Vis × List Th),(∀ x∈acc.2,x∈acc.1.map (·.1))->∀ x∈(l.foldl (A4 u) acc).2,x∈(l.foldl (A4 u) acc).1.map (·.1)
  | [],u,acc,h=>h
  | y::l,u,acc,h=>by
    rw [List.foldl_cons];refine Nw (ad:=ad) l u _ λ x hx=> ?_;unfold A4 at hx ⊢;split
    · rename_i q;rw [if_pos q] at hx;exact h x hx
    · rename_i q
      rw [if_neg q] at hx;rw [List.map_append];rcases List.mem_append.mp hx with z | z
      · exact List.mem_append_left _ (h x z)
      · exact List.mem_append_right _ (by simpa using z)
theorem Ie {ad:Th->List Th}:∀ (met:List Th) (acc:Vis × List Th),(∀ x∈acc.2,x∈acc.1.map (·.1))->∀ x∈(met.foldl (goT ad) acc).2,x∈(met.foldl (goT ad) acc).1.map (·.1)
  | [],acc,h=>h
  | u::met,acc,h=>by
    rw [List.foldl_cons];exact Ie met _ (Nw (ad:=ad) (ad u) u acc h)
structure Lv (U:List Th) (a:Vis × List Th):Prop where
  nd:(a.1.map (·.1)).Nodup
  sub:∀ x∈a.1.map (·.1),x∈U
  sub2:∀ x∈a.2,x∈U
  inn:∀ x∈a.2,x∈a.1.map (·.1)
  pre:∀ p q x r,a.1=p++(x,some r)::q->r∈p.map (·.1)
theorem Lv.next {U:List Th} {ad:Th->List Th} (cl:∀ t∈U,∀ x∈ad t,x∈U) {a:Vis × List Th} (l:Lv U a):Lv U (IN ad a.1 a.2)/\(IN ad a.1 a.2).1.length=a.1.length+(IN ad a.1 a.2).2.length:=by
  have g0:Good U a.1.length (a.1,([]:List Th)):=⟨l.nd,l.sub,λ x hx=>(by cases hx),rfl,l.pre⟩;have g:=Good.lev cl a.2 g0 l.inn;exact ⟨⟨g.nd,g.sub,g.sub2,Ie a.2 _ (λ x hx=>by cases hx),g.pre⟩,g.len⟩
theorem Lv.zero {U:List Th} {one:Th} (h:one∈U):Lv U ([(one,none)],[one]):=by
  refine ⟨by simp,λ x hx=> ?_,λ x hx=> ?_,λ x hx=>by simpa using hx,λ p q x r e=> ?_⟩
  · simp at hx;rw [hx];exact h
  · simp at hx;rw [hx];exact h
  · cases p with
    | nil=>injection e with e1 _;injection e1 with _ e2;cases e2
    | cons y p=>simp at e
theorem Lv.all {U:List Th} {ad:Th->List Th} {one:Th} (cl:∀ t∈U,∀ x∈ad t,x∈U) (h:one∈U):∀ k,Lv U (lv ad one k)
  | 0=>Lv.zero h
  | k+1=>(Lv.next cl (Lv.all cl h k)).1
theorem Lv.len {U:List Th} {a:Vis × List Th} (l:Lv U a):a.1.length<=U.length:=by
  have:=l.nd.length_le_of_subset l.sub;simpa using this
inductive Rch (ad:Th->List Th) (one:Th):Th->Prop where
  | here:Rch ad one one
  | step {t x:Th} (h:Rch ad one t) (m:x∈ad t):Rch ad one x
theorem Rch.trans {ad:Th->List Th} {a b c:Th} (h:Rch ad a b) (k:Rch ad b c):Rch ad a c:=by
  induction k with
  | here=>exact h
  | step _ m ih=>exact .step ih m
theorem Rch.mem {ad:Th->List Th} {U:List Th} {a b:Th} (cl:∀ t∈U,∀ x∈ad t,x∈U) (ha:a∈U) (h:Rch ad a b):b∈U:=by
  induction h with
  | here=>exact ha
  | step _ m ih=>exact cl _ ih _ m
theorem Rch.rev {ad ad':Th->List Th} {U:List Th} {a b:Th} (cl:∀ t∈U,∀ x∈ad t,x∈U) (s:∀ t∈U,∀ x∈ad t,t∈ad' x) (ha:a∈U) (h:Rch ad a b):Rch ad' b a:=by
  induction h with
  | here=>exact .here
  | @step t x h m ih=>exact (Rch.step .here (s _ (h.mem cl ha) _ m)).trans ih
theorem Lx {u x y:Th} {acc:Vis × List Th}:y∈(A4 u acc x).1.map (·.1)↔y∈acc.1.map (·.1)\/y=x:=by
  unfold A4;by_cases h:has acc.1 x=true
  · rw [if_pos h];constructor
    · exact .inl
    · rintro (z | rfl)
      · exact z
      · exact has_iff.mp h
  · rw [if_neg h];simp
theorem KC {u y:Th}:∀ (l:List Th) (acc:Vis × List Th),y∈(l.foldl (A4 u) acc).1.map (·.1)↔y∈acc.1.map (·.1)\/y∈l
  | [],acc=>by simp
  | x::l,acc=>by
    rw [List.foldl_cons,KC l,Lx,List.mem_cons,or_assoc]
theorem DG {ad:Th->List Th} {y:Th}:∀ (met:List Th) (acc:Vis × List Th),y∈(met.foldl (goT ad) acc).1.map (·.1)↔y∈acc.1.map (·.1)\/∃ t∈met,y∈ad t
  | [],acc=>by simp
  | u::met,acc=>by
    rw [List.foldl_cons,DG met];unfold goT;rw [KC];simp only [List.mem_cons,exists_eq_or_imp];rw [or_assoc]
theorem Nc {u x:Th} {K0:List Th} {acc:Vis × List Th} (h:∀ y∈acc.1.map (·.1),y∈K0\/y∈acc.2):∀ y∈(A4 u acc x).1.map (·.1),y∈K0\/y∈(A4 u acc x).2:=by
  intro y hy;unfold A4 at hy ⊢;by_cases q:has acc.1 x=true
  · rw [if_pos q] at hy ⊢;exact h y hy
  · rw [if_neg q] at hy ⊢;rw [List.map_append,List.mem_append] at hy;rcases hy with z | z
    · rcases h y z with w | w
      · exact .inl w
      · exact .inr (List.mem_append_left _ w)
    · exact .inr (List.mem_append_right _ (by simpa using z))
theorem NK {u:Th} {K0:List Th}:∀ (l:List Th) (acc:Vis × List Th),(∀ y∈acc.1.map (·.1),y∈K0\/y∈acc.2)->∀ y∈(l.foldl (A4 u) acc).1.map (·.1),y∈K0\/y∈(l.foldl (A4 u) acc).2
  | [],acc,h=>h
  | x::l,acc,h=>by rw [List.foldl_cons];exact NK l _ (Nc h)
theorem Kr {ad:Th->List Th} {K0:List Th}:∀ (met:List Th) (acc:Vis × List Th),(∀ y∈acc.1.map (·.1),y∈K0\/y∈acc.2)->∀ y∈(met.foldl (goT ad) acc).1.map (·.1),y∈K0\/y∈(met.foldl (goT ad) acc).2
  | [],acc,h=>h
  | u::met,acc,h=>by rw [List.foldl_cons];exact Kr met _ (NK _ _ h)
theorem KZ (ad:Th->List Th) (one:Th):∀ k,(∀ t∈(lv ad one k).1.map (·.1),t∈(lv ad one k).2\/∀ x∈ad t,x∈(lv ad one k).1.map (·.1))
  | 0=>λ t ht=> .inl (by simpa [lv] using ht)
  | k+1=>λ t ht=>by
    have up:∀ y,y∈(lv ad one k).1.map (·.1)->y∈(lv ad one (k+1)).1.map (·.1):=λ y hy=>(DG (lv ad one k).2 _).mpr (.inl hy);rcases Kr (K0:=(lv ad one k).1.map (·.1)) (lv ad one k).2 ((lv ad one k).1,[]) (λ y hy=> .inl hy) t ht with z | z
    · rcases KZ ad one k t z with w | w
      · exact .inr λ x hx=>(DG (lv ad one k).2 _).mpr (.inr ⟨t,w,hx⟩)
      · exact .inr λ x hx=>up x (w x hx)
    · exact .inl z
theorem K6 (ad:Th->List Th) (one:Th):∀ k,(∀ t∈(lv ad one k).1.map (·.1),Rch ad one t)/\(∀ x∈(lv ad one k).2,x∈(lv ad one k).1.map (·.1))
  | 0=>⟨λ t ht=>by
      have:t=one:=by simpa [lv] using ht
      subst this;exact .here,λ x hx=>by simpa [lv] using hx⟩
  | k+1=>by
    obtain ⟨a,b⟩:=K6 ad one k;refine ⟨λ t ht=> ?_,Ie (lv ad one k).2 ((lv ad one k).1,[]) (λ x hx=>by cases hx)⟩;rcases (DG (lv ad one k).2 ((lv ad one k).1,[])).mp ht with z | ⟨u,hu,z⟩
    · exact a t z
    · exact .step (a u (b u hu)) z
theorem End.iff {ad:Th->List Th} {one:Th} {vis:Vis} (e:End ad one vis) (x:Th):has vis x=true↔Rch ad one x:=by
  obtain ⟨k,hk⟩:=e;have a:=K6 ad one k;have b:=KZ ad one k;rw [hk] at a b;rw [has_iff];refine ⟨a.1 x,λ h=> ?_⟩
  induction h with
  | here=>
    have:∀ j,one∈(lv ad one j).1.map (·.1):=λ j=>by
      induction j with
      | zero=>simp [lv]
      | succ j ih=>exact (DG (lv ad one j).2 _).mpr (.inl ih)
    have:=this k
    rwa [hk] at this
  | step _ m ih=>
    rcases b _ ih with z | z
    · cases z
    · exact z _ m
theorem N4 {U:List Th} {ad ad':Th->List Th} {one:Th} (h1:one∈U) (cl:∀ t∈U,∀ x∈ad t,x∈U) (cl':∀ t∈U,∀ x∈ad' t,x∈U) (s:∀ t∈U,∀ x∈ad t,t∈ad' x) (s':∀ t∈U,∀ x∈ad' t,t∈ad x):
    ((∀ x∈U,Rch ad one x)/\∀ x∈U,Rch ad' one x)↔∀ t∈U,∀ x∈U,Rch ad t x:=
  ⟨λ h t ht x hx=>((h.2 t ht).rev cl' s' h1).trans (h.1 x hx),λ h=>⟨λ x hx=>h one h1 x hx,λ x hx=>(h x hx one h1).rev cl s hx⟩⟩
theorem IJ {α:Type} (p:α->Bool) (l:List α):(l.filter p).length=l.length↔∀ a∈l,p a=true:=List.length_filter_eq_length_iff
theorem MY {α:Type} (f:α->Nat):∀ {l m:List α},l.Perm m->l.Pairwise (λ a b=>f a<f b)->m.Pairwise (λ a b=>f a<f b)->l=m
  | [],m,p,_,_=>p.nil_eq
  | a::l,[],p,_,_=>absurd p.length_eq (by simp)
  | a::l,b::m,p,h,k=>by
    rw [List.pairwise_cons] at h k;have e:a=b:=by
      have ha:=p.mem_iff.mp (List.mem_cons_self (a:=a) (l:=l));have hb:=p.mem_iff.mpr (List.mem_cons_self (a:=b) (l:=m));rcases List.mem_cons.mp ha with z | z
      · exact z
      · rcases List.mem_cons.mp hb with w | w
        · exact w.symm
        · have h1:=k.1 a z;have h2:=h.1 b w;omega
    subst e;rw [MY f (List.perm_cons a |>.mp p) h.2 k.2]
end MG
namespace ML
variable {α:Type} [DecidableEq α]
abbrev En (α:Type):=List α × List α
def R (U:List α) (rel:α->α->Bool) (t:α):List α:=U.filter (rel t)
def grp (U:List α) (rel:α->α->Bool) (k:List α):List α:=U.filter λ t=>decide (R U rel t=k)
def isNx (e:En α) (told:List α):Bool:=decide ((e.1.filter λ t=>decide (t∈told)).length+e.2.length=e.1.length)
structure Pre (U:List α) (rel:α->α->Bool):Prop where
  rf:∀ t∈U,rel t t=true
  tr:∀ a∈U,∀ b∈U,∀ c∈U,rel a b=true->rel b c=true->rel a c=true
theorem mem_R {U:List α} {rel:α->α->Bool} {t u:α}:u∈R U rel t↔u∈U/\rel t u=true:=by unfold R;rw [List.mem_filter]
theorem mem_grp {U:List α} {rel:α->α->Bool} {k:List α} {t:α}:t∈grp U rel k↔t∈U/\R U rel t=k:=by unfold grp;rw [List.mem_filter,decide_eq_true_iff]
theorem R_eq {U:List α} {rel:α->α->Bool} (p:Pre U rel) {t u:α} (ht:t∈U) (hu:u∈U):R U rel t=R U rel u↔rel t u=true/\rel u t=true:=by
  constructor
  · intro e;have h1:u∈R U rel t:=by rw [e];exact mem_R.mpr ⟨hu,p.rf u hu⟩
    have h2:t∈R U rel u:=by rw [<-e];exact mem_R.mpr ⟨ht,p.rf t ht⟩
    exact ⟨(mem_R.mp h1).2,(mem_R.mp h2).2⟩
  · rintro ⟨h1,h2⟩;unfold R;refine List.filter_congr λ x hx=> ?_;rw [Bool.eq_iff_iff];exact ⟨λ h=>p.tr u hu t ht x hx h2 h,λ h=>p.tr t ht u hu x hx h1 h⟩
theorem GW {p q:α->Bool}:∀ {l:List α},(∀ x∈l,p x=true->q x=true)->(l.filter p).length<=(l.filter q).length
  | [],_=>Nat.le_refl _
  | a::l,h=>by
    have ih:=GW (l:=l) λ x hx=>h x (List.mem_cons_of_mem _ hx);have ha:=h a (List.mem_cons_self ..);rw [List.filter_cons,List.filter_cons];cases hp:p a with
    | true=>rw [ha hp];simp only [if_true,List.length_cons];omega
    | false=>
      cases hq:q a with
      | true=>simp only [if_true,if_false,Bool.false_eq_true,List.length_cons];omega
      | false=>simpa using ih
theorem DS {p q:α->Bool}:∀ {l:List α},(∀ x∈l,p x=true->q x=true)->(l.filter p).length=(l.filter q).length->∀ x∈l,q x=true->p x=true
  | [],_,_,x,hx,_=>by cases hx
  | a::l,h,e,x,hx,hq=>by
    have h':∀ x∈l,p x=true->q x=true:=λ x hx=>h x (List.mem_cons_of_mem _ hx);have le:=GW h';have ha:=h a (List.mem_cons_self ..);rw [List.filter_cons,List.filter_cons] at e;cases hp:p a with
    | true=>
      rw [hp,ha hp] at e;simp only [if_true,List.length_cons] at e;rcases List.mem_cons.mp hx with z | z
      · rw [z];exact hp
      · exact DS h' (by omega) x z hq
    | false=>
      cases hqa:q a with
      | true=>
        rw [hp,hqa] at e;simp only [if_true,if_false,Bool.false_eq_true,List.length_cons] at e;omega
      | false=>
        rw [hp,hqa] at e;simp only [if_false,Bool.false_eq_true] at e;rcases List.mem_cons.mp hx with z | z
        · rw [z,hqa] at hq;cases hq
        · exact DS h' e x z hq
structure St (U:List α) (rel:α->α->Bool) (Ls:List (List α)) (W:List (En α)) (told:List α):Prop where
  fl:told=Ls.flatten
  wk:∀ e∈W,e.2=grp U rel e.1/\∃ t∈U,e.1=R U rel t
  wn:(W.map (·.1)).Nodup
  cov:∀ t∈U,(∃ e∈W,e.1=R U rel t)\/t∈told
  dis:∀ t∈told,t∈U/\∀ e∈W,e.1≠R U rel t
  lay:∀ l∈Ls,∃ t∈U,l=grp U rel (R U rel t)
  ord:∀ (i:Nat) (l:List α) (t:α),Ls[i]?=some l->t∈l->∀ u∈R U rel t,∃ (j:Nat) (l':List α),j<=i/\Ls[j]?=some l'/\u∈l'
  nd:told.Nodup
section
variable {U:List α} {rel:α->α->Bool} {Ls:List (List α)} {W:List (En α)} {told:List α}
theorem LO (l:List α) (p:α->Bool):(l.filter p).length+(l.filter λ x=> !p x).length=l.length:=by
  induction l with
  | nil=>rfl
  | cons a l ih=>
    rw [List.filter_cons,List.filter_cons];cases p a <;> simp <;> omega
theorem St.own (p:Pre U rel) (s:St U rel Ls W told) {e:En α} (he:e∈W):∃ t∈U,e.1=R U rel t/\e.2=grp U rel (R U rel t)/\t∈e.2/\∀ x∈e.2,x∈U/\x∈e.1/\x∉told:=by
  obtain ⟨e2,t,ht,e1⟩:=s.wk e he;refine ⟨t,ht,e1,by rw [e2,e1],by rw [e2];exact mem_grp.mpr ⟨ht,e1.symm⟩,λ x hx=> ?_⟩;rw [e2] at hx;obtain ⟨hx1,hx2⟩:=mem_grp.mp hx;refine ⟨hx1,by rw [<-hx2];exact mem_R.mpr ⟨hx1,p.rf x hx1⟩,λ z=> ?_⟩;exact (s.dis x z).2 e he hx2.symm
theorem St.nx_iff (p:Pre U rel) (s:St U rel Ls W told) {e:En α} (he:e∈W):isNx e told=true↔∀ x∈e.1,x∈told\/x∈e.2:=by
  obtain ⟨t,ht,e1,e2,te,own⟩:=s.own p he;have hE1:e.1=U.filter (rel t):=e1;have key:(e.1.filter λ x=> !decide (x∈told))=U.filter λ x=>(!decide (x∈told)&&rel t x):=by rw [hE1,List.filter_filter]
  have key2:e.2=U.filter λ x=>decide (R U rel x=e.1):=by rw [e2,e1];rfl
  have imp:∀ x∈U,decide (R U rel x=e.1)=true->(!decide (x∈told)&&rel t x)=true:=λ x hx h=>by
    have hx2:x∈e.2:=by rw [key2];exact List.mem_filter.mpr ⟨hx,h⟩
    obtain ⟨_,h1,h2⟩:=own x hx2;rw [e1] at h1;rw [decide_eq_false h2,(mem_R.mp h1).2];rfl
  have sp:=LO e.1 λ x=>decide (x∈told);unfold isNx;rw [decide_eq_true_iff];constructor
  · intro h x hx;by_cases z:x∈told
    · exact .inl z
    · have l1:(U.filter λ x=>decide (R U rel x=e.1)).length=(U.filter λ x=>(!decide (x∈told)&&rel t x)).length:=by rw [<-key, <-key2];omega
      rw [e1] at hx;obtain ⟨hx1,hx2⟩:=mem_R.mp hx;refine .inr ?_;rw [key2];exact List.mem_filter.mpr ⟨hx1,DS imp l1 x hx1 (by rw [decide_eq_false z,hx2];rfl)⟩
  · intro h;have e3:(e.1.filter λ x=> !decide (x∈told))=e.2:=by
      rw [key,key2];refine List.filter_congr λ x hx=> ?_;rw [Bool.eq_iff_iff];refine ⟨λ q=> ?_,imp x hx⟩;simp only [Bool.and_eq_true,Bool.not_eq_true',decide_eq_false_iff_not] at q;rcases h x (by rw [e1];exact mem_R.mpr ⟨hx,q.2⟩) with z | z
      · exact absurd z q.1
      · rw [key2] at z;exact (List.mem_filter.mp z).2
    rw [e3] at sp;exact sp
theorem St.next (p:Pre U rel) (s:St U rel Ls W told) (h:W≠[]):∃ e∈W,isNx e told=true:=by
  have:∀ n,∀ e∈W,e.1.length<=n->∃ e∈W,isNx e told=true:=by
    intro n
    induction n with
    | zero=>
      intro e he hl;obtain ⟨t,_,_,_,te,own⟩:=s.own p he;have:=(own t te).2.1;rw [List.eq_nil_of_length_eq_zero (Nat.le_zero.mp hl)] at this;cases this
    | succ n ih=>
      intro e he hl;by_cases hx:∀ x∈e.1,x∈told\/x∈e.2
      · exact ⟨e,he,(s.nx_iff p he).mpr hx⟩
      · obtain ⟨t,ht,e1,e2,te,own⟩:=s.own p he;obtain ⟨x,hx⟩:=Classical.not_forall.mp hx;obtain ⟨hx1,hx⟩:=Classical.not_imp.mp hx;have hx2:x∉told:=λ z=>hx (.inl z);have hx3:x∉e.2:=λ z=>hx (.inr z);rw [e1] at hx1;obtain ⟨xU,xr⟩:=mem_R.mp hx1;obtain ⟨e',he',e1'⟩:=(s.cov x xU).resolve_right hx2;have sub:∀ y∈U,rel x y=true->rel t y=true:=λ y hy h=>p.tr t ht x xU y hy xr h;have le:(R U rel x).length<=(R U rel t).length:=GW sub;have ne:(R U rel x).length≠(R U rel t).length:=λ z=>by
          have back:=DS sub z;have:R U rel x=R U rel t:=(R_eq p xU ht).mpr ⟨back t ht (p.rf t ht),xr⟩;exact hx3 (by rw [e2];exact mem_grp.mpr ⟨xU,this⟩)
        exact ih e' he' (by rw [e1'];rw [e1] at hl;omega)
  obtain ⟨e,he⟩:=List.exists_mem_of_ne_nil W h;exact this _ e he (Nat.le_refl _)
theorem HH {β γ:Type} (f:β->γ) (l:List β) (i:Nat):(l.eraseIdx i).map f=(l.map f).eraseIdx i:=by
  induction l generalizing i with
  | nil=>rfl
  | cons a l ih=>
    cases i with
    | zero=>rfl
    | succ i=>simp [ih]
theorem LQ {β:Type} {l:List β} {i:Nat} {e x:β} (h:l[i]?=some e) (hx:x∈l):x=e\/x∈l.eraseIdx i:=by
  induction l generalizing i with
  | nil=>cases hx
  | cons a l ih=>
    cases i with
    | zero=>
      cases h;rcases List.mem_cons.mp hx with z | z
      · exact .inl z
      · exact .inr z
    | succ i=>
      rcases List.mem_cons.mp hx with z | z
      · exact .inr (by rw [z];exact List.mem_cons_self ..)
      · rcases ih h z with y | y
        · exact .inl y
        · exact .inr (List.mem_cons_of_mem _ y)
theorem Ja {β:Type} {l:List β} {i:Nat} {e:β} (nd:l.Nodup) (h:l[i]?=some e):e∉l.eraseIdx i/\(l.eraseIdx i).Nodup:=by
  induction l generalizing i with
  | nil=>cases h
  | cons a l ih=>
    obtain ⟨n1,n2⟩:=List.nodup_cons.mp nd;cases i with
    | zero=>
      cases h;exact ⟨n1,n2⟩
    | succ i=>
      obtain ⟨m1,m2⟩:=ih n2 h;refine ⟨λ z=> ?_,List.nodup_cons.mpr ⟨λ z=>n1 (List.mem_of_mem_eraseIdx z),m2⟩⟩;rcases List.mem_cons.mp z with y | y
      · rw [y] at h;exact n1 (List.mem_of_getElem? h)
      · exact m1 y
theorem St.step (p:Pre U rel) (ndU:U.Nodup) (s:St U rel Ls W told) {e:En α} {i:Nat} (hi:W[i]?=some e) (hn:isNx e told=true):St U rel (Ls++[e.2]) (W.eraseIdx i) (told++e.2):=by
  have he:=List.mem_of_getElem? hi;obtain ⟨t,ht,e1,e2,te,own⟩:=s.own p he;have nx:=(s.nx_iff p he).mp hn;have hk:(W.map (·.1))[i]?=some e.1:=by rw [List.getElem?_map,hi];rfl
  obtain ⟨m1,m2⟩:=Ja s.wn hk;have fromT:∀ u∈told,∃ (j:Nat) (l':List α),j<Ls.length/\Ls[j]?=some l'/\u∈l':=λ u hu=>by
    rw [s.fl] at hu;obtain ⟨l',h1,h2⟩:=List.mem_flatten.mp hu;obtain ⟨j,hj,rfl⟩:=List.getElem_of_mem h1;exact ⟨j,_,hj,List.getElem?_eq_getElem hj,h2⟩
  refine ⟨by rw [List.flatten_append, <-s.fl];simp,λ f hf=>s.wk f (List.mem_of_mem_eraseIdx hf),by rw [HH];exact m2,λ x hx=> ?_,λ x hx=> ?_,λ l hl=> ?_,λ j l x hj hx u hu=> ?_,?_⟩
  · rcases s.cov x hx with ⟨f,hf,ef⟩ | z
    · rcases LQ hi hf with y | y
      · refine .inr (List.mem_append_right _ ?_);rw [e2, <-e1, <-y,ef];exact mem_grp.mpr ⟨hx,rfl⟩
      · exact .inl ⟨f,y,ef⟩
    · exact .inr (List.mem_append_left _ z)
  · rcases List.mem_append.mp hx with z | z
    · exact ⟨(s.dis x z).1,λ f hf=>(s.dis x z).2 f (List.mem_of_mem_eraseIdx hf)⟩
    · refine ⟨(own x z).1,λ f hf q=>m1 ?_⟩;rw [e2] at z;rw [e1, <-(mem_grp.mp z).2, <-q, <-HH];exact List.mem_map.mpr ⟨f,hf,rfl⟩
  · rcases List.mem_append.mp hl with z | z
    · exact s.lay l z
    · rw [List.mem_singleton.mp z];exact ⟨t,ht,e2⟩
  · by_cases hj':j<Ls.length
    · rw [List.getElem?_append_left hj'] at hj;obtain ⟨j2,l',h1,h2,h3⟩:=s.ord j l x hj hx u hu;exact ⟨j2,l',h1,by rw [List.getElem?_append_left (by omega)];exact h2,h3⟩
    · have ej:j=Ls.length:=by
        have:=(List.getElem?_eq_some_iff.mp hj).1;simp at this;omega
      subst ej;rw [List.getElem?_concat_length] at hj;cases hj;have hxu:u∈e.1:=by
        rw [e2] at hx;rw [e1, <-(mem_grp.mp hx).2];exact hu
      rcases nx u hxu with z | z
      · obtain ⟨j2,l',h1,h2,h3⟩:=fromT u z;exact ⟨j2,l',Nat.le_of_lt h1,by rw [List.getElem?_append_left h1];exact h2,h3⟩
      · exact ⟨Ls.length,e.2,Nat.le_refl _,List.getElem?_concat_length,z⟩
  · refine List.nodup_append.mpr ⟨s.nd,?_,λ a ha b hb q=>(own b hb).2.2 (q▸ha)⟩;rw [e2];exact ndU.filter _
def put (E:List (En α)) (k:List α) (t:α):List (En α):=if k∈E.map (·.1) then E.map (λ e=>if e.1=k then (e.1,e.2++[t]) else e) else E++[(k,[t])]
structure Gr (U:List α) (rel:α->α->Bool) (D:List α) (E:List (En α)):Prop where
  wk:∀ e∈E,e.2=D.filter (λ t=>decide (R U rel t=e.1))/\∃ t∈U,e.1=R U rel t
  wn:(E.map (·.1)).Nodup
  cov:∀ t∈D,∃ e∈E,e.1=R U rel t
theorem Gp (E:List (En α)) (k:List α) (t:α):(put E k t).map (·.1)=if k∈E.map (·.1) then E.map (·.1) else E.map (·.1)++[k]:=by
  unfold put;split
  · rw [List.map_map];refine List.map_congr_left λ e _=> ?_;show (if e.1=k then (e.1,e.2++[t]) else e).1=e.1;split <;> rfl
  · rw [List.map_append];rfl
theorem Gr.nil (U:List α) (rel:α->α->Bool):Gr U rel [] []:=⟨λ _ h=>by (cases h),List.nodup_nil,λ _ h=>by (cases h)⟩
theorem Gr.put {D:List α} {E:List (En α)} {t:α} (g:Gr U rel D E) (ht:t∈U):Gr U rel (D++[t]) (put E (R U rel t) t) where
  wk:=λ e he=>by
    have fa:∀ k:List α,(D++[t]).filter (λ u=>decide (R U rel u=k))=D.filter (λ u=>decide (R U rel u=k))++(if R U rel t=k then [t] else []):=λ k=>by
      rw [List.filter_append];congr 1;by_cases z:R U rel t=k
      · rw [if_pos z,List.filter_cons,if_pos (decide_eq_true z)];rfl
      · rw [if_neg z,List.filter_cons,if_neg (by simpa using z)];rfl
    unfold ML.put at he;split at he
    · obtain ⟨f,hf,rfl⟩:=List.mem_map.mp he;obtain ⟨w1,w2⟩:=g.wk f hf;by_cases z:f.1=R U rel t
      · rw [if_pos z];refine ⟨?_,w2⟩;show f.2++[t]=_;rw [fa,if_pos z.symm, <-w1]
      · rw [if_neg z];refine ⟨?_,w2⟩;rw [fa,if_neg (λ q=>z q.symm),List.append_nil];exact w1
    · rename_i hk
      rcases List.mem_append.mp he with z | z
      · obtain ⟨w1,w2⟩:=g.wk e z;refine ⟨?_,w2⟩;rw [fa,if_neg (λ q=>hk (List.mem_map.mpr ⟨e,z,q.symm⟩)),List.append_nil];exact w1
      · rw [List.mem_singleton.mp z];refine ⟨?_,t,ht,rfl⟩;show [t]=_;rw [fa,if_pos rfl];have:D.filter (λ u=>decide (R U rel u=R U rel t))=[]:=List.filter_eq_nil_iff.mpr λ u hu q=>by
          obtain ⟨f,hf,ef⟩:=g.cov u hu;exact hk (List.mem_map.mpr ⟨f,hf,by rw [ef];exact of_decide_eq_true q⟩)
        rw [this];rfl
  wn:=by
    rw [Gp];split
    · exact g.wn
    · rename_i hk
      refine List.nodup_append.mpr ⟨g.wn,by simp,λ a ha b hb q=>hk ?_⟩;rw [List.mem_singleton.mp hb] at q;rw [<-q];exact ha
  cov:=λ u hu=>by
    have key:∀ k:List α,(k∈E.map (·.1)\/k=R U rel t)->∃ e∈ML.put E (R U rel t) t,e.1=k:=λ k hk=>by
      have:k∈(ML.put E (R U rel t) t).map (·.1):=by
        rw [Gp];split
        · rename_i h
          rcases hk with z | z
          · exact z
          · rw [z];exact h
        · rcases hk with z | z
          · exact List.mem_append_left _ z
          · exact List.mem_append_right _ (List.mem_singleton.mpr z)
      obtain ⟨e,he,ee⟩:=List.mem_map.mp this;exact ⟨e,he,ee⟩
    rcases List.mem_append.mp hu with z | z
    · obtain ⟨e,he,ee⟩:=g.cov u z;exact key _ (.inl (List.mem_map.mpr ⟨e,he,ee⟩))
    · rw [List.mem_singleton.mp z];exact key _ (.inr rfl)
theorem Gr.st {E:List (En α)} (g:Gr U rel U E):St U rel [] E []:=
  ⟨rfl,λ e he=>g.wk e he,g.wn,λ t ht=> .inl (g.cov t ht),λ _ h=>by (cases h),λ _ h=>by (cases h),λ i l t h=>by (simp at h),List.nodup_nil⟩
end
end ML
namespace ML
variable {α:Type} [DecidableEq α] {U:List α} {rel:α->α->Bool}
theorem uniq:∀ {Ls:List (List α)},Ls.flatten.Nodup->∀ (i j:Nat) (l m:List α) (t:α),Ls[i]?=some l->Ls[j]?=some m->t∈l->t∈m->i=j
  | [],_,i,_,_,_,_,h,_,_,_=>by simp at h
  | a::Ls,nd,i,j,l,m,t,h1,h2,t1,t2=>by
    rw [List.flatten_cons,List.nodup_append] at nd;have no:∀ (k:Nat) (x:List α),Ls[k]?=some x->t∈x->t∈a->False:=λ k x hk hx ha=>nd.2.2 t ha t (List.mem_flatten.mpr ⟨x,List.mem_of_getElem? hk,hx⟩) rfl;cases i with
    | zero=>
      cases h1;cases j with
      | zero=>rfl
      | succ j=>exact (no j m h2 t2 t1).elim
    | succ i=>
      cases j with
      | zero=>
        cases h2;exact (no i l h1 t1 t2).elim
      | succ j=>rw [uniq nd.2.1 i j l m t h1 h2 t1 t2]
def lvl (Ls:List (List α)) (t:α):Nat:=Ls.findIdx λ l=>decide (t∈l)
theorem lvl_at {Ls:List (List α)} (nd:Ls.flatten.Nodup) {i:Nat} {l:List α} {t:α} (h:Ls[i]?=some l) (ht:t∈l):lvl Ls t=i:=by
  have hx:∃ x∈Ls,decide (t∈x)=true:=⟨l,List.mem_of_getElem? h,decide_eq_true ht⟩;have hl:Ls.findIdx (λ l=>decide (t∈l))<Ls.length:=List.findIdx_lt_length_of_exists hx;have hg:=List.findIdx_getElem (w:=hl);exact uniq nd _ _ _ _ t (List.getElem?_eq_getElem hl) h (of_decide_eq_true hg) ht
section
variable {Ls:List (List α)} {told:List α}
theorem St.all_in (s:St U rel Ls [] told) {t:α} (ht:t∈U):∃ (i:Nat) (l:List α),Ls[i]?=some l/\t∈l:=by
  rcases s.cov t ht with ⟨e,he,_⟩ | z
  · cases he
  · rw [s.fl] at z;obtain ⟨l,h1,h2⟩:=List.mem_flatten.mp z;obtain ⟨i,hi⟩:=List.mem_iff_getElem?.mp h1;exact ⟨i,l,hi,h2⟩
theorem St.ndf (s:St U rel Ls [] told):Ls.flatten.Nodup:=s.fl▸s.nd
theorem St.grp_of (p:Pre U rel) (s:St U rel Ls [] told) {i:Nat} {l:List α} {t:α} (h:Ls[i]?=some l) (ht:t∈l):t∈U/\l=grp U rel (R U rel t):=by
  obtain ⟨x,hx,e⟩:=s.lay l (List.mem_of_getElem? h);rw [e] at ht;have:=mem_grp.mp ht;exact ⟨this.1,by rw [e,this.2]⟩
theorem St.lvl_eq (p:Pre U rel) (s:St U rel Ls [] told) {t u:α} (ht:t∈U) (hu:u∈U):lvl Ls t=lvl Ls u↔rel t u=true/\rel u t=true:=by
  obtain ⟨i,l,h1,h2⟩:=s.all_in ht;obtain ⟨j,m,h3,h4⟩:=s.all_in hu;rw [lvl_at s.ndf h1 h2,lvl_at s.ndf h3 h4, <-R_eq p ht hu];obtain ⟨_,e1⟩:=s.grp_of p h1 h2;obtain ⟨_,e2⟩:=s.grp_of p h3 h4;constructor
  · rintro rfl;rw [h1] at h3;cases h3;rw [e1] at h4;exact (mem_grp.mp h4).2.symm
  · intro e;refine uniq s.ndf i j l m u h1 h3 ?_ h4;rw [e1];exact mem_grp.mpr ⟨hu,e.symm⟩
theorem St.lvl_ord (s:St U rel Ls [] told) {t u:α} (ht:t∈U) (hu:u∈U) (h:rel t u=true):lvl Ls u<=lvl Ls t:=by
  obtain ⟨i,l,h1,h2⟩:=s.all_in ht;obtain ⟨j,m,hj,h3,h4⟩:=s.ord i l t h1 h2 u (mem_R.mpr ⟨hu,h⟩);rw [lvl_at s.ndf h1 h2,lvl_at s.ndf h3 h4];exact hj
theorem St.perm (p:Pre U rel) (nd:U.Nodup) (s:St U rel Ls [] told):Ls.flatten.Perm U:=by
  refine (List.perm_ext_iff_of_nodup s.ndf nd).mpr λ t=> ?_;constructor
  · intro h;rw [<-s.fl] at h;exact (s.dis t h).1
  · intro h;obtain ⟨i,l,h1,h2⟩:=s.all_in h;exact List.mem_flatten.mpr ⟨l,List.mem_of_getElem? h1,h2⟩
theorem St.ne (p:Pre U rel) (s:St U rel Ls [] told) {i:Nat} {l:List α} (h:Ls[i]?=some l):∃ t∈U,t∈l:=by
  obtain ⟨x,hx,e⟩:=s.lay l (List.mem_of_getElem? h);exact ⟨x,hx,by rw [e];exact mem_grp.mpr ⟨hx,rfl⟩⟩
theorem St.one (p:Pre U rel) (s:St U rel Ls [] told) (hU:U≠[]):Ls.length=1↔∀ t∈U,∀ u∈U,rel t u=true:=by
  constructor
  · intro h t ht u hu;refine ((s.lvl_eq p ht hu).mp ?_).1;obtain ⟨i,l,h1,h2⟩:=s.all_in ht;obtain ⟨j,m,h3,h4⟩:=s.all_in hu;have:=(List.getElem?_eq_some_iff.mp h1).1;have:=(List.getElem?_eq_some_iff.mp h3).1;rw [lvl_at s.ndf h1 h2,lvl_at s.ndf h3 h4];omega
  · intro h;obtain ⟨t,ht⟩:=List.exists_mem_of_ne_nil U hU;obtain ⟨i,l,h1,h2⟩:=s.all_in ht;have hi:=(List.getElem?_eq_some_iff.mp h1).1;rcases Nat.lt_or_ge 1 Ls.length with z | z
    · obtain ⟨a,ha,ha2⟩:=s.ne p (List.getElem?_eq_getElem (show 0<Ls.length by omega));obtain ⟨b,hb,hb2⟩:=s.ne p (List.getElem?_eq_getElem z);have e:=(s.lvl_eq p ha hb).mpr ⟨h a ha b hb,h b hb a ha⟩;rw [lvl_at s.ndf (List.getElem?_eq_getElem (show 0<Ls.length by omega)) ha2,lvl_at s.ndf (List.getElem?_eq_getElem z) hb2] at e;cases e
    · omega
end
end ML
namespace ML
section
variable {β:Type} [DecidableEq β]
def firsts (l:List β):List β:=l.foldl (λ acc k=>if k∈acc then acc else acc++[k]) []
theorem firsts_snoc (l:List β) (k:β):firsts (l++[k])=if k∈firsts l then firsts l else firsts l++[k]:=by
  unfold firsts;rw [List.foldl_append];rfl
theorem firsts_mem (l:List β) (k:β):k∈firsts l↔k∈l:=by
  induction l using MM.snoc_ind with
  | h0=>exact Iff.rfl
  | h1 l a ih=>
    rw [firsts_snoc,List.mem_append,List.mem_singleton, <-ih];by_cases c:a∈firsts l
    · rw [if_pos c];exact ⟨.inl,λ h=>h.elim id λ z=>z▸c⟩
    · rw [if_neg c,List.mem_append,List.mem_singleton]
theorem firsts_nd (l:List β):(firsts l).Nodup:=by
  induction l using MM.snoc_ind with
  | h0=>exact List.nodup_nil
  | h1 l a ih=>
    rw [firsts_snoc];by_cases c:a∈firsts l
    · rw [if_pos c];exact ih
    · rw [if_neg c];refine List.nodup_append.mpr ⟨ih,by simp,λ x hx y hy q=>c ?_⟩;rw [<-List.mem_singleton.mp hy, <-q];exact hx
theorem EI:∀ {l:List β} {i:Nat} {e:β},l.Nodup->l[i]?=some e->l.eraseIdx i=l.filter λ x=>decide (x≠e)
  | [],i,e,_,h=>by simp at h
  | a::l,0,e,nd,h=>by
    cases h;obtain ⟨n1,n2⟩:=List.nodup_cons.mp nd;rw [List.eraseIdx_cons_zero,List.filter_cons,if_neg (by simp)];symm;rw [List.filter_eq_self];intro x hx;exact decide_eq_true λ z=>n1 (z▸hx)
  | a::l,i+1,e,nd,h=>by
    obtain ⟨n1,n2⟩:=List.nodup_cons.mp nd;have h:l[i]?=some e:=h;have ne:a≠e:=λ z=>n1 (z▸List.mem_of_getElem? h);rw [List.eraseIdx_cons_succ,List.filter_cons,if_pos (decide_eq_true ne),EI n2 h]
end
section
variable {α:Type} [DecidableEq α] {U:List α} {rel:α->α->Bool}
def parts (U:List α) (rel:α->α->Bool):List (En α):=(firsts (U.map (R U rel))).map λ k=>(k,grp U rel k)
theorem Gr.parts {E:List (En α)} (g:Gr U rel U E) (hk:E.map (·.1)=firsts (U.map (R U rel))):E=parts U rel:=by
  unfold ML.parts;rw [<-hk,List.map_map];have:E.map id=E.map ((λ k=>(k,grp U rel k))∘λ x=>x.1):=List.map_congr_left λ e he=>by
    show e=(e.1,grp U rel e.1);have:=(g.wk e he).1;exact Prod.ext rfl this
  rwa [List.map_id] at this
def nt (told:List α) (e:En α):Bool:=decide (∀ x∈e.2,x∉told)
def nx (told:List α) (e:En α):Bool:=decide (∀ x∈e.1,x∈told\/x∈e.2)
def rdy (told:List α) (e:En α):Bool:=nt told e&&nx told e
structure Due (U:List α) (rel:α->α->Bool) (Ls:List (List α)):Prop where
  len:Ls.length=(parts U rel).length
  at_:∀ (i:Nat) (l:List α),Ls[i]?=some l->∃ e,(parts U rel).find? (rdy (Ls.take i).flatten)=some e/\l=e.2
theorem Due.uniq {Ls Ms:List (List α)} (a:Due U rel Ls) (b:Due U rel Ms):Ls=Ms:=by
  have hl:Ls.length=Ms.length:=a.len.trans b.len.symm;have key:∀ i,Ls.take i=Ms.take i:=by
    intro i
    induction i with
    | zero=>rfl
    | succ i ih=>
      rw [List.take_add_one,List.take_add_one,ih];congr 1;rcases Nat.lt_or_ge i Ls.length with z | z
      · obtain ⟨e,h1,h2⟩:=a.at_ i _ (List.getElem?_eq_getElem z);obtain ⟨f,h3,h4⟩:=b.at_ i _ (List.getElem?_eq_getElem (hl▸z));rw [ih,h3] at h1;cases h1;rw [List.getElem?_eq_getElem z,List.getElem?_eq_getElem (hl▸z),h2,h4]
      · rw [List.getElem?_eq_none z,List.getElem?_eq_none (hl▸z)]
  have:=key Ls.length
  rwa [List.take_length,hl,List.take_length] at this
structure Sq (U:List α) (rel:α->α->Bool) (Ls:List (List α)) (W:List (En α)) (told:List α):Prop where
  st:St U rel Ls W told
  wq:W=(parts U rel).filter (nt told)
  len:Ls.length+W.length=(parts U rel).length
  at_:∀ (i:Nat) (l:List α),Ls[i]?=some l->∃ e,(parts U rel).find? (rdy (Ls.take i).flatten)=some e/\l=e.2
theorem Sq.zero (s:St U rel [] (parts U rel) []):Sq U rel [] (parts U rel) [] where
  st:=s
  wq:=by
    symm;rw [List.filter_eq_self];intro e _;exact decide_eq_true λ x _ h=>by cases h
  len:=by simp
  at_:=λ i l h=>by simp at h
theorem parts_nd:(parts U rel).Nodup:=by
  unfold parts;refine List.Pairwise.map _ (λ a b h z=>h ?_) (firsts_nd _);exact congrArg Prod.fst z
theorem parts_of {e:En α} (h:e∈parts U rel):e.2=grp U rel e.1/\∃ t∈U,e.1=R U rel t:=by
  unfold parts at h;obtain ⟨k,hk,rfl⟩:=List.mem_map.mp h;obtain ⟨t,ht,rfl⟩:=List.mem_map.mp ((firsts_mem _ _).mp hk);exact ⟨rfl,t,ht,rfl⟩
theorem Sq.step {Ls:List (List α)} {W:List (En α)} {told:List α} (p:Pre U rel) (ndU:U.Nodup) (s:Sq U rel Ls W told) {e:En α} {i:Nat} (hi:W[i]?=some e) (hn:isNx e told=true) (mn:∀ (j:Nat) (e':En α),j<i->W[j]?=some e'->isNx e' told=false):Sq U rel (Ls++[e.2]) (W.eraseIdx i) (told++e.2):=by
  have hiW:=(List.getElem?_eq_some_iff.mp hi).1;have he:=List.mem_of_getElem? hi;have nxe:∀ f∈W,isNx f told=nx told f:=λ f hf=>by
    rw [Bool.eq_iff_iff,s.st.nx_iff p hf];unfold nx;rw [decide_eq_true_iff]
  have hfind:(parts U rel).find? (rdy told)=some e:=by
    have e1:(parts U rel).find? (rdy told)=W.find? (nx told):=by
      rw [s.wq,List.find?_filter];congr 1;funext a;unfold rdy;rw [Bool.decide_and,Bool.decide_eq_true,Bool.decide_eq_true]
    rw [e1,List.find?_eq_some_iff_getElem];refine ⟨by rw [<-nxe e he];exact hn,i,hiW,(List.getElem?_eq_some_iff.mp hi).2,λ j hj=> ?_⟩;have hjW:j<W.length:=by omega
    have:=mn j W[j] hj (List.getElem?_eq_getElem hjW);rw [nxe _ (List.getElem_mem hjW)] at this;rw [this];rfl
  have hW:W.Nodup:=by rw [s.wq];exact parts_nd.filter _
  have hep:e∈parts U rel:=by rw [s.wq] at he;exact (List.mem_filter.mp he).1
  refine ⟨s.st.step p ndU hi hn,?_,?_,λ j l hj=> ?_⟩
  · rw [EI hW hi]
    conv=>lhs;rw [s.wq]
    rw [List.filter_filter];refine List.filter_congr λ f hf=> ?_;obtain ⟨f2,_,_,f1⟩:=parts_of hf;obtain ⟨e2,t,ht,e1⟩:=parts_of hep;by_cases c:f=e
    · subst c;have h1:nt (told++f.2) f=false:=decide_eq_false λ z=>by
        have:t∈f.2:=by rw [e2,e1];exact mem_grp.mpr ⟨ht,rfl⟩
        exact z t this (List.mem_append_right _ this)
      rw [h1];simp
    · have h1:nt (told++e.2) f=nt told f:=by
        unfold nt;rw [decide_eq_decide];refine ⟨λ z x hx q=>z x hx (List.mem_append_left _ q),λ z x hx q=> ?_⟩;rcases List.mem_append.mp q with q | q
        · exact z x hx q
        · rw [f2] at hx;rw [e2] at q;have k1:=(mem_grp.mp hx).2;have k2:=(mem_grp.mp q).2;exact c (Prod.ext (k1.symm.trans k2) (by rw [f2,e2, <-k1, <-k2]))
      rw [h1,decide_eq_true c,Bool.true_and]
  · have:=s.len;have h2:=List.length_eraseIdx_of_lt hiW;rw [List.length_append,List.length_singleton];omega
  · rcases Nat.lt_or_ge j Ls.length with z | z
    · rw [List.getElem?_append_left z] at hj;rw [List.take_append_of_le_length (Nat.le_of_lt z)];exact s.at_ j l hj
    · have ej:j=Ls.length:=by
        have:=(List.getElem?_eq_some_iff.mp hj).1;simp at this;omega
      subst ej;rw [List.getElem?_concat_length] at hj;cases hj;rw [List.take_left, <-s.st.fl];exact ⟨e,hfind,rfl⟩
structure Gk (U:List α) (rel:α->α->Bool) (D:List α) (E:List (En α)):Prop where
  gr:Gr U rel D E
  ks:E.map (·.1)=firsts (D.map (R U rel))
section
variable {D:List α} {E:List (En α)}
theorem Gk.nil (U:List α) (rel:α->α->Bool):Gk U rel [] []:=⟨Gr.nil U rel,rfl⟩
theorem Gk.put {t:α} (g:Gk U rel D E) (ht:t∈U):Gk U rel (D++[t]) (put E (R U rel t) t):=⟨g.gr.put ht,by
  rw [Gp,g.ks,List.map_append];show _=firsts (D.map (R U rel)++[R U rel t]);rw [firsts_snoc];by_cases c:R U rel t∈firsts (D.map (R U rel))
  · rw [if_pos c,if_pos c]
  · rw [if_neg c,if_neg c]⟩
theorem Gk.wn (g:Gk U rel D E):(E.map (·.1)).Nodup:=g.gr.wn
theorem Gk.wk (g:Gk U rel D E):∀ e∈E,e.2=D.filter (λ t=>decide (R U rel t=e.1))/\∃ t∈U,e.1=R U rel t:=g.gr.wk
theorem Gk.sq (g:Gk U rel U E):Sq U rel [] E []:=by
  have st:=g.gr.st;have e:=g.gr.parts g.ks;rw [e] at st ⊢;exact Sq.zero st
end
theorem Sq.due {Ls:List (List α)} {told:List α} (s:Sq U rel Ls [] told):Due U rel Ls:=⟨by have:=s.len;simpa using this,s.at_⟩
end
end ML
namespace MM
theorem sum_filt (f:Nat->Bool) (w:Nat):(((List.range w).filter f).map λ i=>2 ^ i).sum=ofB f w:=by
  induction w with
  | zero=>rfl
  | succ w ih=>
    rw [List.range_succ,List.filter_append,List.map_append,List.sum_append,ih];show ofB f w+_=ofB f w+(f w).toNat*2 ^ w;cases h:f w with
    | true=>rw [List.filter_cons,if_pos h];simp
    | false=>rw [List.filter_cons,if_neg (by rw [h];decide)];simp
inductive Rc (M:List Nat) (k:Nat):Nat->Prop where
  | here:Rc M k k
  | step {i j:Nat} (h:Rc M k i) (m:(M.getD i 0).testBit j=true):Rc M k j
theorem Rc.trans {M:List Nat} {a b c:Nat} (h:Rc M a b) (k:Rc M b c):Rc M a c:=by
  induction k with
  | here=>exact h
  | step _ m ih=>exact .step ih m
theorem Rc.rev {A B:List Nat} {k j:Nat} (s:∀ i j,(A.getD i 0).testBit j=true->(B.getD j 0).testBit i=true) (h:Rc A k j):Rc B j k:=by
  induction h with
  | here=>exact .here
  | step _ m ih=>exact (Rc.step .here (s _ _ m)).trans ih
def cnt (f w:Nat):Nat:=((List.range w).filter λ j=> !f.testBit j).length
theorem GM {α:Type} {p q r:α->Bool} (h:∀ x,p x=(q x||r x)) (d:∀ x,q x=true->r x=false):∀ l:List α,(l.filter q).length+(l.filter r).length=(l.filter p).length
  | []=>rfl
  | a::l=>by
    have ih:=GM h d l;have ha:=h a;have da:=d a;rw [List.filter_cons,List.filter_cons,List.filter_cons,ha];cases hq:q a with
    | true=>
      rw [da hq];simp;omega
    | false=>
      cases hr:r a with
      | true=>
        simp;omega
      | false=>simpa using ih
theorem cnt_or {f g w:Nat} (d:∀ j,g.testBit j=true->f.testBit j=false):cnt (f ||| g) w+((List.range w).filter g.testBit).length=cnt f w:=by
  unfold cnt;refine GM (λ j=> ?_) (λ j h=> ?_) _
  · rw [Nat.testBit_or];cases hg:g.testBit j with
    | true=>rw [d j hg];rfl
    | false=>cases f.testBit j <;> rfl
  · rw [Nat.testBit_or] at h;cases hg:g.testBit j with
    | true=>rw [hg] at h;simp at h
    | false=>rfl
theorem fresh_bit (m f j:Nat):(m ^^^ (m &&& f)).testBit j=(m.testBit j&& !f.testBit j):=by
  rw [Nat.testBit_xor,Nat.testBit_and];cases m.testBit j <;> cases f.testBit j <;> rfl
structure Fnd (M:List Nat) (k N f:Nat) (E:List Nat):Prop where
  lt:f<2 ^ N
  own:f.testBit k=true
  ed:∀ j∈E,j<N/\f.testBit j=true
  tr:∀ j,f.testBit j=true->Rc M k j
  cl:∀ i,f.testBit i=true->i∉E->∀ j,(M.getD i 0).testBit j=true->f.testBit j=true
theorem FP (k j:Nat):(2 ^ k).testBit j=decide (k=j):=Nat.testBit_two_pow ..
theorem Fnd.zero {M:List Nat} {k N:Nat} (hk:k<N):Fnd M k N (2 ^ k) [k] where
  lt:=Nat.pow_lt_pow_right (by decide) hk
  own:=by rw [FP];simp
  ed:=λ j hj=>by
    rw [List.mem_singleton.mp hj,FP];exact ⟨hk,by simp⟩
  tr:=λ j h=>by
    rw [FP] at h;rw [<-of_decide_eq_true h];exact .here
  cl:=λ i h n=>by
    rw [FP] at h;exact absurd (List.mem_singleton.mpr (of_decide_eq_true h).symm) n
theorem Qu {f N j:Nat} (h:f<2 ^ N) (b:f.testBit j=true):j<N:=by
  rcases Nat.lt_or_ge j N with z | z
  · exact z
  · have:f<2 ^ j:=Nat.lt_of_lt_of_le h (Nat.pow_le_pow_right (by decide) z);rw [Nat.testBit_lt_two_pow this] at b;cases b
theorem Fnd.step {M:List Nat} {k N f e:Nat} {E:List Nat} (hM:M.getD e 0<2 ^ N) (h:Fnd M k N f (E++[e])):Fnd M k N (f ||| (M.getD e 0 ^^^ (M.getD e 0 &&& f))) (E++(List.range N).filter (M.getD e 0 ^^^ (M.getD e 0 &&& f)).testBit):=by
  have he:=h.ed e (List.mem_append_right _ (List.mem_singleton.mpr rfl));have hg:∀ j,(M.getD e 0 ^^^ (M.getD e 0 &&& f)).testBit j=((M.getD e 0).testBit j&& !f.testBit j):=fresh_bit _ _;have hl:(M.getD e 0 ^^^ (M.getD e 0 &&& f))<2 ^ N:=Nat.xor_lt_two_pow hM (Nat.and_lt_two_pow _ h.lt);generalize M.getD e 0 ^^^ (M.getD e 0 &&& f)=g at hg hl ⊢;refine ⟨Nat.or_lt_two_pow h.lt hl,?_,λ j hj=> ?_,λ j hj=> ?_,λ i hi n j hj=> ?_⟩
  · rw [Nat.testBit_or,h.own];rfl
  · rcases List.mem_append.mp hj with z | z
    · have:=h.ed j (List.mem_append_left _ z);exact ⟨this.1,by rw [Nat.testBit_or,this.2];rfl⟩
    · have:=List.mem_filter.mp z;exact ⟨List.mem_range.mp this.1,by rw [Nat.testBit_or,this.2,Bool.or_true]⟩
  · rw [Nat.testBit_or,Bool.or_eq_true] at hj;rcases hj with z | z
    · exact h.tr j z
    · rw [hg,Bool.and_eq_true] at z;exact .step (h.tr e he.2) z.1
  · rw [List.mem_append,not_or] at n;rw [Nat.testBit_or,Bool.or_eq_true] at hi ⊢;rcases hi with z | z
    · by_cases c:i=e
      · subst c;rw [hg,hj];cases f.testBit j
        · exact .inr rfl
        · exact .inl rfl
      · exact .inl (h.cl i z (λ q=>by
          rcases List.mem_append.mp q with w | w
          · exact n.1 w
          · exact c (List.mem_singleton.mp w)) j hj)
    · exact absurd (List.mem_filter.mpr ⟨List.mem_range.mpr (Qu hl z),z⟩) n.2
theorem Fnd.iff {M:List Nat} {k N f:Nat} (h:Fnd M k N f []) (j:Nat):f.testBit j=true↔Rc M k j:=by
  refine ⟨h.tr j,λ q=> ?_⟩
  induction q with
  | here=>exact h.own
  | step _ m ih=>exact h.cl _ ih (by simp) _ m
theorem sub_and {a b:Nat}:a - (a &&& b)=a ^^^ (a &&& b):=by
  have h:=xor_eq a (a &&& b);have h2:a &&& (a &&& b)=a &&& b:=by rw [<-Nat.and_assoc,Nat.and_self]
  have h3:a ||| (a &&& b)=a:=Nat.eq_of_testBit_eq λ i=>by
    rw [Nat.testBit_or,Nat.testBit_and];cases a.testBit i <;> rfl
  rw [h2,h3] at h;omega
theorem zero_iff {m:Nat}:m=0↔∀ j,m.testBit j=false:=⟨λ h j=>by rw [h];simp,λ h=>Nat.eq_of_testBit_eq λ j=>by rw [h j];simp⟩
end MM
open L2
local macro_rules | `(tactic| walk_at "t") => `(tactic| first | (with_reducible first | refine Q1 ?_ | refine QN ?_ | refine Om ?_ | refine Wz ?_ | refine Sg ?_ | refine SO ?_ | refine QK ?_ | refine Vl ?_ | refine Qq ?_ | refine Rs ?_ | refine QX ?_ | refine Q3 ?_ | refine RX ?_ | refine Ra ?_ | refine Pe ?_ | refine We ?_ | refine VT ?_ | refine Tm ?_ | refine QF ?_ | refine Oh ?_ | refine O4 ?_ | refine Vp ?_ | refine Rl ?_ | refine Oc ?_ | refine RF ?_ | refine Pd ?_ | refine Rj ?_ | refine Rz ?_ | refine T8 ?_ | refine Of ?_ | refine V2 ?_ | refine OE ?_ | refine LV ?_ | refine Rn ?_ | refine Kb ?_ | refine J6 ?_ | refine O1 ?_ | refine Pt ?_ | refine NT ?_ | refine Oq ?_ | refine Q4 ?_ | refine Li ?_ | refine OH ?_ | refine Qs ?_ | refine Vo ?_ | refine VE ?_ | refine Uf ?_ | refine Ou ?_ | refine Rk ?_ | refine TD ?_ | refine Ta ?_ | refine Wg ?_ | refine Vq ?_ | refine T3 ?_ | refine Ua ?_ | refine SZ ?_ | refine VF ?_ | refine Mq ?_ | refine Pj ?_ | refine Rm ?_ | refine QL ?_ | refine OI ?_ | refine OS ?_ | refine Nj ?_ | refine J7 ?_ | refine N7 ?_ | refine Qx ?_ | refine Qo ?_ | refine Pi ?_ | refine Pg ?_) | ((with_reducible apply QC); exact rfl) | (with_reducible refine Qv (by simp only [List.length_cons, List.length_nil]; decide) ?_))
local macro_rules | `(tactic| walk_at "s") => `(tactic| first | walk_at "t" | (with_reducible refine Qy ?_))
local macro_rules | `(tactic| walk_at "v") => `(tactic| repeat walk_at "t")
local macro_rules | `(tactic| walk_at "w") => `(tactic| repeat walk_at "s")
local macro_rules | `(tactic| wrow_has $H $n) => do let t := ((n.getId.toString.drop 1).toString); let i := λ (a : String) => Lean.mkIdent (Lean.Name.mkSimple (a ++ t)); `(tactic| (generalize e : upd $H $(i "p") _ = $(i "H"); have $(i "s"):ident : Same $H $(i "H") := (by rw [<-e]; exact Aj $(i "n")); have $(i "g"):ident := (congrFun e $(i "p")).symm.trans Ae; clear e))
local macro_rules | `(tactic| row_lines $H $n) => do let t := ((n.getId.toString.drop 1).toString); let i := λ (a : String) => Lean.mkIdent (Lean.Name.mkSimple (a ++ t)); `(tactic| (intro $(i "p"):ident $(i "n"):ident; wrow_has $H $n))
local macro_rules | `(tactic| walk_at "x") => `(tactic| repeat first | walk_at "s" | (with_reducible refine An (by decide) ?_))
namespace K23
open PySem L2 PySem.Spec PyProof.Rows
seal L2.PE L2.PT L2.PW L2.PA L2.PS L2.PSs L2.PI L2.PG L2.PTs L2.PGs
section
variable {P:Program} {w:World} {K:PySem.W.Frag} {mg:Str->Option Value} {base:Heap}
structure Cs where
  Cloth:Addr
structure Txt (K:PySem.W.Frag) (mg:Str->Option Value) (c:Cs):Prop where
  own:Own mg ["isinstance","int","bool","list","tuple","dict","len","all","range","sum","zip","enumerate","min","max","sorted"]
  g_Cloth:mg "Cloth"=some (.ref c.Cloth)
  kd_Cloth:Kind K c.Cloth
  is_Cloth:PySem.W.kitOne K (.ref c.Cloth) (.ref c.Cloth)=some true
  na_Cloth_width:NoAttr K c.Cloth "width"
  na_Cloth_rows:NoAttr K c.Cloth "rows"
  k_MOST_ENDS:∃ t,mg "MOST_ENDS"=some (.int 60 t)
  k_MOST_PICKS:∃ t,mg "MOST_PICKS"=some (.int 60 t)
  k_END:∃ t,mg "END"=some (.str "end" t)
  k_PICK:∃ t,mg "PICK"=some (.str "pick" t)
def Ky (K:PySem.W.Frag):Sp:=λ vs H Q _=>∃ (a:Addr) (ns:List Int),vs=[.ref a]/\SqL K H a (ns.map V.int)/\ns.length<=63/\∀ H',Q (.bl true) H'
end
section
variable {P:Program} {w:World} {K:PySem.W.Frag} {mg:Str->Option Value} {base:Heap} {c:Cs}
def E5:Sp:=λ vs H Q _=>∃ n:Nat,vs=[.int n]/\1<=n/\n<=1000/\Q (.int ((2 ^ (n - 1):Nat):Int)) H
abbrev GI:Stmt:=top 2
theorem L4:FnScope ["number"] ["number"] (Ak GI):=⟨rfl,rfl,rfl,by decide +kernel,rfl,by decide +kernel,by decide +kernel⟩
theorem L0 {f:Addr} {fd:FuncData} (F:Fun K "bit_of" "bit_of" GI f fd) (T:Txt K mg c):FnOk P w K mg base CX0 1 f fd ["number"] E5:=by
  refine F.ok L4 (λ vs H Q E h=> ?_) (λ cdv A outer s H vs Q E hr h=> ?_)
  · obtain ⟨n,rfl,_⟩:=h;rfl
  · obtain ⟨n,rfl,h1,h2,q⟩:=h;refine ⟨_,(Ag (Ap (Af Be Ac (Af BD (pv 0) Ac)))),?_⟩;walk_at "w";refine An ⟨by omega,by omega,by decide⟩ ?_;rw [show ((n:Int) - 1).toNat=n - 1 by omega,Jy];exact q
def Gq (K:PySem.W.Frag):Sp:=λ vs H Q _=>∃ tp a,∃ ns:List Nat,vs=[.ref a]/\SqS tp K H a (ns.map nV)/\(∀ n∈ns,1<=n/\n<=1000)/\∀ H',Same H H'->Q (.int ((MM.mOf ns:Nat):Int)) H'
abbrev Fn:Stmt:=top 3
theorem sc_mask_of:FnScope ["numbers","mask","number"] ["numbers"] (Ak Fn):=⟨rfl,rfl,rfl,by decide +kernel,rfl,by decide +kernel,by decide +kernel⟩
theorem J4 {f:Addr} {fd:FuncData} (F:Fun K "mask_of" "mask_of" Fn f fd) (T:Txt K mg c) (c_bit_of:Ar P w K mg base "bit_of" 1 ["number"] E5):FnOk P w K mg base CX0 2 f fd ["numbers"] (Gq K):=by
  refine F.ok sc_mask_of (λ vs H Q E h=> ?_) (λ cdv A outer s H vs Q E hr h=> ?_)
  · obtain ⟨tp,a,ns,rfl,_⟩:=h;rfl
  · obtain ⟨tp,a,ns,rfl,sa,hn,q⟩:=h;refine ⟨_,(Ad (Ao (i:=1) sc_mask_of.nd rfl (Or.inl rfl) Ac)
      (Ad (A0 PassesOwn.never rfl (Pw (K:=K) (pv 0)) (As (i:=2) sc_mask_of.nd rfl (Or.inl rfl)) (Ag (N5 (i:=1) sc_mask_of.nd rfl (Or.inl rfl) (Ah c_bit_of hr (Aa (pv 2) Ab)) QJ)))
      (Ag (Ap (pv 1))))),?_⟩
    walk_at "w";refine ⟨tp,a,rfl,⟨_,sa⟩,ES (Kz sa) (λ i σ H3=>∃ x,σ=[some (.ref a),some (.int ((MM.mOf (ns.take i):Nat):Int)),x]/\Same H H3) ⟨_,rfl,Same.refl _⟩ (λ i σ H3 ⟨_,_,s⟩=>s) ?_ ?_⟩
    · rintro i σ H' H3 hi ⟨x,rfl,s'⟩ s3;have hi':i<ns.length:=by simpa using hi
      have hm:ns.getD i 0∈ns:=by rw [List.getD_eq_getElem?_getD,List.getElem?_eq_getElem hi'];exact List.getElem_mem hi'
      rw [BU hi];walk_at "w";refine Rr rfl ?_;walk_at "w";refine ⟨_,rfl,(hn _ hm).1,(hn _ hm).2,?_⟩;walk_at "w";rw [bO, <-MM.mOf_snoc, <-LR hi'];exact ⟨_,rfl,s'.trans s3⟩
    · rintro σ H3 ⟨x,rfl,s3⟩;walk_at "w";rw [List.length_map,List.take_length];exact q H3 s3
def Ex:Sp:=λ vs H Q _=>∃ n:Nat,vs=[.int n]/\n<=1000/\Q (.int ((2 ^ n - 1:Nat):Int)) H
abbrev E9:Stmt:=top 4
theorem JL:FnScope ["most"] ["most"] (Ak E9):=⟨rfl,rfl,rfl,by decide +kernel,rfl,by decide +kernel,by decide +kernel⟩
theorem JF {f:Addr} {fd:FuncData} (F:Fun K "mask_to" "mask_to" E9 f fd) (T:Txt K mg c):FnOk P w K mg base CX0 1 f fd ["most"] Ex:=by
  refine F.ok JL (λ vs H Q E h=> ?_) (λ cdv A outer s H vs Q E hr h=> ?_)
  · obtain ⟨n,rfl,_⟩:=h;rfl
  · obtain ⟨n,rfl,h1,q⟩:=h;refine ⟨_,(Ag (Ap (Af BD (Af Be Ac (pv 0)) Ac))),?_⟩;walk_at "w";refine An ⟨by omega,by omega,by decide⟩ ?_;walk_at "w";have hp:0<2 ^ n:=Nat.two_pow_pos n;rw [show ((n:Int)).toNat=n by omega,Jy,show ((2 ^ n:Nat):Int) - 1=((2 ^ n - 1:Nat):Int) by omega];exact q
def Cz:Sp:=λ vs H Q _=>∃ m n:Nat,vs=[.int m, .int n]/\1<=n/\n<=1000/\Q (.bl (m.testBit (n - 1))) H
theorem Pc (m i:Nat):(!decide (((m &&& 2 ^ i:Nat):Int)=0))=m.testBit i:=by
  have e:(m &&& 2 ^ i)=(m.testBit i).toNat*2 ^ i:=by
    refine Nat.eq_of_testBit_eq λ j=> ?_;rw [Nat.testBit_and,Nat.testBit_two_pow];by_cases h:i=j
    · subst h;cases hb:m.testBit i <;> simp
    · cases hb:m.testBit i <;> simp [h,Nat.testBit_two_pow]
  rw [e];have hp:0<2 ^ i:=Nat.two_pow_pos i;cases m.testBit i with
  | false=>simp
  | true=>
    rw [decide_eq_false (by rw [Bool.toNat_true];omega)];rfl
abbrev Db:Stmt:=top 5
theorem G0:FnScope ["mask","number"] ["mask","number"] (Ak Db):=⟨rfl,rfl,rfl,by decide +kernel,rfl,by decide +kernel,by decide +kernel⟩
theorem Ha {f:Addr} {fd:FuncData} (F:Fun K "has_number" "has_number" Db f fd) (T:Txt K mg c) (c_bit_of:Ar P w K mg base "bit_of" 1 ["number"] E5):FnOk P w K mg base CX0 2 f fd ["mask","number"] Cz:=by
  refine F.ok G0 (λ vs H Q E h=> ?_) (λ cdv A outer s H vs Q E hr h=> ?_)
  · obtain ⟨m,n,rfl,_⟩:=h;rfl
  · obtain ⟨m,n,rfl,h1,h2,q⟩:=h;refine ⟨_,(Ag (Ap (Bj Jw (Af BN (pv 0) (Ah c_bit_of hr (Aa (pv 1) Ab))) Ac (At _)))),?_⟩;walk_at "w";refine ⟨n,rfl,h1,h2,?_⟩;walk_at "w";rw [bA,Pc];exact q
def DZ:Sp:=λ vs H Q _=>∃ m:Nat,vs=[.int m]/\m<2 ^ 900/\∀ H' p,Same H H'->H p=none->H' p=some (.lst ((MM.nOf m).map nV))->Q (.ref p) H'
abbrev Da:Stmt:=top 6
theorem Hn:FnScope ["mask"] ["mask"] (Ak Da):=⟨rfl,rfl,rfl,by decide +kernel,rfl,by decide +kernel,by decide +kernel⟩
theorem Hm {f:Addr} {fd:FuncData} (F:Fun K "numbers_of" "numbers_of" Da f fd) (T:Txt K mg c) (c_has_number:Ar P w K mg base "has_number" 2 ["mask","number"] Cz):FnOk P w K mg base CX0 3 f fd ["mask"] DZ:=by
  refine F.ok Hn (λ vs H Q E h=> ?_) (λ cdv A outer s H vs Q E hr h=> ?_)
  · obtain ⟨m,rfl,_⟩:=h;rfl
  · obtain ⟨m,rfl,h1,q⟩:=h;have hb:=MM.bits_le h1;refine ⟨_,(Ag (Ap (A9 (Fc rfl (T.own _ (by decide)) (Aa Ac (Aa (Af AA (NL (K:=K) PySem.F.plainAttrs_int PySem.F.slot_int_bit_length PySem.F.type_int_bit_length G1 (pv 0)) Ac) Ab))) (λ _ _ _ _=>(Di (AZ (Ah c_has_number hr (Aa (pv 1) (Aa (pv 0) Ab)))))) (λ _ _ _ _=>(pv 0))))),?_⟩;walk_at "w";refine tyI ?_;refine Ox ?_;walk_at "w";refine ⟨_,_,rfl,⟨by decide,by decide,by omega,by omega⟩,λ D hD=> ?_⟩;rw [show ((MM.bits m:Nat)+1 - 1:Int).toNat=MM.bits m by omega];refine El (p:=m.testBit) (G:=λ i=>1+(i:Int)) (HE rfl) hD (by omega) ?_ ?_ ?_
    · intro i H' R hi s k;walk_at "w";refine ⟨m,i+1,by rw [show (1:Int)+(i:Nat)=((i+1:Nat):Int) by omega],by omega,by omega,?_⟩;rw [show i+1 - 1=i by omega];exact ⟨_,rfl,k H' (Same.refl _)⟩
    · intro i H' R hi hp s k;walk_at "w";exact k H' (Same.refl _)
    · intro H' s hl;refine q H' D s hD ?_;rw [hl];unfold MM.nOf;rw [List.map_map,List.map_map];congr 2;refine List.map_congr_left λ i _=> ?_;show V.int (1+(i:Int))=V.int ((i+1:Nat):Int);congr 1;omega
def Cy:Sp:=λ vs H Q _=>∃ m n:Nat,vs=[.int m, .int n]/\n<=1000/\Q (.int (((2 ^ n - 1) ^^^ m:Nat):Int)) H
abbrev Dc:Stmt:=top 7
theorem Hf:FnScope ["mask","most"] ["mask","most"] (Ak Dc):=⟨rfl,rfl,rfl,by decide +kernel,rfl,by decide +kernel,by decide +kernel⟩
theorem G5 {f:Addr} {fd:FuncData} (F:Fun K "other_mask" "other_mask" Dc f fd) (T:Txt K mg c) (c_mask_to:Ar P w K mg base "mask_to" 1 ["most"] Ex):FnOk P w K mg base CX0 2 f fd ["mask","most"] Cy:=by
  refine F.ok Hf (λ vs H Q E h=> ?_) (λ cdv A outer s H vs Q E hr h=> ?_)
  · obtain ⟨m,n,rfl,_⟩:=h;rfl
  · obtain ⟨m,n,rfl,h1,q⟩:=h;refine ⟨_,(Ag (Ap (Af QQ (Ah c_mask_to hr (Aa (pv 1) Ab)) (pv 0)))),?_⟩;walk_at "w";refine ⟨n,rfl,h1,?_⟩;walk_at "w";rw [bX];exact q
def FA (K:PySem.W.Frag):Sp:=λ vs H Q _=>∃ x,vs=[x]/\Ty K H x/\Q (.bl (M3 x)) H
abbrev Es:Stmt:=top 14
theorem IB:FnScope ["thing"] ["thing"] (Ak Es):=⟨rfl,rfl,rfl,by decide +kernel,rfl,by decide +kernel,by decide +kernel⟩
theorem IW {f:Addr} {fd:FuncData} (F:Fun K "is_whole" "is_whole" Es f fd) (T:Txt K mg c):FnOk P w K mg base CX0 1 f fd ["thing"] (FA K):=by
  refine F.ok IB (λ vs H Q E h=> ?_) (λ cdv A outer s H vs Q E hr h=> ?_)
  · obtain ⟨x,rfl,_⟩:=h;rfl
  · obtain ⟨x,rfl,⟨n,ty⟩,k⟩:=h;refine ⟨_,(Ag (Ap (GK (Al (CC (K:=K)) rfl (T.own _ (by decide)) boot_isinstance (Aa (pv 0) (Aa (B4 rfl (T.own _ (by decide)) boot_int) Ab))) (GH (Qt (Al (CC (K:=K)) rfl (T.own _ (by decide)) boot_isinstance (Aa (pv 0) (Aa (B4 rfl (T.own _ (by decide)) boot_bool) Ab)))))))),?_⟩;walk_at "w";refine By ty (Pm ty) ?_;walk_at "w";refine ME (λ hc=> ?_) (λ hc=> ?_)
    · walk_at "w";refine By ty (Mz ty) ?_;walk_at "w";exact Jv (by cases x <;> first | rfl | exact absurd hc Bool.false_ne_true) k
    · exact Jv (by cases x <;> first | rfl | exact absurd hc.symm Bool.false_ne_true) k
def Fv (K:PySem.W.Frag):Sp:=λ vs H Q _=>∃ x a b,vs=[x, .int a, .int b]/\Ty K H x/\Q (.bl (Iq x a b)) H
abbrev Ew:Stmt:=top 15
theorem Jt:FnScope ["thing","least","most"] ["thing","least","most"] (Ak Ew):=⟨rfl,rfl,rfl,by decide +kernel,rfl,by decide +kernel,by decide +kernel⟩
theorem IL {f:Addr} {fd:FuncData} (F:Fun K "is_among" "is_among" Ew f fd) (T:Txt K mg c) (c_is_whole:Ar P w K mg base "is_whole" 1 ["thing"] (FA K)):FnOk P w K mg base CX0 2 f fd ["thing","least","most"] (Fv K):=by
  refine F.ok Jt (λ vs H Q E h=> ?_) (λ cdv A outer s H vs Q E hr h=> ?_)
  · obtain ⟨x,a,b,rfl,_⟩:=h;rfl
  · obtain ⟨x,a,b,rfl,ty,k⟩:=h;refine ⟨_,(Ag (Ap (GK (Ah c_is_whole hr (Aa (pv 0) Ab)) (GH (MU PN PN (pv 1) (pv 0) (pv 2)))))),?_⟩;walk_at "w";refine ⟨x,rfl,ty,?_⟩;walk_at "w";refine ME (λ hc=> ?_) (λ hc=> ?_)
    · cases x with
      | int i=>
        walk_at "w";refine ME (λ h1=> ?_) (λ h1=> ?_)
        · walk_at "w";exact Jv (by show _=(decide (a<=i)&&decide (i<=b));rw [h1,Bool.true_and]) k
        · walk_at "w";exact Jv (by show _=(decide (a<=i)&&decide (i<=b));rw [h1,Bool.false_and]) k
      | _=>exact absurd hc Bool.false_ne_true
    · exact Jv (by cases x <;> first | rfl | exact absurd hc.symm Bool.false_ne_true) k
def ClAt (C:Addr) (H:Hp) (x:Addr) (n:Nat) (rs:List Nat):Prop:=∃ dx t,H x=some (.ins C dx [("width",nV n),("rows", .ref t)])/\H t=some (.tup (rs.map nV))
theorem ClAt.same {C:Addr} {H H':Hp} {x:Addr} {n:Nat} {rs:List Nat} (h:ClAt C H x n rs) (s:Same H H'):ClAt C H' x n rs:=by
  obtain ⟨dx,t,h1,h2⟩:=h;exact ⟨dx,t,s _ _ h1,s _ _ h2⟩
structure ClOk (n:Nat) (rs:List Nat):Prop where
  n1:1<=n
  n2:n<=60
  p1:1<=rs.length
  p2:rs.length<=60
  lt:∀ r∈rs,r<2 ^ n
def Ek:Sp:=λ vs H Q _=>∃ (n:Nat) (a:Addr) (rs:List Nat),vs=[.int n, .ref a]/\H a=some (.lst (rs.map nV))/\ClOk n rs/\∀ H',Same H H'->Q .non H'
abbrev CU:Stmt:=top 17
theorem G2:FnScope ["ends","rows"] ["ends","rows"] (Ak CU):=⟨rfl,rfl,rfl,by decide +kernel,rfl,by decide +kernel,by decide +kernel⟩
theorem G7 {f:Addr} {fd:FuncData} (F:Fun K "need_cloth" "need_cloth" CU f fd) (T:Txt K mg c) (c_is_among:Ar P w K mg base "is_among" 2 ["thing","least","most"] (Fv K)) (c_mask_to:Ar P w K mg base "mask_to" 1 ["most"] Ex):FnOk P w K mg base CX0 3 f fd ["ends","rows"] Ek:=by
  refine F.ok G2 (λ vs H Q E h=> ?_) (λ cdv A outer s H vs Q E hr h=> ?_)
  · obtain ⟨n,a,rs,rfl,_⟩:=h;rfl
  · obtain ⟨n,a,rs,rfl,ha,ok,k⟩:=h;refine ⟨_,(Ad (Bh (BA (AZ (Ah c_is_among hr (Aa (pv 0) (Aa Ac (Aa (PV T.k_MOST_ENDS) Ab)))))) (Ag F4) AF)
      (Ad (Bh (PW.pt (Ft (BA (AZ (Al (CC (K:=K)) rfl (T.own _ (by decide)) boot_isinstance (Aa (pv 1) (Aa (B4 rfl (T.own _ (by decide)) AI) Ab))))) (DJ (BA (AZ (Ah c_is_among hr (Aa (Al (A6 (K:=K)) rfl (T.own _ (by decide)) boot_len (Aa (pv 1) Ab)) (Aa Ac (Aa (PV T.k_MOST_PICKS) Ab))))))))) (Ag F4) AF)
      (Ag (Bh (BA (AZ (Al (P4 (K:=K)) rfl (T.own _ (by decide)) HF (Aa (A9 (B0 (K:=K) (pv 1)) (λ _ _ _ _=>AY) (λ _ _ _ _=>(Ah c_is_among hr (Aa (pv 0) (Aa Ac (Aa (Ah c_mask_to (hr.mono (by decide)) (Aa (pv 1) Ab)) Ab)))))) Ab)))) (Ag F4) AF)))),?_⟩
    walk_at "w";refine ⟨_,_,_,rfl,⟨_, .int _⟩,?_⟩;walk_at "w";have e1:Iq (.int n) 1 60=true:=by
      have:=ok.n1;have:=ok.n2;show (decide ((1:Int)<=n)&&decide ((n:Int)<=60))=true;simp;omega
    rw [e1];refine J6 ?_;walk_at "w";refine By (.lst ha) (kb (b:=true) (by decide +kernel)) ?_;walk_at "w";refine AD (SqL.of ha) ?_;walk_at "w";refine ⟨_,_,_,rfl,⟨_, .int _⟩,?_⟩;walk_at "w";have e2:Iq (.int ((rs.map nV).length:Nat)) 1 60=true:=by
      have:=ok.p1;have:=ok.p2;rw [List.length_map];show (decide ((1:Int)<=(rs.length:Nat))&&decide (((rs.length:Nat):Int)<=60))=true;simp;omega
    rw [e2];refine J6 ?_;walk_at "w";refine ⟨a,rfl,⟨_,SqL.of ha⟩,λ D hD=> ?_⟩;refine Nv (G:=λ _=>true) (BW (SqL.of ha) rfl) hD (by have:=ok.p2;rw [List.length_map];omega) ?_ ?_
    · intro i H' R hi s kk;have hi':i<rs.length:=by simpa using hi
      rw [BU hi];walk_at "w";refine ⟨n,rfl,by have:=ok.n2;omega,?_⟩;walk_at "w";refine ⟨_,_,_,rfl,⟨_, .int _⟩,?_⟩;have e3:Iq (.int (rs.getD i 0:Nat)) 0 ((2 ^ n - 1:Nat):Int)=true:=by
        have hm:rs.getD i 0∈rs:=by rw [List.getD_eq_getElem?_getD,List.getElem?_eq_getElem hi'];exact List.getElem_mem hi'
        have:=ok.lt _ hm;have hp:0<2 ^ n:=Nat.two_pow_pos n;show (decide ((0:Int)<=(rs.getD i 0:Nat))&&decide (((rs.getD i 0:Nat):Int)<=((2 ^ n - 1:Nat):Int)))=true;simp only [Bool.and_eq_true,decide_eq_true_eq];omega
      rw [e3];exact kk H' (Same.refl _)
    · intro H' s hl;walk_at "w";refine Nt (SqL.of hl) ?_;walk_at "w";have e4:((List.range (rs.map nV).length).map λ _=>true).all id=true:=by simp
      rw [e4];refine J6 ?_;walk_at "w";exact k H' s
def AV (c:Cs):Sp:=λ vs H Q _=>∃ (x dx:Addr) (n:Nat) (a:Addr) (rs:List Nat),vs=[.ref x, .int n, .ref a]/\H x=some (.ins c.Cloth dx [])/\H a=some (.lst (rs.map nV))/\ClOk n rs/\
  ∀ H',(∀ b o,H b=some o->b≠x->H' b=some o)->ClAt c.Cloth H' x n rs->Q .non H'
abbrev BL:Stmt:=Bi (top 18) 0
theorem EZ:FnScope ["self","ends","rows"] ["self","ends","rows"] (Ak BL):=⟨rfl,rfl,rfl,by decide +kernel,rfl,by decide +kernel,by decide +kernel⟩
theorem EL {f:Addr} {fd:FuncData} (F:Fun K "__init__" "Cloth.__init__" BL f fd) (T:Txt K mg c) (c_need_cloth:Ar P w K mg base "need_cloth" 3 ["ends","rows"] Ek):FnOk P w K mg base CX0 4 f fd ["self","ends","rows"] (AV c):=by
  refine F.ok EZ (λ vs H Q E h=> ?_) (λ cdv A outer s H vs Q E hr h=> ?_)
  · obtain ⟨x,dx,n,a,rs,rfl,_⟩:=h;rfl
  · obtain ⟨x,dx,n,a,rs,rfl,hx,ha,ok,k⟩:=h;refine ⟨_,(Ad (BC (Ah c_need_cloth hr (Aa (pv 1) (Aa (pv 2) Ab))))
      (Ad (Nu (pv 0) (pv 1) rfl)
      (Ag (Nu (pv 0) (BO (K7 (K:=K)) rfl (T.own _ (by decide)) BV (Aa (pv 2) Ab)) rfl)))),?_⟩
    walk_at "w";refine ⟨n,a,rs,rfl,ha,ok,λ H1 s1=> ?_⟩;walk_at "w";refine Mg (s1 _ _ hx) T.kd_Cloth.cl T.na_Cloth_width (by decide) ?_;walk_at "w";have nax:a≠x:=A8 ha hx (by intro z;cases z);refine Jz (SqL.of (by rw [Am nax];exact s1 _ _ ha)) λ t ht=> ?_;walk_at "w";have nxt:x≠t:=Au Ae ht;refine Mg (by rw [Am nxt];exact Ae) T.kd_Cloth.cl T.na_Cloth_rows (by show 1<1000;decide) ?_;walk_at "w";refine k _ (λ b o e hb=> ?_) ⟨dx,t,Ae,by rw [Am (Ne.symm nxt),Ae]⟩;have hbt:b≠t:=λ z=>by
      subst z;rw [Am hb,s1 _ _ e] at ht;cases ht
    rw [Am hb,Am hbt,Am hb];exact s1 _ _ e
theorem OM {c:Cs} {H:Hp} {Q:VK} {n:Nat} {a:Addr} {rs:List Nat} (ha:H a=some (.lst (rs.map nV))) (ok:ClOk n rs) (h:∀ H' x,Same H H'->H x=none->ClAt c.Cloth H' x n rs->Q (.ref x) H'):
    ∀ x dx,H x=none->H dx=none->dx≠x->AV c [.ref x, .int n, .ref a] (upd (upd H dx (.own x)) x (.ins c.Cloth dx [])) (λ v H2=>v= .non/\Q (.ref x) H2) E0:=by
  intro x dx hx hdx ne;have s0:=Jf (o:=HO.ins c.Cloth dx []) (u:= .own x) hx hdx;exact ⟨x,dx,n,a,rs,rfl,Ae,s0 _ _ ha,ok,λ H' kp at'=>⟨rfl,h H' x (λ b o e=>kp b o (s0 b o e) (Au e hx)) hx at'⟩⟩
theorem PR {c:Cs} {H:Hp} {R:Addr->Hp->Prop} {n:Nat} {a:Addr} {rs:List Nat} (ha:H a=some (.lst (rs.map nV))) (ok:ClOk n rs) (h:∀ H' x,Same H H'->H x=none->ClAt c.Cloth H' x n rs->R x H'):
    ∀ x dx,H x=none->H dx=none->dx≠x->AV c [.ref x, .int n, .ref a] (upd (upd H dx (.own x)) x (.ins c.Cloth dx [])) (λ v H2=>v= .non/\R x H2) E0:=by
  intro x dx hx hdx ne;have s0:=Jf (o:=HO.ins c.Cloth dx []) (u:= .own x) hx hdx;exact ⟨x,dx,n,a,rs,rfl,Ae,s0 _ _ ha,ok,λ H' kp at'=>⟨rfl,h H' x (λ b o e=>kp b o (s0 b o e) (Au e hx)) hx at'⟩⟩
abbrev Iz:Stmt:=Bi (top 18) 1
theorem Oa:FnScope ["self"] ["self"] (Ak Iz):=⟨rfl,rfl,rfl,by decide +kernel,rfl,by decide +kernel,by decide +kernel⟩
def BR (c:Cs):Sp:=λ vs H Q _=>∃ x n rs,vs=[.ref x]/\ClAt c.Cloth H x n rs/\Q (nV n) H
abbrev Dj:Stmt:=Bi (top 18) 2
theorem Ho:FnScope ["self"] ["self"] (Ak Dj):=⟨rfl,rfl,rfl,by decide +kernel,rfl,by decide +kernel,by decide +kernel⟩
theorem Hh {f:Addr} {fd:FuncData} (F:Fun K "ends" "Cloth.ends" Dj f fd) (T:Txt K mg c):FnOk P w K mg base CX0 1 f fd ["self"] (BR c):=by
  refine F.ok Ho (λ vs H Q E h=> ?_) (λ cdv A outer s H vs Q E hr h=> ?_)
  · obtain ⟨x,n,rs,rfl,_⟩:=h;rfl
  · obtain ⟨x,n,rs,rfl,⟨dx,t,h1,h2⟩,k⟩:=h;refine ⟨_,(Ag (Ap (JB (K:=K) (pv 0) rfl))),?_⟩;walk_at "w";exact ⟨_,_,_,_,_,rfl,h1,T.kd_Cloth.cl,T.na_Cloth_width,rfl,k⟩
def BB (c:Cs):Sp:=λ vs H Q _=>∃ x n rs,vs=[.ref x]/\ClAt c.Cloth H x n rs/\Q (nV rs.length) H
abbrev CB:Stmt:=Bi (top 18) 3
theorem GV:FnScope ["self"] ["self"] (Ak CB):=⟨rfl,rfl,rfl,by decide +kernel,rfl,by decide +kernel,by decide +kernel⟩
theorem Gv {f:Addr} {fd:FuncData} (F:Fun K "picks" "Cloth.picks" CB f fd) (T:Txt K mg c):FnOk P w K mg base CX0 1 f fd ["self"] (BB c):=by
  refine F.ok GV (λ vs H Q E h=> ?_) (λ cdv A outer s H vs Q E hr h=> ?_)
  · obtain ⟨x,n,rs,rfl,_⟩:=h;rfl
  · obtain ⟨x,n,rs,rfl,⟨dx,t,h1,h2⟩,k⟩:=h;refine ⟨_,(Ag (Ap (Al (A6 (K:=K)) rfl (T.own _ (by decide)) boot_len (Aa (JB (K:=K) (pv 0) rfl) Ab)))),?_⟩;walk_at "w";refine ⟨_,_,_,_,_,rfl,h1,T.kd_Cloth.cl,T.na_Cloth_rows,rfl,?_⟩;walk_at "w";refine HY (SqT.of h2) ?_;rw [List.length_map];exact k
theorem OY (f:Nat->Bool) (w:Nat):MM.mOf (((List.range w).filter f).map (· + 1))=MM.ofB f w:=by
  refine Nat.eq_of_testBit_eq λ i=> ?_;rw [MM.mOf_bit,MM.ofB_bit,Bool.eq_iff_iff,List.any_eq_true];constructor
  · rintro ⟨n,hn,e⟩;obtain ⟨k,hk,rfl⟩:=List.mem_map.mp hn;obtain ⟨h1,h2⟩:=List.mem_filter.mp hk;have e:k+1 - 1=i:=of_decide_eq_true e;have e:k=i:=by omega
    subst e;simp [List.mem_range.mp h1,h2]
  · intro h;simp only [Bool.and_eq_true,decide_eq_true_eq] at h;exact ⟨i+1,List.mem_map.mpr ⟨i,List.mem_filter.mpr ⟨List.mem_range.mpr h.1,h.2⟩,rfl⟩,by simp⟩
def Kl (rs:List Nat) (e:Nat):Nat:=MM.ofB (λ p=>(rs.getD p 0).testBit (e - 1)) rs.length
def Cd (c:Cs):Sp:=λ vs H Q _=>∃ x n rs,∃ e:Nat,vs=[.ref x,nV e]/\ClAt c.Cloth H x n rs/\rs.length<=60/\1<=e/\e<=60/\∀ H',Same H H'->Q (nV (Kl rs e)) H'
abbrev Bx:Stmt:=Bi (top 18) 5
theorem Ez:FnScope ["self","end"] ["self","end"] (Ak Bx):=⟨rfl,rfl,rfl,by decide +kernel,rfl,by decide +kernel,by decide +kernel⟩
theorem EG {f:Addr} {fd:FuncData} (F:Fun K "column_at" "Cloth.column_at" Bx f fd) (T:Txt K mg c) (c_mask_of:Ar P w K mg base "mask_of" 2 ["numbers"] (Gq K)) (c_has_number:Ar P w K mg base "has_number" 2 ["mask","number"] Cz):FnOk P w K mg base CX0 3 f fd ["self","end"] (Cd c):=by
  refine F.ok Ez (λ vs H Q E h=> ?_) (λ cdv A outer s H vs Q E hr h=> ?_)
  · obtain ⟨x,n,rs,e,rfl,_⟩:=h;rfl
  · obtain ⟨x,n,rs,e,rfl,⟨dx,t,h1,h2⟩,hl,e1,e2,k⟩:=h;refine ⟨_,(Ag (Ap (Ah c_mask_of hr (Aa (Gh (K:=K) (MZ (K:=K) rfl (T.own _ (by decide)) (Aa (JB (K:=K) (pv 0) rfl) Ab)) (λ _ _ _ _=>(Di (AZ (Ah c_has_number hr (Aa (pv 1) (Aa (pv 2) Ab)))))) (λ _ _ _ _=>(pv 0))) Ab)))),?_⟩;walk_at "w";refine ⟨_,_,_,_,_,rfl,h1,T.kd_Cloth.cl,T.na_Cloth_rows,rfl,?_⟩;walk_at "w";refine ⟨true,t,rfl,⟨_,SqT.of h2⟩,λ D hD=> ?_⟩;refine El (p:=λ i=>(rs.getD i 0).testBit (e - 1)) (G:=λ i=>((i+1:Nat):Int)) (LS (tp:=true) (SqT.of h2) rfl rfl) hD (by rw [List.length_map];omega) ?_ ?_ ?_
    · intro i H' R hi s kk;rw [BU hi];walk_at "w";refine ⟨rs.getD i 0,e,rfl,e1,by omega,?_⟩;exact ⟨_,rfl,kk H' (Same.refl _)⟩
    · intro i H' R hi hp s kk;walk_at "w";exact kk H' (Same.refl _)
    · intro H' s hl2;walk_at "w";have e:((((List.range (rs.map nV).length).filter λ i=>(rs.getD i 0).testBit (e - 1)).map λ i=>((i+1:Nat):Int)).map V.int)=(((List.range rs.length).filter λ i=>(rs.getD i 0).testBit (e - 1)).map (· + 1)).map nV:=by
        rw [List.length_map,List.map_map,List.map_map];rfl
      rw [e] at hl2;refine ⟨false,D,_,rfl,SqL.of hl2,λ n hn=> ?_,λ H2 s2=> ?_⟩
      · obtain ⟨j,hj,rfl⟩:=List.mem_map.mp hn;have:=List.mem_range.mp (List.mem_filter.mp hj).1;omega
      · rw [OY];exact k H2 (s.trans s2)
open MG
def nm (b:Bool):Str:=if b=true then Str.ofString "pick" else Str.ofString "end"
def thV (t:Th):List V:=[.str (nm t.1),nV t.2]
def thK (t:Th):List Key:=[.inr (nm t.1), .inl ((t.2:Nat):Int)]
theorem Qj (t:Th):(thK t).map kV=thV t:=rfl
theorem MN {a b:Bool} (h:nm a=nm b):a=b:=by
  cases a <;> cases b <;> first | rfl | (exact absurd h (by decide))
theorem Dg {t u:Th} (h:thK t=thK u):t=u:=by
  obtain ⟨a,k⟩:=t;obtain ⟨b,l⟩:=u;unfold thK at h;injection h with h1 h2;injection h2 with h3 _;injection h1 with h1;injection h3 with h3;have e1:a=b:=MN h1;have h3:((k:Nat):Int)=((l:Nat):Int):=h3;have e2:k=l:=by omega
  rw [e1,e2]
def dTh (t:Th):Dt:= .tup [.str (nm t.1),dN t.2]
def TR (H:Hp) (v:V) (t:Th):Prop:=∃ b,v= .ref b/\H b=some (.tup (thV t))
theorem TR.same {H H':Hp} {v:V} {t:Th} (h:TR H v t) (s:Same H H'):TR H' v t:=by
  obtain ⟨b,e,q⟩:=h;exact ⟨b,e,s _ _ q⟩
structure TL (H:Hp) (vs:List V) (ts:List Th):Prop where
  len:vs.length=ts.length
  at_:∀ i,i<ts.length->TR H (vs.getD i .non) (ts.getD i (false,0))
theorem TL.same {H H':Hp} {vs:List V} {ts:List Th} (h:TL H vs ts) (s:Same H H'):TL H' vs ts:=⟨h.len,λ i hi=>(h.at_ i hi).same s⟩
theorem TL.nil {H:Hp}:TL H [] []:=⟨rfl,λ i hi=>by cases hi⟩
theorem TL.app {H:Hp} {vs ws:List V} {ts us:List Th} (a:TL H vs ts) (b:TL H ws us):TL H (vs++ws) (ts++us):=by
  refine ⟨by rw [List.length_append,List.length_append,a.len,b.len],λ i hi=> ?_⟩;rcases Nat.lt_or_ge i ts.length with z | z
  · have:=a.at_ i z;rw [List.getD_eq_getElem?_getD,List.getElem?_append_left (by rw [a.len];exact z),List.getD_eq_getElem?_getD,List.getElem?_append_left z, <-List.getD_eq_getElem?_getD, <-List.getD_eq_getElem?_getD];exact this
  · have:=b.at_ (i - ts.length) (by rw [List.length_append] at hi;omega);rw [List.getD_eq_getElem?_getD,List.getElem?_append_right (by rw [a.len];exact z),List.getD_eq_getElem?_getD,List.getElem?_append_right z,a.len, <-List.getD_eq_getElem?_getD, <-List.getD_eq_getElem?_getD];exact this
theorem TL.one {H:Hp} {v:V} {t:Th} (h:TR H v t):TL H [v] [t]:=⟨rfl,λ i hi=>by
  have:i=0:=by simpa using hi
  subst this;exact h⟩
theorem Hx {H:Hp} {F:Addr->Prop} {n:Nat} {v:V} {t:Th} (h:TR H v t):Rp H F (n+1) v (dTh t):=by
  obtain ⟨b,rfl,q⟩:=h;exact CY q (.str _) (.int _)
theorem PB {H:Hp} {F:Addr->Prop} {n:Nat} {v:V} {t:Th} (r:Rp H F n v (dTh t)):TR H v t:=by
  obtain ⟨m,a,vs,rfl,rfl,h,l,b,e⟩:=J2 r
  match vs,l,h,e with
  | [x,y],_,h,e=>
    have e0:=e 0 (by show 0<2;decide);have e1:=e 1 (by show 1<2;decide);cases e0;cases e1;exact ⟨a,rfl,h⟩
theorem Jr {H:Hp} {F:Addr->Prop} {a:Addr} {vs:List V} {ts:List Th} (h:H a=some (.lst vs)) (f:F a) (b:ts.length<=100000) (l:TL H vs ts):Rp H F 2 (.ref a) (.lst (ts.map dTh)):=by
  refine .lst h f (by rw [l.len];exact b) (by rw [l.len,List.length_map]) λ i v d hv hd=> ?_;have hi:i<ts.length:=by
    have:=(List.getElem?_eq_some_iff.mp hv).1;rw [l.len] at this;exact this
  have:=l.at_ i hi;rw [List.getD_eq_getElem?_getD,hv] at this;rw [List.getElem?_map,List.getElem?_eq_getElem hi] at hd;have ed:d=dTh ts[i]:=(Option.some.inj hd).symm;rw [L2.getD_el hi] at this;rw [ed];exact Hx this
theorem Du {H:Hp} {F:Addr->Prop} {n:Nat} {v:V} {ts:List Th} (r:Rp H F n v (.lst (ts.map dTh))):∃ a vs,v= .ref a/\H a=some (.lst vs)/\F a/\TL H vs ts/\ts.length<=100000:=by
  obtain ⟨m,a,vs,rfl,rfl,h,f,l,b,e⟩:=GS r;rw [List.length_map] at l;refine ⟨a,vs,rfl,h,f,⟨l,λ i hi=> ?_⟩,by omega⟩;have:=e i (by simpa using hi);rw [GD dTh ts i .non (false,0) hi] at this;exact PB this
def Fi (K:PySem.W.Frag) (b:Bool):Sp:=λ vs H Q _=>∃ (a:Addr) (ns:List Nat),vs=[.ref a]/\SqL K H a (ns.map nV)/\ns.length<=1000/\∀ H' p,Same H H'->H p=none->Rp H' (FN H) 2 (.ref p) (.lst ((ns.map λ k=>((b,k):Th)).map dTh))->Q (.ref p) H'
abbrev Cu:Stmt:=top 24
theorem Gd:FnScope ["ends"] ["ends"] (Ak Cu):=⟨rfl,rfl,rfl,by decide +kernel,rfl,by decide +kernel,by decide +kernel⟩
theorem GQ {f:Addr} {fd:FuncData} (F:Fun K "end_threads" "end_threads" Cu f fd) (T:Txt K mg c):FnOk P w K mg base CX0 1 f fd ["ends"] (Fi K false):=by
  refine F.ok Gd (λ vs H Q E h=> ?_) (λ cdv A outer s H vs Q E hr h=> ?_)
  · obtain ⟨a,ns,rfl,_⟩:=h;rfl
  · obtain ⟨a,ns,rfl,sa,hn,k⟩:=h;refine ⟨_,(Ag (Ap (A9 (B0 (K:=K) (pv 0)) (λ _ _ _ _=>AY) (λ _ _ _ _=>(A5 (Aa (Lg T.k_END) (Aa (pv 0) Ab))))))),?_⟩;walk_at "w";refine ⟨a,rfl,⟨_,sa⟩,λ D hD=> ?_⟩;refine Cf (m:=1) (G:=λ i=>dTh (false,ns.getD i 0)) (BW sa rfl) hD (by rw [List.length_map];omega) ?_ ?_
    · intro i H' R hi s kk;rw [BU hi];walk_at "w";intro p hp;exact kk _ _ (Aj hp) (CY Ae (.str _) (.int _))
    · intro H' ys s hl r;refine k H' D s hD ?_;rw [List.length_map] at r;rw [List.map_map];have e:(List.range ns.length).map (λ i=>dTh (false,ns.getD i 0))=ns.map (dTh∘λ k=>((false,k):Th)):=AK (λ k=>dTh (false,k)) ns 0;rw [e] at r;exact r
abbrev Ch:Stmt:=top 25
theorem FK:FnScope ["picks"] ["picks"] (Ak Ch):=⟨rfl,rfl,rfl,by decide +kernel,rfl,by decide +kernel,by decide +kernel⟩
theorem FO {f:Addr} {fd:FuncData} (F:Fun K "pick_threads" "pick_threads" Ch f fd) (T:Txt K mg c):FnOk P w K mg base CX0 1 f fd ["picks"] (Fi K true):=by
  refine F.ok FK (λ vs H Q E h=> ?_) (λ cdv A outer s H vs Q E hr h=> ?_)
  · obtain ⟨a,ns,rfl,_⟩:=h;rfl
  · obtain ⟨a,ns,rfl,sa,hn,k⟩:=h;refine ⟨_,(Ag (Ap (A9 (B0 (K:=K) (pv 0)) (λ _ _ _ _=>AY) (λ _ _ _ _=>(A5 (Aa (Lg T.k_PICK) (Aa (pv 0) Ab))))))),?_⟩;walk_at "w";refine ⟨a,rfl,⟨_,sa⟩,λ D hD=> ?_⟩;refine Cf (m:=1) (G:=λ i=>dTh (true,ns.getD i 0)) (BW sa rfl) hD (by rw [List.length_map];omega) ?_ ?_
    · intro i H' R hi s kk;rw [BU hi];walk_at "w";intro p hp;exact kk _ _ (Aj hp) (CY Ae (.str _) (.int _))
    · intro H' ys s hl r;refine k H' D s hD ?_;rw [List.length_map] at r;rw [List.map_map];have e:(List.range ns.length).map (λ i=>dTh (true,ns.getD i 0))=ns.map (dTh∘λ k=>((true,k):Th)):=AK (λ k=>dTh (true,k)) ns 0;rw [e] at r;exact r
def Ai (n p:Nat):List Th:=(List.range n).map (λ k=>((false,k+1):Th))++(List.range p).map λ k=>((true,k+1):Th)
theorem MK (n:Nat):((List.range ((n:Int)+1 - 1).toNat).map λ k:Nat=>(1:Int)+(k:Int)).map V.int=((List.range n).map (· + 1)).map nV:=by
  rw [show ((n:Int)+1 - 1).toNat=n by omega,List.map_map,List.map_map];refine List.map_congr_left λ k _=> ?_;show V.int (1+(k:Int))=V.int ((k+1:Nat):Int);congr 1;omega
def Cw (c:Cs):Sp:=λ vs H Q _=>∃ x n rs,vs=[.ref x]/\ClAt c.Cloth H x n rs/\ClOk n rs/\∀ H' p,Same H H'->H p=none->Rp H' (FN H) 2 (.ref p) (.lst ((Ai n rs.length).map dTh))->Q (.ref p) H'
abbrev CZ:Stmt:=top 26
theorem Hd:FnScope ["cloth"] ["cloth"] (Ak CZ):=⟨rfl,rfl,rfl,by decide +kernel,rfl,by decide +kernel,by decide +kernel⟩
theorem Hq {f:Addr} {fd:FuncData} (F:Fun K "threads_of" "threads_of" CZ f fd) (T:Txt K mg c) (c_end_threads:Ar P w K mg base "end_threads" 1 ["ends"] (Fi K false)) (c_pick_threads:Ar P w K mg base "pick_threads" 1 ["picks"] (Fi K true)) (d_Cloth_ends:Cl P w K mg base c.Cloth "ends" 1 ["self"] (BR c)) (d_Cloth_picks:Cl P w K mg base c.Cloth "picks" 1 ["self"] (BB c)):FnOk P w K mg base CX0 2 f fd ["cloth"] (Cw c):=by
  refine F.ok Hd (λ vs H Q E h=> ?_) (λ cdv A outer s H vs Q E hr h=> ?_)
  · obtain ⟨x,n,rs,rfl,_⟩:=h;rfl
  · obtain ⟨x,n,rs,rfl,C0,ok,k⟩:=h;have C1:=C0;obtain ⟨dx,t,h1,h2⟩:=C0;have n2:=ok.n2;have p2:=ok.p2;refine ⟨_,(Ag (Ap (Af (K5 (K:=K)) (Ah c_end_threads hr (Aa (F8 rfl (T.own _ (by decide)) rfl (T.own _ (by decide)) (Aa Ac (Aa (Af AA (BK (pv 0) d_Cloth_ends hr) Ac) Ab))) Ab)) (Ah c_pick_threads hr (Aa (F8 rfl (T.own _ (by decide)) rfl (T.own _ (by decide)) (Aa Ac (Aa (Af AA (BK (pv 0) d_Cloth_picks hr) Ac) Ab))) Ab))))),?_⟩;walk_at "w";refine ⟨_,_,_,rfl,h1,rfl,?_⟩;walk_at "w";refine ⟨x,n,rs,rfl,C1,?_⟩;walk_at "w";refine ⟨_,_,rfl,⟨by decide,by decide,by omega,by omega⟩,by omega,λ l hl=> ?_⟩;rw [MK];have s1:=Aj (o:=HO.lst (((List.range n).map (· + 1)).map nV)) hl;have e1:upd H l (HO.lst (((List.range n).map (· + 1)).map nV)) l=_:=Ae;generalize upd H l (HO.lst (((List.range n).map (· + 1)).map nV))=H1 at s1 e1 ⊢;walk_at "w";refine ⟨l,_,rfl,SqL.of e1,by simp;omega,λ H2 p s2 hp r2=> ?_⟩;have s12:=s1.trans s2;walk_at "w";refine ⟨_,_,_,rfl,s12 _ _ h1,rfl,?_⟩;walk_at "w";refine ⟨x,n,rs,rfl,C1.same s12,?_⟩;walk_at "w";refine ⟨_,_,rfl,⟨by decide,by decide,by omega,by omega⟩,by omega,λ l3 hl3=> ?_⟩;rw [MK];have s3:=Aj (o:=HO.lst (((List.range rs.length).map (· + 1)).map nV)) hl3;have e3:upd H2 l3 (HO.lst (((List.range rs.length).map (· + 1)).map nV)) l3=_:=Ae;generalize upd H2 l3 (HO.lst (((List.range rs.length).map (· + 1)).map nV))=H3 at s3 e3 ⊢;walk_at "w";refine ⟨l3,_,rfl,SqL.of e3,by simp;omega,λ H4 q s4 hq r4=> ?_⟩;walk_at "w";have s34:=s3.trans s4;obtain ⟨a1,v1,ea1,g1,_,t1,_⟩:=Du r2;cases ea1;obtain ⟨a2,v2,ea2,g2,_,t2,_⟩:=Du r4;cases ea2;have l1:=t1.len;have l2:=t2.len;simp at l1 l2;refine HZ (SqL.of (s34 _ _ g1)) (SqL.of g2) (by omega) λ z hz=> ?_;have s5:=Aj (o:=HO.lst (v1++v2)) hz;have s14:=s12.trans s34;refine k _ z (s14.trans s5) (s14.free hz) ?_;have tt:=((t1.same s34).app t2).same s5;have e:Ai n rs.length=(((List.range n).map (· + 1)).map λ k=>((false,k):Th))++(((List.range rs.length).map (· + 1)).map λ k=>((true,k):Th)):=by
      unfold Ai;rw [List.map_map,List.map_map];rfl
    rw [e];exact Jr Ae (s14.free hz) (by simp;omega) tt
open MG
def Do (c:Cs):Sp:=λ vs H Q _=>∃ x n rs,∃ k:Nat,vs=[.ref x,nV k]/\ClAt c.Cloth H x n rs/\1<=k/\k<=rs.length/\Q (nV (rs.getD (k - 1) 0)) H
abbrev Ce:Stmt:=Bi (top 18) 4
theorem FH:FnScope ["self","pick"] ["self","pick"] (Ak Ce):=⟨rfl,rfl,rfl,by decide +kernel,rfl,by decide +kernel,by decide +kernel⟩
theorem FI {f:Addr} {fd:FuncData} (F:Fun K "row_at" "Cloth.row_at" Ce f fd) (T:Txt K mg c):FnOk P w K mg base CX0 1 f fd ["self","pick"] (Do c):=by
  refine F.ok FH (λ vs H Q E h=> ?_) (λ cdv A outer s H vs Q E hr h=> ?_)
  · obtain ⟨x,n,rs,k,rfl,_⟩:=h;rfl
  · obtain ⟨x,n,rs,k,rfl,⟨dx,t,h1,h2⟩,k1,k2,q⟩:=h;refine ⟨_,(Ag (Ap (Av (Bl (K:=K)) (JB (K:=K) (pv 0) rfl) (Af BD (pv 1) Ac) (λ _ _=>rfl)))),?_⟩;walk_at "w";refine ⟨_,_,_,_,_,rfl,h1,T.kd_Cloth.cl,T.na_Cloth_rows,rfl,?_⟩;walk_at "w";rw [show ((k:Nat):Int) - 1=((k - 1:Nat):Int) by omega];refine AS (SqT.of h2) (Bp (by omega) (by omega)) ?_;rw [Int.toNat_natCast];exact q
def okT (n p:Nat) (t:Th):Prop:=1<=t.2/\t.2<=(if t.1=true then p else n)
theorem mem_allT {n p:Nat} {t:Th}:t∈Ai n p↔okT n p t:=by
  obtain ⟨b,k⟩:=t;unfold Ai okT;rw [List.mem_append,List.mem_map,List.mem_map];constructor
  · rintro (⟨j,hj,e⟩ | ⟨j,hj,e⟩)
    · cases e;have:=List.mem_range.mp hj;exact ⟨by omega,by simp;omega⟩
    · cases e;have:=List.mem_range.mp hj;exact ⟨by omega,by simp;omega⟩
  · rintro ⟨h1,h2⟩;cases b with
    | false=>exact .inl ⟨k - 1,List.mem_range.mpr (by simp at h2 h1;omega),by simp at h1;simp;omega⟩
    | true=>exact .inr ⟨k - 1,List.mem_range.mpr (by simp at h2 h1;omega),by simp at h1;simp;omega⟩
theorem DV (n p:Nat):(Ai n p).Nodup:=by
  unfold Ai;rw [List.nodup_append];refine ⟨List.Pairwise.map _ (λ a b h z=>h (by injection z with _ z2;omega)) List.nodup_range,List.Pairwise.map _ (λ a b h z=>h (by injection z with _ z2;omega)) List.nodup_range,λ a ha b hb=> ?_⟩;obtain ⟨i,_,rfl⟩:=List.mem_map.mp ha;obtain ⟨j,_,rfl⟩:=List.mem_map.mp hb;intro z;injection z with z1 _;cases z1
theorem Aq (n p:Nat):(Ai n p).length=n+p:=by unfold Ai;simp
def ovL (n:Nat) (rs:List Nat) (t:Th):List Th:=
  if t.1=true then (((List.range n).filter λ e=>(rs.getD (t.2 - 1) 0).testBit e).map (· + 1)).map λ k=>(false,k)
  else (((List.range rs.length).filter λ p=> !(rs.getD p 0).testBit (t.2 - 1)).map (· + 1)).map λ k=>(true,k)
theorem Er {n:Nat} {rs:List Nat} {t x:Th} (h:x∈ovL n rs t):x∈Ai n rs.length:=by
  rw [mem_allT];unfold ovL at h;split at h
  · obtain ⟨k,hk,rfl⟩:=List.mem_map.mp h;obtain ⟨j,hj,rfl⟩:=List.mem_map.mp hk;have:=List.mem_range.mp (List.mem_filter.mp hj).1;exact ⟨by simp,by simp;omega⟩
  · obtain ⟨k,hk,rfl⟩:=List.mem_map.mp h;obtain ⟨j,hj,rfl⟩:=List.mem_map.mp hk;have:=List.mem_range.mp (List.mem_filter.mp hj).1;exact ⟨by simp,by simp;omega⟩
def GP (c:Cs):Sp:=λ vs H Q _=>∃ x n rs b,∃ t:Th,vs=[.ref x, .ref b]/\ClAt c.Cloth H x n rs/\ClOk n rs/\H b=some (.tup (thV t))/\okT n rs.length t/\∀ H' p,Same H H'->H p=none->Rp H' (FN H) 2 (.ref p) (.lst ((ovL n rs t).map dTh))->Q (.ref p) H'
theorem KQ {H H1:Hp} (s:Same H H1) {a:Addr} (h:FN H1 a):FN H a:=s.free h
abbrev E8:Stmt:=top 27
theorem J3:FnScope ["cloth","thread"] ["cloth","thread"] (Ak E8):=⟨rfl,rfl,rfl,by decide +kernel,rfl,by decide +kernel,by decide +kernel⟩
theorem Kg {f:Addr} {fd:FuncData} (F:Fun K "over_of" "over_of" E8 f fd) (T:Txt K mg c) (c_end_threads:Ar P w K mg base "end_threads" 1 ["ends"] (Fi K false)) (c_pick_threads:Ar P w K mg base "pick_threads" 1 ["picks"] (Fi K true)) (c_numbers_of:Ar P w K mg base "numbers_of" 3 ["mask"] DZ) (c_other_mask:Ar P w K mg base "other_mask" 2 ["mask","most"] Cy) (d_Cloth_row_at:Cl P w K mg base c.Cloth "row_at" 1 ["self","pick"] (Do c)) (d_Cloth_column_at:Cl P w K mg base c.Cloth "column_at" 3 ["self","end"] (Cd c)) (d_Cloth_picks:Cl P w K mg base c.Cloth "picks" 1 ["self"] (BB c)):FnOk P w K mg base CX0 4 f fd ["cloth","thread"] (GP c):=by
  refine F.ok J3 (λ vs H Q E h=> ?_) (λ cdv A outer s H vs Q E hr h=> ?_)
  · obtain ⟨x,n,rs,b,t,rfl,_⟩:=h;rfl
  · obtain ⟨x,n,rs,b,t,rfl,C0,ok,hb,ht,k⟩:=h;have C1:=C0;obtain ⟨dx,tt,h1,h2⟩:=C0;have n2:=ok.n2;have p2:=ok.p2;obtain ⟨bb,kk⟩:=t;refine ⟨_,(Ad (Bh (AE Bg (Av (Bl (K:=K)) (pv 1) Ac (λ _ _=>rfl)) (Lg T.k_PICK) (At _)) (Ag (Ap (Ah c_end_threads (hr.mono (by decide)) (Aa (Ah c_numbers_of hr (Aa (Jg (pv 0) d_Cloth_row_at (hr.mono (by decide)) (Aa (Av (Bl (K:=K)) (pv 1) Ac (λ _ _=>rfl)) Ab)) Ab)) Ab)))) AF)
      (Ag (Ap (Ah c_pick_threads (hr.mono (by decide)) (Aa (Ah c_numbers_of hr (Aa (Ah c_other_mask (hr.mono (by decide)) (Aa (Jg (pv 0) d_Cloth_column_at hr (Aa (Av (Bl (K:=K)) (pv 1) Ac (λ _ _=>rfl)) Ab)) (Aa (BK (pv 0) d_Cloth_picks (hr.mono (by decide))) Ab))) Ab)) Ab))))),?_⟩
    walk_at "w";refine AS (v:= .str (nm bb)) (SqT.of hb) (Ax (j:=0) rfl) ?_;walk_at "w";cases bb with
    | true=>
      refine Ev (λ _=> ?_) (λ z=>absurd rfl z);walk_at "w";have hk2:kk<=rs.length:=by have:=ht.2;simpa using this
      have hk1:1<=kk:=ht.1;refine ⟨_,_,_,rfl,h1,rfl,?_⟩;walk_at "w";refine AS (v:=nV kk) (SqT.of hb) (Ax (j:=1) rfl) ?_;walk_at "w";refine ⟨x,n,rs,kk,rfl,C1,hk1,hk2,?_⟩;walk_at "w";have hlt:=ok.lt _ (L2.getD_mem (y:=0) (show kk - 1<rs.length by omega));refine ⟨_,rfl,Nat.lt_of_lt_of_le hlt (Nat.pow_le_pow_right (by decide) (by omega)),λ H1 p s1 hp e1=> ?_⟩;walk_at "w";have hnl:=MM.nOf_len hlt;refine ⟨p,_,rfl,SqL.of e1,by omega,λ H2 q s2 hq r2=> ?_⟩;refine k H2 q (s1.trans s2) (s1.free hq) ?_;have e:ovL n rs (true,kk)=(MM.nOf (rs.getD (kk - 1) 0)).map λ k=>((false,k):Th):=by
        unfold ovL;rw [if_pos rfl,MM.nOf_wide hlt]
      rw [e];exact r2.mono (λ _ _ q _=>q) λ _ h=>KQ s1 h
    | false=>
      refine Ev (λ z=>absurd z (by decide)) (λ _=> ?_);walk_at "w";have hk2:kk<=n:=by have:=ht.2;simpa using this
      have hk1:1<=kk:=ht.1;refine ⟨_,_,_,rfl,h1,rfl,?_⟩;walk_at "w";refine AS (v:=nV kk) (SqT.of hb) (Ax (j:=1) rfl) ?_;walk_at "w";refine ⟨x,n,rs,kk,rfl,C1,p2,hk1,by omega,λ H0 s0=> ?_⟩;walk_at "w";refine ⟨_,_,_,rfl,s0 _ _ h1,rfl,?_⟩;walk_at "w";refine ⟨x,n,rs,rfl,C1.same s0,?_⟩;walk_at "w";refine ⟨_,rs.length,rfl,by omega,?_⟩;walk_at "w";have hlt:((2 ^ rs.length - 1) ^^^ Kl rs kk)<2 ^ rs.length:=MM.other_lt (MM.ofB_lt _ _);refine ⟨_,rfl,Nat.lt_of_lt_of_le hlt (Nat.pow_le_pow_right (by decide) (by omega)),λ H1 p s1 hp e1=> ?_⟩;walk_at "w";have hnl:=MM.nOf_len hlt;refine ⟨p,_,rfl,SqL.of e1,by omega,λ H2 q s2 hq r2=> ?_⟩;have s01:=s0.trans s1;refine k H2 q (s01.trans s2) (s01.free hq) ?_;have e:ovL n rs (false,kk)=(MM.nOf ((2 ^ rs.length - 1) ^^^ Kl rs kk)).map λ k=>((true,k):Th):=by
        unfold ovL;rw [if_neg (by simp),MM.nOf_wide hlt];congr 2;refine List.filter_congr λ i hi=> ?_;rw [MM.other_bit (List.mem_range.mp hi)];unfold Kl;rw [MM.ofB_bit];simp [List.mem_range.mp hi]
      rw [e];exact r2.mono (λ _ _ q _=>q) λ _ h=>KQ s01 h
open MG
def ers (H:Hp) (d:Addr):Hp:=λ b=>if b=d then none else H b
theorem ED {H:Hp} {d b:Addr} {o:HO} (h:H b=some o) (n:b≠d):ers H d b=some o:=by unfold ers;rw [if_neg n];exact h
theorem Fj {H H0:Hp} {d:Addr} (s:Same H0 H) (h:H0 d=none):Same H0 (ers H d):=λ b o e=>ED (s b o e) (λ z=>by rw [z,h] at e;cases e)
theorem ers_is {H:Hp} {d:Addr}:Same (ers H d) H:=λ b o e=>by
  unfold ers at e;split at e
  · cases e
  · exact e
theorem Ip {H G:Hp} {d:Addr} {o:HO} (s:Same (ers H d) G):Same (ers H d) (upd G d o):=λ b u e=>by
  have n:b≠d:=λ z=>by rw [z] at e;unfold ers at e;rw [if_pos rfl] at e;cases e
  rw [Am n];exact s b u e
theorem Nn {H:Hp} {F:Addr->Prop} {n:Nat} {v:V} {d:Dt} {x:Addr} {kvs:List (List Key × V)} {o:HO} (r:Rp H F n v d) (h:H x=some (.dT kvs)):Rp (L2.upd H x o) F n v d:=by
  induction r with
  | non=>exact .non
  | bl b=>exact .bl b
  | int i=>exact .int i
  | str z=>exact .str z
  | @lst n a vs ds q f b l e ih=>
    refine .lst ?_ f b l ih;rw [Am (A8 q h (by intro z;cases z))];exact q
  | @tup n a vs ds q b l e ih=>
    refine .tup ?_ b l ih;rw [Am (A8 q h (by intro z;cases z))];exact q
structure OV (H:Hp) (kvs:List (List Key × V)) (U:List Th) (ad:Th->List Th):Prop where
  at_:∀ t∈U,∃ l,Bd kvs (thK t)=some (.ref l)/\Rp H FT 2 (.ref l) (.lst ((ad t).map dTh))
theorem OV.same {H H':Hp} {kvs:List (List Key × V)} {U:List Th} {ad:Th->List Th} (o:OV H kvs U ad) (s:Same H H'):OV H' kvs U ad:=⟨λ t ht=>by
  obtain ⟨l,e,r⟩:=o.at_ t ht;exact ⟨l,e,r.same s⟩⟩
theorem OV.put {H:Hp} {kvs kv0:List (List Key × V)} {U:List Th} {ad:Th->List Th} {d:Addr} {t:Th} {p:Addr} {o:HO} (ov:OV H kvs U ad) (hd:H d=some (.dT kv0)) (r:Rp H FT 2 (.ref p) (.lst ((ad t).map dTh))):OV (upd H d o) (Ct kvs (thK t) (.ref p)) (U++[t]) ad:=⟨λ u hu=>by
  by_cases e:u=t
  · subst e;exact ⟨p,by rw [F9,if_pos rfl],Nn r hd⟩
  · rcases List.mem_append.mp hu with z | z
    · obtain ⟨l,e1,r1⟩:=ov.at_ u z;exact ⟨l,by rw [F9,if_neg (λ q=>e (Dg q))];exact e1,Nn r1 hd⟩
    · exact absurd (List.mem_singleton.mp z) e⟩
theorem Cp {ts:List Th} {i:Nat} (h:i<ts.length):ts.take (i+1)=ts.take i++[ts.getD i (false,0)]:=by
  rw [List.take_add_one,List.getElem?_eq_getElem h,L2.getD_el h];rfl
def DH (c:Cs):Sp:=λ vs H Q _=>∃ x n rs,vs=[.ref x]/\ClAt c.Cloth H x n rs/\ClOk n rs/\∀ H' d kvs,Same H H'->H d=none->H' d=some (.dT kvs)->OV H' kvs (Ai n rs.length) (ovL n rs)->Q (.ref d) H'
abbrev Et:Stmt:=top 28
theorem sc_overs_of:FnScope ["cloth","overs","thread"] ["cloth"] (Ak Et):=⟨rfl,rfl,rfl,by decide +kernel,rfl,by decide +kernel,by decide +kernel⟩
theorem IK {f:Addr} {fd:FuncData} (F:Fun K "overs_of" "overs_of" Et f fd) (T:Txt K mg c) (c_threads_of:Ar P w K mg base "threads_of" 2 ["cloth"] (Cw c)) (c_over_of:Ar P w K mg base "over_of" 4 ["cloth","thread"] (GP c)):FnOk P w K mg base CX0 5 f fd ["cloth"] (DH c):=by
  refine F.ok sc_overs_of (λ vs H Q E h=> ?_) (λ cdv A outer s H vs Q E hr h=> ?_)
  · obtain ⟨x,n,rs,rfl,_⟩:=h;rfl
  · obtain ⟨x,n,rs,rfl,C0,ok,k⟩:=h;have hu1:=hr.units1;have n2:=ok.n2;have p2:=ok.p2;refine ⟨_,(Ad (Ao (i:=1) sc_overs_of.nd rfl (Or.inl rfl) E4)
      (Ad (A0 PassesOwn.never rfl (B0 (K:=K) (Ah c_threads_of (hr.mono (by decide)) (Aa (pv 0) Ab))) (As (i:=2) sc_overs_of.nd rfl (Or.inl rfl)) (Ag (EW hu1 (pv 1) (pv 2) (Ah c_over_of hr (Aa (pv 0) (Aa (pv 2) Ab))) rfl)))
      (Ag (Ap (pv 1))))),?_⟩
    walk_at "w";intro d hd;walk_at "w";have s1:=Aj (o:=HO.dT []) hd;refine ⟨x,n,rs,rfl,C0.same s1,ok,λ H2 m s2 hm r2=> ?_⟩;have hd2:=s2 _ _ (show upd H d (HO.dT []) d=_ from Ae);have s12:=s1.trans s2;have sE:=Fj s12 hd;walk_at "w";obtain ⟨m',refs,em,g2,_,t2,_⟩:=Du r2;cases em;have hmd:m≠d:=A8 g2 hd2 (by intro z;cases z);refine ⟨m,rfl,⟨_,SqL.of g2⟩,AM (H0:=ers H2 d) (Co (SqL.of (ED g2 hmd))) (λ i σ H3=>∃ y kvs,σ=[some (.ref x),some (.ref d),y]/\Same (ers H2 d) H3/\H3 d=some (.dT kvs)/\kvs.length<=i/\OV H3 kvs ((Ai n rs.length).take i) (ovL n rs)) ⟨_,[],rfl,ers_is,hd2,Nat.le_refl _,⟨λ t ht=>by cases ht⟩⟩ (λ i σ H3 ⟨_,_,_,s,_⟩=>s) ?_ ?_⟩
    · rintro i σ H' H3 hi ⟨y,kvs,rfl,s',hd',hl,ov⟩ s3;have hi':i<(Ai n rs.length).length:=by rw [<-t2.len];exact hi
      have sH:=s'.trans s3;have hd3:=s3 _ _ hd';obtain ⟨b,eb,hb⟩:=t2.at_ i hi';have hbd:b≠d:=A8 hb hd2 (by intro z;cases z);have hb3:=sH _ _ (ED hb hbd);rw [eb];walk_at "w";have hok:okT n rs.length ((Ai n rs.length).getD i (false,0)):=mem_allT.mp (L2.getD_mem hi');refine ⟨x,n,rs,b,_,rfl,C0.same (sE.trans sH),ok,hb3,hok,λ H4 p s4 hp r4=> ?_⟩;have hd4:=s4 _ _ hd3;have hb4:=s4 _ _ hb3;walk_at "w";have hlen:(Ai n rs.length).length<=120:=by rw [Aq];omega
      refine ⟨d,_,rfl,DPut.t (k:=thK ((Ai n rs.length).getD i (false,0))) hd4 hb4 (Nat.lt_of_le_of_lt (show kvs.length<=1000 by omega) (by decide)),?_⟩;walk_at "w";refine ⟨_,_,rfl,Ip (sH.trans s4),Ae,?_,?_⟩
      · have:=Bf kvs (thK ((Ai n rs.length).getD i (false,0))) (.ref p);omega
      · rw [Cp hi'];exact ((ov.same s3).same s4).put hd4 (r4.mono (λ _ _ q _=>q) λ _ _=>trivial)
    · rintro σ H3 ⟨y,kvs,rfl,s3,hd3,hl,ov⟩;have e:(Ai n rs.length).take refs.length=Ai n rs.length:=by rw [t2.len,List.take_length]
      rw [e] at ov;walk_at "w";exact k H3 d kvs (sE.trans s3) hd hd3 ov
inductive VR (R:Th->Option Th->V->Prop):Vis->List (List Key × V)->Prop where
  | nil:VR R [] []
  | cons {x:Th} {po:Option Th} {v:V} {vis:Vis} {kvs:List (List Key × V)} (h:R x po v) (t:VR R vis kvs):VR R ((x,po)::vis) ((thK x,v)::kvs)
theorem VR.snoc {R:Th->Option Th->V->Prop} {vis:Vis} {kvs:List (List Key × V)} {x:Th} {po:Option Th} {v:V} (h:VR R vis kvs) (r:R x po v):VR R (vis++[(x,po)]) (kvs++[(thK x,v)]):=by
  induction h with
  | nil=>exact .cons r .nil
  | cons h t ih=>exact .cons h ih
theorem VR.len {R:Th->Option Th->V->Prop} {vis:Vis} {kvs:List (List Key × V)} (h:VR R vis kvs):kvs.length=vis.length:=by
  induction h with
  | nil=>rfl
  | cons h t ih=>rw [List.length_cons,List.length_cons,ih]
theorem VR.val {R:Th->Option Th->V->Prop} {vis:Vis} {kvs:List (List Key × V)} (h:VR R vis kvs) (x:Th):(Bd kvs (thK x)=none/\has vis x=false)\/∃ p q po v,vis=p++(x,po)::q/\Bd kvs (thK x)=some v/\R x po v/\has vis x=true:=by
  induction h with
  | nil=>exact .inl ⟨rfl,rfl⟩
  | @cons y po v vis kvs h t ih=>
    by_cases e:y=x
    · subst e;exact .inr ⟨[],vis,po,v,rfl,AX rfl,h,by simp [has]⟩
    · have e2:Bd ((thK y,v)::kvs) (thK x)=Bd kvs (thK x):=AO (p:=(thK y,v)) (λ z=>e (Dg z));have e3:has ((y,po)::vis) x=has vis x:=by simp [has,e]
      rw [e2,e3];rcases ih with z | ⟨p,q,po',v',a,b,c,d⟩
      · exact .inl z
      · exact .inr ⟨(y,po)::p,q,po',v',by rw [a];rfl,b,c,d⟩
def N6 (H:Hp) (_:Th) (po:Option Th) (v:V):Prop:=match po with | none=>v= .non | some p=>TR H v p
open MG
theorem La {β:Type} (g:β->Th->β) (l:List Th) (acc:β) {j:Nat} (h:j<l.length):(l.take (j+1)).foldl g acc=g ((l.take j).foldl g acc) (l.getD j (false,0)):=by
  rw [Cp h,List.foldl_append];rfl
def BI:Sp:=λ vs H Q _=>∃ (o b:Addr) (kvo:List (List Key × V)) (U:List Th) (ad:Th->List Th) (one:Th),vs=[.ref o, .ref b]/\H o=some (.dT kvo)/\H b=some (.tup (thV one))/\OV H kvo U ad/\one∈U/\(∀ t∈U,∀ x∈ad t,x∈U)/\U.length<=1000/\
  ∀ H' d kvs vis,Same H H'->H d=none->H' d=some (.dT kvs)->VR (N6 H) vis kvs->End ad one vis->Lv U (vis,[])->Q (.ref d) H'
abbrev BY:Stmt:=top 29
theorem sc_threads_ahead:FnScope ["overs","one","ahead","met","later","thread","upper"] ["overs","one"] (Ak BY):=⟨rfl,rfl,rfl,by decide +kernel,rfl,by decide +kernel,by decide +kernel⟩
theorem Fh {f:Addr} {fd:FuncData} (F:Fun K "threads_ahead" "threads_ahead" BY f fd) (T:Txt K mg c):FnOk P w K mg base CX0 1 f fd ["overs","one"] BI:=by
  refine F.ok sc_threads_ahead (λ vs H Q E h=> ?_) (λ cdv A outer s H vs Q E hr h=> ?_)
  · obtain ⟨o,b,kvo,U,ad,one,rfl,_⟩:=h;rfl
  · obtain ⟨o,b,kvo,U,ad,one,rfl,ho,hb,ov,h1,cl,hU,k⟩:=h;have hu1:=hr.units1;refine ⟨_,(Ad (Ao (i:=2) sc_threads_ahead.nd rfl (Or.inl rfl) (N1 hu1 (pv 1) QV))
      (Ad (Ao (i:=3) sc_threads_ahead.nd rfl (Or.inl rfl) (AT (Aa (pv 1) Ab)))
      (Ad (EJ PassesOwn.never (AE P1 (Al (A6 (K:=K)) rfl (T.own _ (by decide)) boot_len (Aa (pv 3) Ab)) Ac (At _)) (Ad (Ao (i:=4) sc_threads_ahead.nd rfl (Or.inl rfl) (AT Ab))
      (Ad (A0 PassesOwn.never rfl (B0 (K:=K) (pv 3)) (As (i:=5) sc_threads_ahead.nd rfl (Or.inl rfl)) (Ag (A0 PassesOwn.never rfl (B0 (K:=K) (EY hu1 (pv 0) (pv 5) (λ _ _=>rfl))) (As (i:=6) sc_threads_ahead.nd rfl (Or.inl rfl)) (Ag (Bh (NB (LE hu1 (pv 6) (pv 2))) (Ad (EW hu1 (pv 2) (pv 6) (pv 5) rfl)
      (Ag (BC (ET (K:=K) PySem.F.plainAttrs_list PySem.F.slot_list_append PySem.F.type_list_append Bb (pv 4) (Aa (pv 6) Ab))))) AF)))))
      (Ag (Ao (i:=3) sc_threads_ahead.nd rfl (Or.inl rfl) (pv 4))))))
      (Ag (Ap (pv 2)))))),?_⟩
    walk_at "w";intro d hd;walk_at "w";have hbd:b≠d:=Au hb hd;refine ⟨_,_,rfl,b,thK one,rfl,(Am hbd).trans hb,Ae,?_⟩;rw [Op];have s1:=Aj (o:=HO.dT [(thK one,V.non)]) hd;have e1:upd H d (HO.dT [(thK one,V.non)]) d=_:=Ae;generalize upd H d (HO.dT [(thK one,V.non)])=H1 at s1 e1 ⊢;walk_at "w";intro m hm;walk_at "w";have s2:=Aj (o:=HO.lst [V.ref b]) hm;have e2:upd H1 m (HO.lst [V.ref b]) m=_:=Ae;replace e1:=s2 _ _ e1;generalize upd H1 m (HO.lst [V.ref b])=H2 at s2 e1 e2 ⊢;have LA:=Lv.all cl h1;refine ⟨λ w σ H'=>∃ (kk:Nat) (kvs:List (List Key × V)) (mt:Addr) (refs:List V) (x y z:Option V),σ=[some (.ref o),some (.ref b),some (.ref d),some (.ref mt),x,y,z]/\Same H H'/\H' d=some (.dT kvs)/\VR (N6 H) (lv ad one kk).1 kvs/\H' mt=some (.lst refs)/\TL H refs (lv ad one kk).2/\w=(U.length - (lv ad one kk).1.length)+(if (lv ad one kk).2=[] then 0 else 1),⟨_,0,_,m,_,_,_,_,rfl,s1.trans s2,e1, .cons rfl .nil,e2,TL.one ⟨b,rfl,hb⟩,rfl⟩,?_⟩;rintro w0 σ H' ⟨kk,kvs,mt,refs,x,y,z,rfl,sH,hd',vr,hmt,tl,rfl⟩;have sE:=Fj sH hd;have hmtd:mt≠d:=A8 hmt hd' (by intro z;cases z);walk_at "w";refine AD (SqL.of hmt) ?_;walk_at "w";refine Ev (λ hne=> ?_) (λ hne=> ?_)
    · have hne2:(lv ad one kk).2≠[]:=λ z=>by
        have:=tl.len;rw [z] at this;simp at this;rw [this] at hne;simp at hne
      refine ⟨λ σ' H''=>∃ (kvs2:List (List Key × V)) (q:Addr) (refs2:List V) (x y:Option V),σ'=[some (.ref o),some (.ref b),some (.ref d),some (.ref q),some (.ref q),x,y]/\Same H H''/\H'' d=some (.dT kvs2)/\VR (N6 H) (lv ad one (kk+1)).1 kvs2/\H'' q=some (.lst refs2)/\TL H refs2 (lv ad one (kk+1)).2,?_,?_⟩
      · rintro σ' H'' ⟨kvs2,q,refs2,x,y,rfl,s3,hd3,vr3,hq3,tl3⟩;refine ⟨_,?_,kk+1,kvs2,q,refs2,_,_,_,rfl,s3,hd3,vr3,hq3,tl3,rfl⟩;have hl:=(Lv.next cl (LA kk)).2;have hl2:=(LA (kk+1)).len;rw [if_neg hne2];have hlv:(lv ad one (kk+1)).1.length=(lv ad one kk).1.length+(lv ad one (kk+1)).2.length:=hl;by_cases q0:(lv ad one (kk+1)).2=[]
        · rw [if_pos q0];rw [q0] at hlv;simp at hlv;omega
        · rw [if_neg q0];have:1<=(lv ad one (kk+1)).2.length:=List.length_pos_iff.mpr q0;omega
      · walk_at "w";intro q hq;walk_at "w";have hqd:d≠q:=Au hd' hq;have hqE:ers H' d q=none:=by unfold ers;rw [if_neg hqd.symm];exact hq
        have sq:=Aj (o:=HO.lst []) hq;refine ⟨mt,rfl,⟨_,SqL.of (sq _ _ hmt)⟩,AM (H0:=ers H' d) (Co (SqL.of (ED hmt hmtd))) (λ i σ H3=>∃ (kv3:List (List Key × V)) (lr:List V) (y z:Option V),σ=[some (.ref o),some (.ref b),some (.ref d),some (.ref mt),some (.ref q),y,z]/\Same (ers H' d) H3/\H3 d=some (.dT kv3)/\VR (N6 H) (((lv ad one kk).2.take i).foldl (goT ad) ((lv ad one kk).1,[])).1 kv3/\H3 q=some (.lst lr)/\TL H lr (((lv ad one kk).2.take i).foldl (goT ad) ((lv ad one kk).1,[])).2) ⟨kvs,[],_,_,rfl,ers_is.trans sq,sq _ _ hd',vr,Ae,TL.nil⟩ (λ i σ H3 ⟨_,_,_,_,_,s,_⟩=>s) ?_ ?_⟩
        · rintro i σ G H3 hi ⟨kv3,lr,y,z,rfl,s',hd3,vr3,hq3,tl3⟩ s3;have hi':i<(lv ad one kk).2.length:=by rw [<-tl.len];exact hi
          replace hd3:=s3 _ _ hd3;replace hq3:=s3 _ _ hq3;have sG:=s'.trans s3;obtain ⟨bu,ebu,hbu⟩:=tl.at_ i hi';have hbu3:=sG _ _ (sE _ _ hbu);have huU:(lv ad one kk).2.getD i (false,0)∈U:=(LA kk).sub2 _ (L2.getD_mem hi');have g0:Good U (lv ad one kk).1.length ((lv ad one kk).1,([]:List Th)):=⟨(LA kk).nd,(LA kk).sub,λ x hx=>(by cases hx),rfl,(LA kk).pre⟩;have g3:=Good.lev cl ((lv ad one kk).2.take i) g0 λ u hu=>(LA kk).inn u (List.mem_of_mem_take hu);have hin:(lv ad one kk).2.getD i (false,0)∈(((lv ad one kk).2.take i).foldl (goT ad) ((lv ad one kk).1,[])).1.map (·.1):=K3 _ _ _ ((LA kk).inn _ (L2.getD_mem hi'));rw [ebu,La _ _ _ hi'];generalize (lv ad one kk).2.getD i (false,0)=u at hbu hbu3 huU hin ⊢;generalize ((lv ad one kk).2.take i).foldl (goT ad) ((lv ad one kk).1,[])=acc at vr3 tl3 g3 hin ⊢;obtain ⟨l,el,rl⟩:=ov.at_ u huU;obtain ⟨l',vl,e',hl,_,tlu,_⟩:=Du rl;cases e';walk_at "w";refine ⟨o, .ref l,rfl,el▸DGet.t (k:=thK u) (sG _ _ (sE _ _ ho)) hbu3,?_⟩;walk_at "w";refine ⟨l,rfl,⟨_,SqL.of (sG _ _ (sE _ _ hl))⟩,AM (H0:=ers H' d) (Co (SqL.of (sE _ _ hl))) (λ j σ H4=>∃ (kv4:List (List Key × V)) (lr4:List V) (z:Option V),σ=[some (.ref o),some (.ref b),some (.ref d),some (.ref mt),some (.ref q),some (.ref bu),z]/\Same (ers H' d) H4/\H4 d=some (.dT kv4)/\VR (N6 H) (((ad u).take j).foldl (A4 u) acc).1 kv4/\H4 q=some (.lst lr4)/\TL H lr4 (((ad u).take j).foldl (A4 u) acc).2) ⟨kv3,lr,_,rfl,sG,hd3,vr3,hq3,tl3⟩ (λ j σ H4 ⟨_,_,_,_,s,_⟩=>s) ?_ ?_⟩
          · rintro j σ G4 H4 hj ⟨kv4,lr4,z,rfl,s4',hd4,vr4,hq4,tl4⟩ s4;have hj':j<(ad u).length:=by rw [<-tlu.len];exact hj
            replace hd4:=s4 _ _ hd4;replace hq4:=s4 _ _ hq4;have sG4:=s4'.trans s4;obtain ⟨bx,ebx,hbx⟩:=tlu.at_ j hj';have hbx4:=sG4 _ _ (sE _ _ hbx);rw [ebx,La _ _ _ hj'];generalize (ad u).getD j (false,0)=xx at hbx hbx4 ⊢;have g4:=(Good.go (u:=u) ((ad u).take j) g3 (λ x hx=>cl u huU x (List.mem_of_mem_take hx)) hin).1.bound;generalize ((ad u).take j).foldl (A4 u) acc=ac at vr4 tl4 g4 ⊢;walk_at "w";refine ⟨d,_,rfl,DGet.t (k:=thK xx) hd4 hbx4,?_⟩;rcases vr4.val xx with ⟨v1,v2⟩ | ⟨_,_,_,vv,_,v1,_,v2⟩
            · rw [v1];have es:A4 u ac xx=(ac.1++[(xx,some u)],ac.2++[xx]):=by unfold A4;rw [v2,if_neg (by decide)]
              rw [es];refine ⟨true,rfl,?_⟩;walk_at "w";have hlen:kv4.length<sizeLine:=by
                rw [vr4.len];exact Nat.lt_of_le_of_lt (show _<=1000 by omega) (by decide)
              refine ⟨d,_,rfl,DPut.t (k:=thK xx) hd4 hbx4 hlen,?_⟩;rw [F1 _ v1];walk_at "w";have hq5:upd H4 d (HO.dT (kv4++[(thK xx,V.ref bu)])) q=_:=(Am hqd.symm).trans hq4;have hd5:upd H4 d (HO.dT (kv4++[(thK xx,V.ref bu)])) d=_:=Ae;have s5:=Ip (o:=HO.dT (kv4++[(thK xx,V.ref bu)])) sG4;generalize upd H4 d (HO.dT (kv4++[(thK xx,V.ref bu)]))=H5 at hq5 hd5 s5 ⊢;refine tyL (SqL.of hq5) ?_;walk_at "w";refine DM hq5 ?_ ?_
              · rw [tl4.len];omega
              walk_at "w";exact ⟨_,_,_,rfl,AQ s5 hqE,(Am hqd).trans hd5,vr4.snoc ⟨bu,rfl,hbu⟩,Ae,tl4.app (TL.one ⟨bx,rfl,hbx⟩)⟩
            · rw [v1];have es:A4 u ac xx=ac:=by unfold A4;rw [v2,if_pos rfl]
              rw [es];refine ⟨false,rfl,?_⟩;walk_at "w";exact ⟨kv4,lr4,_,rfl,sG4,hd4,vr4,hq4,tl4⟩
          · rintro σ H4 ⟨kv4,lr4,z,rfl,s4,hd4,vr4,hq4,tl4⟩;rw [tlu.len,List.take_length] at vr4 tl4;walk_at "w";exact ⟨kv4,lr4,_,_,rfl,s4,hd4,vr4,hq4,tl4⟩
        · rintro σ H3 ⟨kv3,lr,y,z,rfl,s3,hd3,vr3,hq3,tl3⟩;rw [tl.len,List.take_length] at vr3 tl3;walk_at "w";exact ⟨kv3,q,lr,_,_,rfl,sE.trans s3,hd3,vr3,hq3,tl3⟩
    · have hnil:(lv ad one kk).2=[]:=by
        have:=tl.len;cases h0:(lv ad one kk).2 with
        | nil=>rfl
        | cons a as=>
          rw [h0] at this;exact absurd (show (0:Int)<(refs.length:Nat) by rw [this];simp) hne
      have hend:lv ad one kk=((lv ad one kk).1,[]):=Prod.ext rfl hnil;walk_at "w";exact k H' d kvs _ sH hd hd' vr ⟨kk,hend⟩ (hend▸LA kk)
open MG
theorem MI {K:PySem.W.Frag} (d:Dt):PySem.W.kitAny K (.type (tyD d)) (["tuple","list"].map Value.type)=some (Cn d||B3 d):=by
  show (match PySem.W.kitOne K (.type (tyD d)) (.type "tuple") with
    | some true=>some true
    | some false=>(match PySem.W.kitOne K (.type (tyD d)) (.type "list") with
      | some true=>some true
      | some false=>some false
      | none=>none)
    | none=>none)=_
  rw [Dd,Mw];cases d <;> rfl
def Bo:Nat->Sp
  | 0=>λ _ _ _ _=>False
  | n+1=>λ vs H Q _=>∃ v u d,vs=[v,u]/\Rp H FT n v d/\Rp H FT n u d/\∀ H',Same H H'->Q (.bl true) H'
abbrev B6:Stmt:=top 40
theorem Hi:FnScope ["_law_found","_law_due_here"] ["_law_found","_law_due_here"] (Ak B6):=⟨rfl,rfl,rfl,by decide +kernel,rfl,by decide +kernel,by decide +kernel⟩
theorem Ga {n:Nat} {f:Addr} {fd:FuncData} (F:Fun K "_law_alike" "_law_alike" B6 f fd) (T:Txt K mg c) (c__law_alike:Ar P w K mg base "_law_alike" (n+1) ["_law_found","_law_due_here"] (Bo n)):FnOk P w K mg base CX0 (n+2) f fd ["_law_found","_law_due_here"] (Bo (n+1)):=by
  refine F.ok Hi (λ vs H Q E h=> ?_) (λ cdv A outer s H vs Q E hr h=> ?_)
  · obtain ⟨v,u,d,rfl,_⟩:=h;rfl
  · obtain ⟨v,u,d,rfl,rv,ru,k⟩:=h;refine ⟨_,(Ad (Bh (AZ (Al (Ig (K:=K)) rfl (T.own _ (by decide)) boot_isinstance (Aa (pv 1) (Aa (A5 (Aa (B4 rfl (T.own _ (by decide)) BV) (Aa (B4 rfl (T.own _ (by decide)) AI) Ab))) Ab)))) (Ad (Bh (PW.pt (Ft (AE Jw (Al (CC (K:=K)) rfl (T.own _ (by decide)) boot_isinstance (Aa (pv 0) (Aa (B4 rfl (T.own _ (by decide)) AI) Ab))) (Al (CC (K:=K)) rfl (T.own _ (by decide)) boot_isinstance (Aa (pv 1) (Aa (B4 rfl (T.own _ (by decide)) AI) Ab))) (At _)) (DJ (BA (AZ (Al (Ig (K:=K)) rfl (T.own _ (by decide)) boot_isinstance (Aa (pv 0) (Aa (A5 (Aa (B4 rfl (T.own _ (by decide)) BV) (Aa (B4 rfl (T.own _ (by decide)) AI) Ab))) Ab)))))))) (Ag (Ap Eg)) AF)
      (Ag (Ap (GK (Bj Bg (Al (A6 (K:=K)) rfl (T.own _ (by decide)) boot_len (Aa (pv 0) Ab)) (Al (A6 (K:=K)) rfl (T.own _ (by decide)) boot_len (Aa (pv 1) Ab)) (At _)) (GH (Al (P4 (K:=K)) rfl (T.own _ (by decide)) HF (Aa (Gh (K:=K) (R0 (K:=K) rfl (T.own _ (by decide)) (Aa (pv 0) (Aa (pv 1) Ab))) (λ _ _ _ _=>AY) (λ _ _ _ _=>(Ah c__law_alike hr (Aa (pv 0) (Aa (pv 1) Ab))))) Ab))))))) AF)
      (Ag (Ap (GK (Bj Bg (Al (CC (K:=K)) rfl (T.own _ (by decide)) boot_isinstance (Aa (pv 0) (Aa (B4 rfl (T.own _ (by decide)) boot_bool) Ab))) (Al (CC (K:=K)) rfl (T.own _ (by decide)) boot_isinstance (Aa (pv 1) (Aa (B4 rfl (T.own _ (by decide)) boot_bool) Ab))) (At _)) (GH (Bj Bg (pv 0) (pv 1) (At _))))))),?_⟩
    walk_at "w";intro p hp;walk_at "w";have sp:=Aj (o:=HO.tup [V.ty "tuple",V.ty "list"]) hp;refine GF (ns:=["tuple","list"]) Ae (ru.same sp).ty (MI d) ?_;have rv:=rv.same sp;have ru:=ru.same sp;generalize upd H p (HO.tup [V.ty "tuple",V.ty "list"])=H1 at rv ru sp ⊢;walk_at "w";refine Wu (λ hc=> ?_) (λ hc=> ?_)
    · walk_at "w";refine By rv.ty (Dd d) ?_;walk_at "w";refine By ru.ty (Dd d) ?_;walk_at "w";refine Mu (λ q=>absurd rfl q) (λ _=> ?_);walk_at "w";intro p2 hp2;walk_at "w";have sp2:=Aj (o:=HO.tup [V.ty "tuple",V.ty "list"]) hp2;refine GF (ns:=["tuple","list"]) Ae (rv.same sp2).ty (MI d) ?_;have rv:=rv.same sp2;have ru:=ru.same sp2;have sp:=sp.trans sp2;generalize upd H1 p2 (HO.tup [V.ty "tuple",V.ty "list"])=H1 at rv ru sp ⊢;rw [hc];walk_at "w";obtain ⟨m,a,xs,hm,rfl,sa,la,ba,ea⟩:=rv.seq (K:=K) hc;obtain ⟨m',b,zs,hm',rfl,sb,lb,bb,eb⟩:=ru.seq (K:=K) hc;subst hm;cases hm';refine KI sa ?_;walk_at "w";refine KI sb ?_;walk_at "w";refine Ev (λ _=> ?_) (λ q=>absurd (by rw [la,lb]) q);walk_at "w";refine ⟨B3 d,B3 d,a,b,rfl,⟨_,sa⟩,⟨_,sb⟩,λ D hD=> ?_⟩;refine Od (xs:=xs) (zs:=zs) (by omega) (λ i ys H'=>ys=(List.replicate i true).map V.bl/\Same H1 H'/\H' D=some (.lst ys)) ⟨rfl,AQ (Same.refl _) hD,Ae⟩ (λ i ys H' _ ⟨_,s,_⟩=>⟨sa.same s,sb.same s⟩) ?_ ?_
      · rintro i x z ys H' q hx hz ⟨rfl,s1,hl⟩ hq;refine ⟨((Kp.refl _).set rfl).set rfl,Rt ?_⟩;walk_at "w";have hi:i<(CW d).length:=by
          have:=(List.getElem?_eq_some_iff.mp hx).1;omega
        have hd:(CW d)[i]?=some (CW d)[i]:=List.getElem?_eq_getElem hi;have s2:Same H1 (upd H' q (HO.tup [x,z])):=s1.trans (Aj hq);refine ⟨x,z,(CW d)[i],rfl,(ea i x _ hx hd).same s2,(eb i z _ hz hd).same s2,λ H'' s3=> ?_⟩;have hl':H'' D=some (.lst ((List.replicate i true).map V.bl)):=s3 _ _ (Aj hq _ _ hl);refine ⟨hl',?_,?_,?_,Ae⟩
        · rw [List.length_map,List.length_replicate];exact Nat.lt_of_lt_of_le hi (Nat.le_trans (by omega) (show 100000<=sizeLine by decide))
        · rw [List.replicate_succ',List.map_append];rfl
        · exact AQ (s2.trans s3) hD
      · rintro ys H' ⟨rfl,s1,hl⟩;walk_at "w";refine Nt (SqL.of hl) ?_;have e:(List.replicate xs.length true).all id=true:=by simp
        rw [e];exact k H' (sp.trans s1)
    · walk_at "w";refine By rv.ty (Kq d) ?_;walk_at "w";refine By ru.ty (Kq d) ?_;walk_at "w";refine Ev (λ _=> ?_) (λ q=>absurd rfl q);walk_at "w";have e:=Os rv ru hc;subst e;refine ⟨L1 rv hc,?_⟩;rw [decide_eq_true rfl];exact k H1 sp
theorem CA {f:Addr} {fd:FuncData} (D:DefAt K mg "_law_alike" B6 ["_law_found","_law_due_here"] f fd) (T:Txt K mg c):∀ n,FnOk P w K mg base CX0 (n+1) f fd ["_law_found","_law_due_here"] (Bo n)
  | 0=>⟨λ _ _ _ _ h=>h.elim,λ _ _ _ _ _ _ _ _ _ _ _ _ _ h=>h.elim⟩
  | n+1=>Ga D.fn T (D.call (CA D T n))
theorem Ti:(10:Int) ^ (30:Int).toNat=1000000000000000000000000000000:=by decide +kernel
def Fb (x k:Int):Nat:=((x%1000000000000000000000000000000+7919*k+13)*(x%1000000000000000000000000000000+7919*k+13)%1000000007*48271%998244353 / 11).toNat
theorem ON (x k:Int):(x%1000000000000000000000000000000+7919*k+13)*(x%1000000000000000000000000000000+7919*k+13)%1000000007*48271%998244353 / 11=(Fb x k:Nat):=by
  unfold Fb;generalize (x%1000000000000000000000000000000+7919*k+13)*(x%1000000000000000000000000000000+7919*k+13)%1000000007*48271=Z;have c1:=Int.emod_nonneg Z (show (998244353:Int)≠0 by decide);omega
theorem KM (x k:Int):Fb x k<=90749486:=by
  unfold Fb;generalize (x%1000000000000000000000000000000+7919*k+13)*(x%1000000000000000000000000000000+7919*k+13)%1000000007*48271=Z;have c1:=Int.emod_nonneg Z (show (998244353:Int)≠0 by decide);have c2:=Int.emod_lt_of_pos Z (show (0:Int)<998244353 by decide);omega
def BQ:Sp:=λ vs H Q _=>∃ x k:Int,vs=[.int x, .int k]/\(0<=k/\k<=100000)/\Q (nV (Fb x k)) H
abbrev Dm:Stmt:=top 38
theorem sc__law_mixed:FnScope ["_law_cell","_law_k","_law_number"] ["_law_cell","_law_k"] (Ak Dm):=⟨rfl,rfl,rfl,by decide +kernel,rfl,by decide +kernel,by decide +kernel⟩
theorem Hk {f:Addr} {fd:FuncData} (F:Fun K "_law_mixed" "_law_mixed" Dm f fd) (T:Txt K mg c):FnOk P w K mg base CX0 1 f fd ["_law_cell","_law_k"] BQ:=by
  refine F.ok sc__law_mixed (λ vs H Q E h=> ?_) (λ cdv A outer s H vs Q E hr h=> ?_)
  · obtain ⟨x,k,rfl,_⟩:=h;rfl
  · obtain ⟨x,k,rfl,hk,q⟩:=h;refine ⟨_,(Ad (Ao (i:=2) sc__law_mixed.nd rfl (Or.inl rfl) (Af AA (Af AA (Af Az (pv 0) (Af Iv Ac Ac)) (Af Cg Ac (pv 1))) Ac))
      (Ag (Ap (Af AB (Af Az (Af Cg (Af Az (Af Oj (pv 2) (pv 2)) Ac) Ac) Ac) Ac)))),?_⟩
    walk_at "w";refine An ⟨by decide,by decide,by decide⟩ ?_;rw [Ti];walk_at "w";refine An (by decide) ?_;have b1:=Int.emod_nonneg x (show (1000000000000000000000000000000:Int)≠0 by decide);have b2:=Int.emod_lt_of_pos x (show (0:Int)<1000000000000000000000000000000 by decide);walk_at "w";refine An (.inl ⟨by decide,by decide⟩) ?_;walk_at "w";obtain ⟨N,eN,hN⟩:∃ N:Nat,x%1000000000000000000000000000000+7919*k+13=(N:Nat)/\N<2 ^ 900:=by
      refine ⟨(x%1000000000000000000000000000000+7919*k+13).toNat,by omega,?_⟩;refine Nat.lt_of_lt_of_le (show _<2000000000000000000000000000000 by omega) (by decide +kernel)
    refine An ⟨N,N,eN,eN,hN,hN⟩ ?_;walk_at "w";refine An (by decide) ?_;walk_at "w";refine An (.inr ⟨by decide,by decide⟩) ?_;walk_at "w";refine An (by decide) ?_;walk_at "w";refine An ⟨by decide,by decide⟩ ?_;rw [ON];exact q
def Dp (ns:List Int) (k:Nat):Int:=if ns=[] then (k:Int) else ns.getD (((k:Int)%(ns.length:Nat))).toNat 0
def Bq (K:PySem.W.Frag):Sp:=λ vs H Q _=>∃ (a:Addr) (ns:List Int) (k:Nat),vs=[.ref a,nV k]/\SqL K H a (ns.map V.int)/\ns.length<=63/\∀ H',Same H H'->Q (.int (Dp ns k)) H'
abbrev Cc:Stmt:=top 39
theorem FL:FnScope ["_law_script","_law_k"] ["_law_script","_law_k"] (Ak Cc):=⟨rfl,rfl,rfl,by decide +kernel,rfl,by decide +kernel,by decide +kernel⟩
theorem FE {f:Addr} {fd:FuncData} (F:Fun K "_law_cell_at" "_law_cell_at" Cc f fd) (T:Txt K mg c):FnOk P w K mg base CX0 1 f fd ["_law_script","_law_k"] (Bq K):=by
  refine F.ok FL (λ vs H Q E h=> ?_) (λ cdv A outer s H vs Q E hr h=> ?_)
  · obtain ⟨a,ns,k,rfl,_⟩:=h;rfl
  · obtain ⟨a,ns,k,rfl,sa,hn,q⟩:=h;have hu:=hr.units0;refine ⟨_,(Ag (Ap (NG (AE (PJ hu (K:=K)) (pv 0) (AT Ab) (At _)) (Av (Bc (K:=K)) (pv 0) (Af Az (pv 1) (Al (A6 (K:=K)) rfl (T.own _ (by decide)) boot_len (Aa (pv 0) Ab))) (λ _ _=>rfl)) (pv 1)))),?_⟩;walk_at "w";intro p hp;walk_at "w";have s1:=Aj (o:=HO.lst []) hp;refine KD (bs:=[]) (s1.seq sa) (SqL.of Ae) ?_;generalize upd H p (HO.lst [])=H1 at s1 ⊢;walk_at "w";refine Mu (λ h0=> ?_) (λ h0=> ?_)
    · walk_at "w";refine AD (s1.seq sa) ?_;walk_at "w";have hl:0<ns.length:=by
        cases ns with
        | nil=>simp at h0
        | cons _ _=>simp
      rw [List.length_map];refine An (by show (0:Int)<_;omega) ?_;have h0:=Int.emod_nonneg (k:Int) (show ((ns.length:Nat):Int)≠0 by omega);have h1:=Int.emod_lt_of_pos (k:Int) (show (0:Int)<(ns.length:Nat) by omega);refine AN (s1.seq sa) (DQ h0 h1) ?_;have e:Dp ns k=ns.getD (((k:Int)%(ns.length:Nat))).toNat 0:=by unfold Dp;rw [if_neg (λ z=>by rw [z] at hl;cases hl)]
      rw [e] at q;exact q H1 s1
    · walk_at "w";have e:Dp ns k=(k:Int):=by unfold Dp;rw [if_pos h0]
      rw [e] at q;exact q H1 s1
theorem Dh (s:Nat):(1:Int)*2 ^ ((s:Nat):Int).toNat=((2 ^ s:Nat):Int):=by
  rw [Int.one_mul,Int.toNat_natCast];simp
theorem Gn (x:Int) (s:Nat):x%((2 ^ s:Nat):Int)=(((x%(2 ^ s:Nat)).toNat:Nat):Int):=by
  have:=Int.emod_nonneg x (show ((2 ^ s:Nat):Int)≠0 by have:=Nat.two_pow_pos s;omega);omega
theorem Jl (x:Int) (s:Nat):(x%(2 ^ s:Nat)).toNat<2 ^ s:=by
  have h0:=Nat.two_pow_pos s;have:=Int.emod_lt_of_pos x (show (0:Int)<((2 ^ s:Nat):Int) by omega);have:=Int.emod_nonneg x (show ((2 ^ s:Nat):Int)≠0 by omega);omega
theorem Cq (s:Nat):(0:Int)<((2 ^ s:Nat):Int):=by have:=Nat.two_pow_pos s;omega
theorem KS (m s:Nat):((m:Nat):Int)*2 ^ ((s:Nat):Int).toNat=((m*2 ^ s:Nat):Int):=by
  rw [Int.toNat_natCast];push_cast;rfl
theorem Cm (m s:Nat):((m:Nat):Int) / 2 ^ ((s:Nat):Int).toNat=((m >>> s:Nat):Int):=by
  rw [Int.toNat_natCast,Nat.shiftRight_eq_div_pow];push_cast;rfl
theorem KA {n w:Nat} (h:n<2 ^ w) (hw:w<=60):((n:Nat):Int).natAbs<2 ^ 64:=by
  have:2 ^ w<=2 ^ 60:=Nat.pow_le_pow_right (by decide) hw;rw [Int.natAbs_natCast];omega
def Ds:Sp:=λ vs H Q _=>∃ m s z:Nat,vs=[nV m,nV s,nV z]/\m<2 ^ z/\s<=z/\z<=60/\∀ r:Nat,r<2 ^ z->r=(m*2 ^ s ||| m >>> (z - s))%2 ^ z->Q (nV r) H
abbrev CF:Stmt:=top 42
theorem F3:FnScope ["_law_mask","_law_steps_here","_law_size"] ["_law_mask","_law_steps_here","_law_size"] (Ak CF):=⟨rfl,rfl,rfl,by decide +kernel,rfl,by decide +kernel,by decide +kernel⟩
theorem Gb {f:Addr} {fd:FuncData} (F:Fun K "_law_turned" "_law_turned" CF f fd) (T:Txt K mg c):FnOk P w K mg base CX0 1 f fd ["_law_mask","_law_steps_here","_law_size"] Ds:=by
  refine F.ok F3 (λ vs H Q E h=> ?_) (λ cdv A outer s H vs Q E hr h=> ?_)
  · obtain ⟨m,s,z,rfl,_⟩:=h;rfl
  · obtain ⟨m,s,z,rfl,hm,hs,hz,q⟩:=h;refine ⟨_,(Ag (Ap (Af Az (Af Jk (Af Be (pv 0) (pv 1)) (Af DK (pv 0) (Af BD (pv 2) (pv 1)))) (Af Be Ac (pv 2))))),?_⟩;walk_at "w";refine An ⟨by omega,by omega,KA hm hz⟩ ?_;walk_at "w";rw [show ((z:Nat):Int) - ((s:Nat):Int)=((z - s:Nat):Int) by omega];refine An (by show (0:Int)<=_;omega) ?_;rw [KS,Cm];walk_at "w";rw [bO];refine An ⟨by omega,by omega,by decide⟩ ?_;rw [Dh];walk_at "w";refine An (Cq z) ?_;rw [show (((m*2 ^ s ||| m >>> (z - s):Nat):Int))%((2 ^ z:Nat):Int)=(((m*2 ^ s ||| m >>> (z - s))%2 ^ z:Nat):Int) by push_cast;rfl];exact q _ (Nat.mod_lt _ (Nat.two_pow_pos z)) rfl
theorem K1 (n A most:Nat) (hA:1<=A) (h:A<=most):∃ W:Nat,1+((n:Nat):Int)%(if ((most:Nat):Int) / (A:Nat)>1 then ((most:Nat):Int) / (A:Nat) else 1)=(W:Nat)/\1<=W/\A*W<=most:=by
  have e:((most:Nat):Int) / (A:Nat)=((most / A:Nat):Int):=by push_cast;rfl
  rw [e];have h1:1<=most / A:=(Nat.le_div_iff_mul_le hA).mpr (by omega);have e2:(if ((most / A:Nat):Int)>1 then ((most / A:Nat):Int) else 1)=((most / A:Nat):Int):=by split <;> omega
  rw [e2];refine ⟨1+n%(most / A),by push_cast;rfl,by omega,?_⟩;have h2:=Nat.mod_lt n h1;have h3:A*(1+n%(most / A))<=A*(most / A):=Nat.mul_le_mul_left A (by omega);exact Nat.le_trans h3 (Nat.mul_div_le most A)
theorem Kj (x:Int):(0:Int)<(if x>1 then x else 1):=by split <;> omega
theorem Kt {m A:Nat} (h:m<2 ^ A):∀ W:Nat,((List.range W).map λ k=>m*2 ^ (A*k)).sum<2 ^ (A*W)
  | 0=>by simp
  | W+1=>by
    have ih:=Kt h W;rw [List.range_succ,List.map_append,List.sum_append];simp only [List.map_cons,List.map_nil,List.sum_cons,List.sum_nil,Nat.add_zero];have e:2 ^ (A*(W+1))=2 ^ A*2 ^ (A*W):=by rw [Nat.mul_succ,Nat.pow_add,Nat.mul_comm]
    rw [e];have h2:(m+1)*2 ^ (A*W)<=2 ^ A*2 ^ (A*W):=Nat.mul_le_mul_right _ h;rw [Nat.add_mul,Nat.one_mul] at h2;omega
theorem HQ (n:Nat) (G:Nat->Nat):((List.range n).map λ i=>((G i:Nat):Int)).map V.int=((List.range n).map G).map nV:=by
  rw [List.map_map,List.map_map];rfl
structure ClIn (M n:Nat) (rs:List Nat):Prop where
  ok:ClOk n rs
  n2:n<=M
  p2:rs.length<=M
theorem M5 {α:Type} {as bs:List α} {n:Nat} (h:bs∈List.replicate n as):bs=as:=List.eq_of_mem_replicate h
def Ii (K:PySem.W.Frag):Sp:=λ vs H Q _=>∃ (a:Addr) (ns:List Int) (n M:Nat),vs=[.ref a,nV n,nV M]/\SqL K H a (ns.map V.int)/\ns.length<=63/\7<=M/\M<=60/\∀ H' p l n rs,Same H H'->H p=none->H l=none->H' p=some (.tup [nV n, .ref l])->H' l=some (.lst (rs.map nV))->ClIn M n rs->Q (.ref p) H'
abbrev BJ:Stmt:=top 43
theorem sc__law_told_over:FnScope ["_law_script","_law_number","_law_most","_law_across","_law_down","_law_wide","_law_high","_law_part"] ["_law_script","_law_number","_law_most"] (Ak BJ):=⟨rfl,rfl,rfl,by decide +kernel,rfl,by decide +kernel,by decide +kernel⟩
theorem EV {f:Addr} {fd:FuncData} (F:Fun K "_law_told_over" "_law_told_over" BJ f fd) (T:Txt K mg c) (c__law_mixed:Ar P w K mg base "_law_mixed" 1 ["_law_cell","_law_k"] BQ) (c__law_cell_at:Ar P w K mg base "_law_cell_at" 1 ["_law_script","_law_k"] (Bq K)):FnOk P w K mg base CX0 2 f fd ["_law_script","_law_number","_law_most"] (Ii K):=by
  refine F.ok sc__law_told_over (λ vs H Q E h=> ?_) (λ cdv A outer s H vs Q E hr h=> ?_)
  · obtain ⟨a,ns,n,M,rfl,_⟩:=h;rfl
  · obtain ⟨a,ns,n,M,rfl,sa,hn,m1,m2,k⟩:=h;refine ⟨_,(Ad (Gg (A5 (Aa (Af AA Ac (Af Az (pv 1) Ac)) (Aa (Af AA Ac (Af Az (Af AB (pv 1) Ac) Ac)) Ab))) (Gz (K:=K) rfl (A3 (As (i:=3) sc__law_told_over.nd rfl (Or.inr rfl)) (A3 (As (i:=4) sc__law_told_over.nd rfl (Or.inl rfl)) DU))))
      (Ad (Gg (A5 (Aa (Af AA Ac (Af Az (Af AB (pv 1) Ac) (Al Mj rfl (T.own _ (by decide)) HM (Aa Ac (Aa (Af AB (pv 2) (pv 3)) Ab))))) (Aa (Af AA Ac (Af Az (Af AB (pv 1) Ac) (Al Mj rfl (T.own _ (by decide)) HM (Aa Ac (Aa (Af AB (pv 2) (pv 4)) Ab))))) Ab))) (Gz (K:=K) rfl (A3 (As (i:=5) sc__law_told_over.nd rfl (Or.inr rfl)) (A3 (As (i:=6) sc__law_told_over.nd rfl (Or.inl rfl)) DU))))
      (Ad (GL (i:=7) sc__law_told_over.nd rfl (Or.inl rfl) (AL rfl (T.own _ (by decide)) (Aa (pv 4) Ab)) (λ _ _ _ _=>AY) (λ _ _ _ _=>(Af Az (Ah c__law_mixed hr (Aa (Ah c__law_cell_at hr (Aa (pv 2) (Aa (pv 0) Ab))) (Aa (pv 0) Ab))) (Af Be Ac (pv 1)))))
      (Ag (Ap (A5 (Aa (Af Cg (pv 3) (pv 5)) (Aa (Af M4 (LB (B0 (K:=K) (pv 7)) (λ _ _ _ _=>AY) (λ _ _ _ _=>(Al (P7 (K:=K)) rfl (T.own _ (by decide)) boot_sum (Aa (HD (fr:=[("_law_across",1),("_law_mask",0)]) (AL rfl (T.own _ (by decide)) (Aa (pv 2) Ab)) (λ _ _ _ _=>AY) (λ _ _ _ _=>(Af Be (pv 2) (Af Cg (pv 1) (pv 0))))) Ab)))) (pv 6)) Ab)))))))),?_⟩
    walk_at "w";refine An (by decide) ?_;walk_at "w";refine An ⟨by decide,by decide⟩ ?_;walk_at "w";refine An (by decide) ?_;walk_at "w";intro p1 hp1;obtain ⟨A,eA,A1,A2⟩:∃ A:Nat,1+((n:Nat):Int)%6=(A:Nat)/\1<=A/\A<=6:=⟨1+n%6,by omega,by omega,by omega⟩;obtain ⟨B,eB,B1,B2⟩:∃ A:Nat,1+((n:Nat):Int) / 6%6=(A:Nat)/\1<=A/\A<=6:=⟨1+n / 6%6,by omega,by omega,by omega⟩;rw [eA,eB];refine FX (SqT.of Ae) rfl ?_;have s1:=Aj (o:=HO.tup [V.int (A:Nat),V.int (B:Nat)]) hp1;generalize upd H p1 (HO.tup [V.int (A:Nat),V.int (B:Nat)])=H1 at s1 ⊢;walk_at "w";refine An ⟨by decide,by decide⟩ ?_;walk_at "w";refine An ⟨by omega,Int.lt_of_le_of_lt (show _<=(6:Int) by omega) (by decide)⟩ ?_;walk_at "w";refine An (Kj _) ?_;rw [show ((n:Nat):Int) / 36=((n / 36:Nat):Int) by omega];obtain ⟨W,eW,W1,W2⟩:=K1 (n / 36) A M A1 (by omega);walk_at "w";rw [eW];refine An ⟨by decide,by decide⟩ ?_;walk_at "w";refine An ⟨by omega,Int.lt_of_le_of_lt (show _<=(6:Int) by omega) (by decide)⟩ ?_;walk_at "w";refine An (Kj _) ?_;rw [show ((n:Nat):Int) / 360=((n / 360:Nat):Int) by omega];obtain ⟨Z,eZ,Z1,Z2⟩:=K1 (n / 360) B M B1 (by omega);walk_at "w";rw [eZ];intro p2 hp2;refine FX (SqT.of Ae) rfl ?_;have s2:=s1.trans (Aj (o:=HO.tup [V.int (W:Nat),V.int (Z:Nat)]) hp2);generalize upd H1 p2 (HO.tup [V.int (W:Nat),V.int (Z:Nat)])=H2 at s2 ⊢;walk_at "w";refine ⟨_,rfl,by omega,by omega,λ D hD=> ?_⟩;rw [Int.toNat_natCast];have sa2:=s2.seq sa;refine Bk (G:=λ i=>(((((Fb (Dp ns i) i:Nat):Int)%(2 ^ A:Nat)).toNat:Nat):Int)) (Bt rfl) hD (by omega) ?_ ?_
    · intro i H' R hi s kk;walk_at "w";refine ⟨a,ns,i,rfl,s.seq sa2,hn,λ H3 s3=> ?_⟩;walk_at "w";refine ⟨_,_,rfl,⟨by omega,by omega⟩,?_⟩;walk_at "w";refine An ⟨by omega,by omega,by decide⟩ ?_;rw [Dh];refine An (Cq A) ?_;rw [Gn];exact kk H3 s3
    intro H3 s3 hl3;rw [HQ] at hl3;generalize er:(List.range B).map (λ i=>(((Fb (Dp ns i) i:Nat):Int)%(2 ^ A:Nat)).toNat)=ps at hl3;have lps:ps.length=B:=by rw [<-er];simp
    have bps:∀ r∈ps,r<2 ^ A:=λ r hr=>by
      rw [<-er] at hr;obtain ⟨i,_,rfl⟩:=List.mem_map.mp hr;exact Jl _ _
    walk_at "w";refine An (.inl ⟨by omega,by omega⟩) ?_;rw [<-Int.natCast_mul];walk_at "w";refine ⟨D,rfl,⟨_,SqL.of hl3⟩,λ D4 hD4=> ?_⟩;refine Bk (G:=λ i=>((((List.range W).map λ k=>ps.getD i 0*2 ^ (A*k)).sum:Nat):Int)) (BW (SqL.of hl3) rfl) hD4 (by rw [List.length_map];omega) ?_ ?_
    · intro i H' R hi s kk;have hi':i<ps.length:=by simpa using hi
      rw [BU hi];walk_at "w";refine ⟨_,rfl,by omega,?_,λ D5 hD5=> ?_⟩
      · have:W<=A*W:=Nat.le_mul_of_pos_left W (by omega);omega
      rw [Int.toNat_natCast];have hW:W<=60:=by
        have:W<=A*W:=Nat.le_mul_of_pos_left W (by omega);omega
      refine Bk (G:=λ k=>((ps.getD i 0*2 ^ (A*k):Nat):Int)) (Bt rfl) hD5 (by omega) ?_ ?_
      · intro j H5 R5 hj s5 kk5;walk_at "w";refine An (.inl ⟨by omega,by omega⟩) ?_;rw [<-Int.natCast_mul];have hAj:A*j<=A*W:=Nat.mul_le_mul_left A (by omega);refine An ⟨by omega,by omega,KA (bps _ (getD_mem hi')) (by omega)⟩ ?_;rw [KS];exact kk5 H5 (Same.refl _)
      · intro H5 s5 hl5;walk_at "w";refine Nh (SqL.of hl5) ?_;rw [Ps];exact kk H5 s5
    intro H4 s4 hl4;rw [HQ,List.length_map] at hl4;walk_at "w";generalize eq:(List.range ps.length).map (λ i=>((List.range W).map λ k=>ps.getD i 0*2 ^ (A*k)).sum)=qs at hl4;have lqs:qs.length=B:=by rw [<-eq];simp [lps]
    have bqs:∀ r∈qs,r<2 ^ (A*W):=λ r hr=>by
      rw [<-eq] at hr;obtain ⟨i,hi,rfl⟩:=List.mem_map.mp hr;exact Kt (bps _ (getD_mem (List.mem_range.mp hi))) W
    have hBZ:B*Z<=60:=by omega
    have hZ:Z<=60:=by
      have:Z<=B*Z:=Nat.le_mul_of_pos_left Z (by omega);omega
    refine No hl4 (by omega) (by omega) (by simp;omega) λ p5 hp5=> ?_;walk_at "w";have e5:(List.replicate ((Z:Nat):Int).toNat (qs.map nV)).flatten=((List.replicate Z qs).flatten).map nV:=by
      rw [Int.toNat_natCast,List.map_flatten,List.map_replicate]
    rw [e5];have s5:=Aj (o:=HO.lst (((List.replicate Z qs).flatten).map nV)) hp5;have h5:upd H4 p5 (HO.lst (((List.replicate Z qs).flatten).map nV)) p5=_:=Ae;generalize upd H4 p5 (HO.lst (((List.replicate Z qs).flatten).map nV))=H5 at s5 h5 ⊢;intro p6 hp6;have s24:=s2.trans (s3.trans s4);have s6:=Aj (o:=HO.tup [V.int ((A*W:Nat):Int),V.ref p5]) hp6;have hlen:((List.replicate Z qs).flatten).length=B*Z:=by
      rw [List.length_flatten,List.map_replicate,List.sum_replicate_nat,lqs,Nat.mul_comm]
    have hAW:A<=A*W:=Nat.le_mul_of_pos_right A (by omega);have hBZ1:B<=B*Z:=Nat.le_mul_of_pos_right B (by omega);refine k _ p6 p5 (A*W) ((List.replicate Z qs).flatten) (s24.trans (s5.trans s6)) (s24.free (s5.free hp6)) (s24.free hp5) Ae (s6 _ _ h5) ⟨⟨by omega,by omega,by rw [hlen];omega,by rw [hlen];omega,λ r hr=> ?_⟩,W2,by rw [hlen];exact Z2⟩;obtain ⟨l,hl,hrl⟩:=List.mem_flatten.mp hr;rw [M5 hl] at hrl;exact bqs r hrl
def C6 (K:PySem.W.Frag):Sp:=λ vs H Q _=>∃ (a:Addr) (ns:List Int) (n e p:Nat),vs=[.ref a,nV n,nV e,nV p]/\SqL K H a (ns.map V.int)/\ns.length<=63/\1<=e/\e<=60/\1<=p/\p<=60/\∀ H' q l rs,Same H H'->H q=none->H l=none->H' q=some (.tup [nV e, .ref l])->H' l=some (.lst (rs.map nV))->rs.length=p->ClOk e rs->Q (.ref q) H'
abbrev DN:Stmt:=top 44
theorem sc__law_laid:FnScope ["_law_script","_law_number","_law_ends","_law_picks","_law_many","_law_uppers_here","_law_rows","_law_pick","_law_cell","_law_own","_law_bits","_law_end"] ["_law_script","_law_number","_law_ends","_law_picks"] (Ak DN):=⟨rfl,rfl,rfl,by decide +kernel,rfl,by decide +kernel,by decide +kernel⟩
theorem Iy {f:Addr} {fd:FuncData} (F:Fun K "_law_laid" "_law_laid" DN f fd) (T:Txt K mg c) (c__law_mixed:Ar P w K mg base "_law_mixed" 1 ["_law_cell","_law_k"] BQ) (c__law_cell_at:Ar P w K mg base "_law_cell_at" 1 ["_law_script","_law_k"] (Bq K)):FnOk P w K mg base CX0 2 f fd ["_law_script","_law_number","_law_ends","_law_picks"] (C6 K):=by
  refine F.ok sc__law_laid (λ vs H Q E h=> ?_) (λ cdv A outer s H vs Q E hr h=> ?_)
  · obtain ⟨a,ns,n,e,p,rfl,_⟩:=h;rfl
  · obtain ⟨a,ns,n,e,p,rfl,sa,hn,e1,e2,p1,p2,k⟩:=h;refine ⟨_,(Ad (Ao (i:=4) sc__law_laid.nd rfl (Or.inr rfl) (Af AA Ac (Af Az (pv 1) Ac)))
      (Ad (GL (i:=5) sc__law_laid.nd rfl (Or.inl rfl) (AL rfl (T.own _ (by decide)) (Aa (pv 2) Ab)) (λ _ _ _ _=>AY) (λ _ _ _ _=>(Af Az (Ah c__law_mixed hr (Aa (Ah c__law_cell_at hr (Aa (pv 2) (Aa (Af AA (pv 0) Ac) Ab))) (Aa (Af AA (pv 0) Ac) Ab))) (pv 1))))
      (Ad (Ao (i:=6) sc__law_laid.nd rfl (Or.inl rfl) (AT Ab))
      (Ad (A0 PassesOwn.never rfl (AL rfl (T.own _ (by decide)) (Aa (pv 3) Ab)) (As (i:=7) sc__law_laid.nd rfl (Or.inl rfl)) (Ad (Ao (i:=8) sc__law_laid.nd rfl (Or.inl rfl) (Ah c__law_cell_at hr (Aa (pv 0) (Aa (Af AA (pv 7) Ac) Ab))))
      (Ad (Ao (i:=9) sc__law_laid.nd rfl (Or.inl rfl) (Af Az (Ah c__law_mixed hr (Aa (pv 8) (Aa (pv 7) Ab))) (pv 4)))
      (Ad (Ao (i:=10) sc__law_laid.nd rfl (Or.inl rfl) (Af Cg (Ah c__law_mixed hr (Aa (pv 8) (Aa (Af AA (pv 7) Ac) Ab))) (Af Iv Ac Ac)))
      (Ad (A0 PassesOwn.never rfl (AL rfl (T.own _ (by decide)) (Aa (pv 2) Ab)) (As (i:=11) sc__law_laid.nd rfl (Or.inl rfl)) (Ag (Bh (AE Jw (Av (Bc (K:=K)) (pv 5) (pv 11) (λ _ _=>rfl)) (pv 9) (At _)) (Ag (Ao (i:=10) sc__law_laid.nd rfl (Or.inl rfl) (Af AA (Af AA (Af BD (pv 10) (Af Az (pv 10) (Af Be Ac (Af AA (pv 11) Ac)))) (Af Az (pv 10) (Af Be Ac (pv 11)))) (Af Be (BO Ql rfl (T.own _ (by decide)) boot_int (Aa (Bj PL (Av (Bc (K:=K)) (pv 5) (pv 11) (λ _ _=>rfl)) (pv 9) (At _)) Ab)) (pv 11))))) AF)))
      (Ag (BC (ET (K:=K) PySem.F.plainAttrs_list PySem.F.slot_list_append PySem.F.type_list_append Bb (pv 6) (Aa (Af Az (pv 10) (Af Be Ac (pv 2))) Ab)))))))))
      (Ag (Ap (A5 (Aa (pv 2) (Aa (pv 6) Ab))))))))),?_⟩
    walk_at "w";refine An (by decide) ?_;walk_at "w";obtain ⟨M,eM,M1,M2⟩:∃ A:Nat,2+((n:Nat):Int)%3=(A:Nat)/\2<=A/\A<=4:=⟨2+n%3,by omega,by omega,by omega⟩;rw [eM];refine ⟨_,rfl,by omega,by omega,λ D hD=> ?_⟩;rw [Int.toNat_natCast];refine Bk (G:=λ i=>((Fb (Dp ns (i+1)) ((i:Int)+9)%M:Nat):Int)) (Bt rfl) hD (by omega) ?_ ?_
    · intro i H' R hi s kk;walk_at "w";refine ⟨a,ns,i+1,rfl,s.seq sa,hn,λ H3 s3=> ?_⟩;walk_at "w";refine ⟨_,_,rfl,⟨by omega,by omega⟩,?_⟩;walk_at "w";refine An (by show (0:Int)<_;omega) ?_;rw [<-Int.natCast_emod];exact kk H3 s3
    intro H1 s1 hl1;rw [HQ] at hl1;generalize er:(List.range e).map (λ i:Nat=>Fb (Dp ns (i+1)) ((i:Int)+9)%M)=us at hl1;have lus:us.length=e:=by rw [<-er];simp
    walk_at "w";intro q hq;walk_at "w";have s2:=Aj (o:=HO.lst []) hq;refine ⟨_,rfl,by omega,by omega,AM (H0:=H1) (BM (n:=p)) (λ i σ H3=>∃ x y z u v,∃ rs:List Nat,σ=[some (.ref a),some (nV n),some (nV e),some (nV p),some (nV M),some (.ref D),some (.ref q),x,y,z,u,v]/\Same H1 H3/\H3 q=some (.lst (rs.map nV))/\rs.length=i/\∀ r∈rs,r<2 ^ e) ⟨_,_,_,_,_,[],rfl,s2,Ae,rfl,by simp⟩ (λ i σ H3 ⟨_,_,_,_,_,_,_,s,_⟩=>s) ?_ ?_⟩
    · rintro i σ H' H3 hi ⟨x,y,z,u,v,rs,rfl,s',hq',lrs,brs⟩ s3;have hq3:=s3 _ _ hq';have sH:=s'.trans s3;walk_at "w";refine ⟨a,ns,i+1,rfl,(s1.trans sH).seq sa,hn,λ H4 s4=> ?_⟩;generalize Dp ns (i+1)=C;walk_at "w";refine ⟨_,_,rfl,⟨by omega,by omega⟩,?_⟩;walk_at "w";refine An (by show (0:Int)<_;omega) ?_;rw [<-Int.natCast_emod];generalize Fb C ((i:Nat):Int)%M=O;walk_at "w";refine ⟨_,_,rfl,⟨by omega,by omega⟩,?_⟩;have hm:=KM C (((i:Nat):Int)+3);generalize Fb C (((i:Nat):Int)+3)=B at hm ⊢;walk_at "w";refine An ⟨by decide,by decide,by decide⟩ ?_;walk_at "w";refine An (.inl ⟨by omega,by omega⟩) ?_;generalize ((B:Nat):Int)*48271 ^ (5:Int).toNat=b0;walk_at "w";refine ⟨_,rfl,by omega,by omega,ES (BM (n:=e)) (λ j σ H5=>∃ w,∃ b:Int,σ=[some (.ref a),some (nV n),some (nV e),some (nV p),some (nV M),some (.ref D),some (.ref q),some (nV i),some (.int C),some (nV O),some (.int b),w]/\Same H4 H5) ⟨_,_,rfl,Same.refl _⟩ (λ j σ H5 ⟨_,_,_,s⟩=>s) ?_ ?_⟩
      · rintro j σ H6 H5 hj ⟨w0,b,rfl,s6⟩ s5;have s45:=s6.trans s5;have hu5:=s45 _ _ (s4 _ _ (sH _ _ hl1));walk_at "w";refine AN (SqL.of hu5) (Bp (by omega) (by omega)) ?_;walk_at "w";refine Mu (λ h0=> ?_) (λ h0=> ?_)
        · walk_at "w";rw [show ((j:Nat):Int)+1=((j+1:Nat):Int) by omega];refine An ⟨by omega,by omega,by decide⟩ ?_;rw [Dh];walk_at "w";refine An (Cq _) ?_;walk_at "w";refine An ⟨by omega,by omega,by decide⟩ ?_;rw [Dh];walk_at "w";refine An (Cq _) ?_;walk_at "w";refine AN (SqL.of hu5) (Bp (by omega) (by omega)) ?_;walk_at "w";refine ⟨_,rfl,?_⟩;walk_at "w";refine An ⟨by omega,by omega,by split <;> decide⟩ ?_;walk_at "w";exact ⟨_,_,rfl,s45⟩
        · walk_at "w";exact ⟨_,_,rfl,s45⟩
      · rintro σ H5 ⟨w0,b,rfl,s5⟩;have s45:=s4.trans s5;have hq5:=s45 _ _ hq3;walk_at "w";refine tyL (SqL.of hq5) ?_;walk_at "w";refine An ⟨by omega,by omega,by decide⟩ ?_;rw [Dh];walk_at "w";refine An (Cq _) ?_;rw [Gn];walk_at "w";refine DM hq5 (by rw [List.length_map];omega) ?_;walk_at "w";refine ⟨_,_,_,_,_,rs++[(b%(2 ^ e:Nat)).toNat],rfl,AQ (sH.trans s45) hq,?_,by simp [lrs],λ m hm=> ?_⟩
        · rw [Ae,List.map_append];rfl
        · rcases List.mem_append.mp hm with z | z
          · exact brs m z
          · rw [List.mem_singleton.mp z];exact Jl _ _
    · rintro σ H3 ⟨x,y,z,u,v,rs,rfl,s3,hq3,lrs,brs⟩;walk_at "w";intro p4 hp4;have s4:=Aj (o:=HO.tup [nV e, .ref q]) hp4;have s13:=s1.trans s3;exact k _ p4 q rs (s13.trans s4) (s13.free hp4) (s1.free hq) Ae (s4 _ _ hq3) lrs ⟨e1,e2,by omega,by omega,brs⟩
theorem EU {P:Int->Prop} {l:List Int} {k:Nat} (h:k<l.length) (H:∀ x∈l,P x):P (l.getD k 0):=H _ (L2.getD_mem h)
def Ej:Sp:=λ vs H Q _=>∃ n e M:Nat,vs=[nV n,nV e,nV M]/\n<=1000000000/\7<=M/\M<=60/\1<=e/\e<=M/\∀ H' p l n rs,Same H H'->H p=none->H l=none->H' p=some (.tup [nV n, .ref l])->H' l=some (.lst (rs.map nV))->ClIn M n rs->Q (.ref p) H'
abbrev CS:Stmt:=top 45
theorem sc__law_steps:FnScope ["_law_number","_law_ends","_law_most","_law_step","_law_rows","_law_k"] ["_law_number","_law_ends","_law_most"] (Ak CS):=⟨rfl,rfl,rfl,by decide +kernel,rfl,by decide +kernel,by decide +kernel⟩
theorem Hb {f:Addr} {fd:FuncData} (F:Fun K "_law_steps" "_law_steps" CS f fd) (T:Txt K mg c) (c__law_turned:Ar P w K mg base "_law_turned" 1 ["_law_mask","_law_steps_here","_law_size"] Ds):FnOk P w K mg base CX0 2 f fd ["_law_number","_law_ends","_law_most"] Ej:=by
  refine F.ok sc__law_steps (λ vs H Q E h=> ?_) (λ cdv A outer s H vs Q E hr h=> ?_)
  · obtain ⟨n,e,M,rfl,_⟩:=h;rfl
  · obtain ⟨n,e,M,rfl,n2,m1,m2,e1,e2,k⟩:=h;refine ⟨_,(Ad (Ao (i:=1) sc__law_steps.nd rfl (Or.inl rfl) (Av (Bc (K:=K)) (AT (Aa (pv 1) (Aa (Af AA Ac (Af Az (Af AB (pv 0) Ac) Ac)) (Aa Ac (Aa Ac Ab))))) (Af Az (Af AB (pv 0) Ac) Ac) (λ _ _=>rfl)))
      (Ad (Ao (i:=3) sc__law_steps.nd rfl (Or.inl rfl) (Af Az (Af AB (pv 0) Ac) (pv 1)))
      (Ad (Ao (i:=4) sc__law_steps.nd rfl (Or.inl rfl) (AT (Aa (Af Az (Av (Bc (K:=K)) (AT (Aa Ac (Aa (Af BD (Af Be Ac (pv 1)) Ac) (Aa (Af Cg (pv 0) (Af Iv Ac Ac)) Ab)))) (Af Az (pv 0) Ac) (λ _ _=>rfl)) (Af Be Ac (pv 1))) Ab)))
      (Ad (A0 PassesOwn.never rfl (AL rfl (T.own _ (by decide)) (Aa (Af BD (Av (Bc (K:=K)) (AT (Aa (pv 1) (Aa (Af Cg Ac (pv 1)) (Aa (Af AA Ac (Af Az (Af AB (pv 0) Ac) (pv 2))) Ab)))) (Af Az (Af AB (pv 0) Ac) Ac) (λ _ _=>rfl)) Ac) Ab)) (As (i:=5) sc__law_steps.nd rfl (Or.inl rfl)) (Ag (BC (ET (K:=K) PySem.F.plainAttrs_list PySem.F.slot_list_append PySem.F.type_list_append Bb (pv 4) (Aa (Ah c__law_turned hr (Aa (Av (Bc (K:=K)) (pv 4) (KN N0 Ac) (λ _ _=>rfl)) (Aa (pv 3) (Aa (pv 1) Ab)))) Ab)))))
      (Ag (Ap (A5 (Aa (pv 1) (Aa (IR (Pz (K:=K)) (pv 4) Oz (Ic (pv 2))) Ab))))))))),?_⟩
    walk_at "w";refine An ⟨by decide,by decide⟩ ?_;walk_at "w";refine An (by decide) ?_;walk_at "w";intro p1 hp1;walk_at "w";have s1:=Aj (o:=HO.lst [nV e,V.int (2+(n:Int) / 17%6),V.int 3,V.int 5]) hp1;have h1:upd H p1 (HO.lst [nV e,V.int (2+(n:Int) / 17%6),V.int 3,V.int 5]) p1=some (.lst (([(e:Int),2+(n:Int) / 17%6,3,5]:List Int).map V.int)):=Ae;generalize upd H p1 (HO.lst [nV e,V.int (2+(n:Int) / 17%6),V.int 3,V.int 5])=H1 at s1 h1 ⊢;refine An ⟨by decide,by decide⟩ ?_;walk_at "w";refine An (by decide) ?_;refine AN (SqL.of h1) (DQ (by omega) (by show _<((4:Nat):Int);omega)) ?_;obtain ⟨E0,eE,E1,E2⟩:∃ E0:Nat,([(e:Int),2+(n:Int) / 17%6,3,5]:List Int).getD ((n:Int) / 5%4).toNat 0=(E0:Nat)/\1<=E0/\E0<=M:=by
      refine EU (P:=λ x=>∃ E0:Nat,x=(E0:Nat)/\1<=E0/\E0<=M) (by show _<4;omega) λ x hx=>⟨x.toNat,?_⟩;simp only [List.mem_cons,List.not_mem_nil,or_false] at hx;omega
    rw [eE];walk_at "w";refine An ⟨by decide,by decide⟩ ?_;walk_at "w";refine An (by show (0:Int)<_;omega) ?_;rw [show (n:Int) / 7%(E0:Nat)=((n / 7%E0:Nat):Int) by push_cast;rfl];have hst:n / 7%E0<E0:=Nat.mod_lt _ (by omega);generalize n / 7%E0=S at hst ⊢;walk_at "w";refine An ⟨by omega,by omega,by decide⟩ ?_;rw [Dh];walk_at "w";refine An ⟨by decide,by decide,by decide⟩ ?_;walk_at "w";refine An (.inl ⟨by omega,by omega⟩) ?_;generalize ((n:Nat):Int)*7919 ^ (5:Int).toNat=Z;walk_at "w";intro p2 hp2;walk_at "w";have s2:=Aj (o:=HO.lst [V.int 1,V.int (((2 ^ E0:Nat):Int) - 2),V.int Z]) hp2;have h2:upd H1 p2 (HO.lst [V.int 1,V.int (((2 ^ E0:Nat):Int) - 2),V.int Z]) p2=some (.lst (([1,((2 ^ E0:Nat):Int) - 2,Z]:List Int).map V.int)):=Ae;generalize upd H1 p2 (HO.lst [V.int 1,V.int (((2 ^ E0:Nat):Int) - 2),V.int Z])=H2 at s2 h2 ⊢;refine An (by decide) ?_;refine AN (SqL.of h2) (DQ (by omega) (by show _<((3:Nat):Int);omega)) ?_;generalize ([1,((2 ^ E0:Nat):Int) - 2,Z]:List Int).getD ((n:Int)%3).toNat 0=Y;walk_at "w";refine An ⟨by omega,by omega,by decide⟩ ?_;rw [Dh];refine An (Cq _) ?_;rw [Gn];have hY:=Jl Y E0;generalize (Y%(2 ^ E0:Nat)).toNat=y at hY ⊢;walk_at "w";intro q hq;walk_at "w";have sq:=Aj (o:=HO.lst [nV y]) hq;have s02:=s1.trans s2;refine An (.inl ⟨by decide,by decide⟩) ?_;walk_at "w";refine An ⟨by decide,by decide⟩ ?_;walk_at "w";refine An (by show (0:Int)<_;omega) ?_;walk_at "w";intro p3 hp3;walk_at "w";have s3:=Aj (o:=HO.lst [nV E0,V.int (2*(E0:Int)),V.int (1+(n:Int) / 11%(M:Nat))]) hp3;have h3:upd (upd H2 q (HO.lst [nV y])) p3 (HO.lst [nV E0,V.int (2*(E0:Int)),V.int (1+(n:Int) / 11%(M:Nat))]) p3=some (.lst (([(E0:Int),2*(E0:Int),1+(n:Int) / 11%(M:Nat)]:List Int).map V.int)):=Ae;have hq3:=s3 _ _ (show upd H2 q (HO.lst [nV y]) q=_ from Ae);have s23:=sq.trans s3;generalize upd (upd H2 q (HO.lst [nV y])) p3 (HO.lst [nV E0,V.int (2*(E0:Int)),V.int (1+(n:Int) / 11%(M:Nat))])=H3 at s23 h3 hq3 ⊢;refine An ⟨by decide,by decide⟩ ?_;walk_at "w";refine An (by decide) ?_;refine AN (SqL.of h3) (DQ (by omega) (by show _<((3:Nat):Int);omega)) ?_;obtain ⟨X,eX,X1,X2⟩:∃ X:Int,([(E0:Int),2*(E0:Int),1+(n:Int) / 11%(M:Nat)]:List Int).getD ((n:Int) / 3%3).toNat 0=X/\1<=X/\X<=120:=by
      refine EU (P:=λ x=>∃ X:Int,x=X/\1<=X/\X<=120) (by show _<3;omega) λ x hx=>⟨x,rfl,?_⟩;have c1:=Int.emod_nonneg ((n:Int) / 11) (show ((M:Nat):Int)≠0 by omega);have c2:=Int.emod_lt_of_pos ((n:Int) / 11) (show (0:Int)<((M:Nat):Int) by omega);simp only [List.mem_cons,List.not_mem_nil,or_false] at hx;omega
    rw [eX];walk_at "w";refine ⟨_,rfl,by omega,by omega,AM (H0:=H2) (BM (n:=(X - 1).toNat)) (λ i σ H4=>∃ x,∃ (rs:List Nat) (r:Nat),σ=[some (nV n),some (nV E0),some (nV M),some (nV S),some (.ref q),x]/\Same H2 H4/\H4 q=some (.lst ((rs++[r]).map nV))/\rs.length=i/\∀ m∈rs++[r],m<2 ^ E0) ⟨_,[],y,rfl,s23,hq3,rfl,by simpa using hY⟩ (λ i σ H4 ⟨_,_,_,_,s,_⟩=>s) ?_ ?_⟩
    · rintro i σ H' H4 hi ⟨x,rs,r,rfl,s',hq',lrs,brs⟩ s4;have hq4:=s4 _ _ hq';have sH:=s'.trans s4;walk_at "w";refine tyL (SqL.of hq4) ?_;walk_at "w";refine AN (v:=nV r) (SqL.of hq4) (by rw [List.map_append];exact Nr _ _) ?_;walk_at "w";refine ⟨r,S,E0,rfl,brs r (by simp),by omega,by omega,λ r' hr' _=> ?_⟩;walk_at "w";refine DM hq4 (by rw [List.length_map,List.length_append,List.length_singleton];omega) ?_;walk_at "w";refine ⟨_,rs++[r],r',rfl,AQ sH hq,?_,by simp [lrs],λ m hm=> ?_⟩
      · rw [Ae,List.map_append (l₁:=rs++[r])];rfl
      · rcases List.mem_append.mp hm with z | z
        · exact brs m z
        · rw [List.mem_singleton.mp z];exact hr'
    · rintro σ H4 ⟨x,rs,r,rfl,s4,hq4,lrs,brs⟩;walk_at "w";refine Nz (SqL.of hq4) λ p5 hp5=> ?_;rw [RL (by omega),Int.toNat_natCast, <-List.map_take];walk_at "w";have s5:=Aj (o:=HO.lst (((rs++[r]).take M).map nV)) hp5;have h5:upd H4 p5 (HO.lst (((rs++[r]).take M).map nV)) p5=_:=Ae;generalize upd H4 p5 (HO.lst (((rs++[r]).take M).map nV))=H5 at s5 h5 ⊢;intro p6 hp6;have s6:=Aj (o:=HO.tup [nV E0, .ref p5]) hp6;have s04:=s02.trans s4;have hl:((rs++[r]).take M).length<=M/\1<=((rs++[r]).take M).length:=by
        rw [List.length_take,List.length_append,List.length_singleton];omega
      exact k _ p6 p5 E0 ((rs++[r]).take M) (s04.trans (s5.trans s6)) (s04.free (s5.free hp6)) (s04.free hp5) Ae (s6 _ _ h5) ⟨⟨E1,by omega,hl.2,by omega,λ m hm=>brs m (List.mem_of_mem_take hm)⟩,E2,hl.1⟩
def Ee (K:PySem.W.Frag):Sp:=λ vs H Q _=>∃ (a:Addr) (ns:List Int) (M:Nat),vs=[.ref a,nV M]/\SqL K H a (ns.map V.int)/\ns.length<=63/\7<=M/\M<=60/\∀ H' p l n rs,Same H H'->H p=none->H l=none->H' p=some (.tup [nV n, .ref l])->H' l=some (.lst (rs.map nV))->ClIn M n rs->Q (.ref p) H'
abbrev CT:Stmt:=top 46
theorem sc__law_weave:FnScope ["_law_script","_law_most","_law_number","_law_ends","_law_rows","_law_kind","_law_bound"] ["_law_script","_law_most"] (Ak CT):=⟨rfl,rfl,rfl,by decide +kernel,rfl,by decide +kernel,by decide +kernel⟩
theorem Hg {f:Addr} {fd:FuncData} (F:Fun K "_law_weave" "_law_weave" CT f fd) (T:Txt K mg c) (c__law_mixed:Ar P w K mg base "_law_mixed" 1 ["_law_cell","_law_k"] BQ) (c__law_cell_at:Ar P w K mg base "_law_cell_at" 1 ["_law_script","_law_k"] (Bq K)) (c__law_told_over:Ar P w K mg base "_law_told_over" 2 ["_law_script","_law_number","_law_most"] (Ii K)) (c__law_laid:Ar P w K mg base "_law_laid" 2 ["_law_script","_law_number","_law_ends","_law_picks"] (C6 K)) (c__law_steps:Ar P w K mg base "_law_steps" 2 ["_law_number","_law_ends","_law_most"] Ej):FnOk P w K mg base CX0 3 f fd ["_law_script","_law_most"] (Ee K):=by
  refine F.ok sc__law_weave (λ vs H Q E h=> ?_) (λ cdv A outer s H vs Q E hr h=> ?_)
  · obtain ⟨a,ns,M,rfl,_⟩:=h;rfl
  · obtain ⟨a,ns,M,rfl,sa,hn,m1,m2,k⟩:=h;have hu:=hr.units0;refine ⟨_,(Ad (Ao (i:=2) sc__law_weave.nd rfl (Or.inr rfl) (Ah c__law_mixed (hr.mono (by decide)) (Aa (Ah c__law_cell_at (hr.mono (by decide)) (Aa (pv 0) (Aa Ac Ab))) (Aa Ac Ab))))
      (Ad (Ao (i:=3) sc__law_weave.nd rfl (Or.inr rfl) (Av (Bc (K:=K)) (AT (Aa (Af AA Ac (Af Az (Af AB (pv 2) Ac) (Al RQ rfl (T.own _ (by decide)) LJ (Aa (pv 1) (Aa Ac Ab))))) (Aa (Af AA Ac (Af Az (Af AB (pv 2) Ac) (pv 1))) Ab))) (Af Az (Af AB (pv 2) Ac) Ac) (λ _ _=>rfl)))
      (Ad (Je (K:=K) (i:=4) sc__law_weave.nd rfl (Or.inl rfl) (FY (K:=K) rfl (T.own _ (by decide)) (Aa (IR (Pz (K:=K)) (pv 0) (Ic Ac) (Ic (Af AA Ac (pv 1)))) Ab)) (λ _ _ _ _=>AY) (λ _ _ _ _=>(Af Az (Af Cg (Af AA (pv 1) (pv 0)) (Av (Bc (K:=K)) (AT (Aa Ac (Aa (Af AA (Af Iv Ac Ac) Ac) Ab))) (Af Az (Af AB (pv 3) Ac) Ac) (λ _ _=>rfl))) (Af Be Ac (pv 2)))))
      (Ad (Ao (i:=5) sc__law_weave.nd rfl (Or.inl rfl) (Af Az (Af AB (pv 2) Ac) Ac))
      (Ad (Bh (PW.pt (Ft (AE (T2 hu (K:=K)) (pv 4) (AT Ab) (At _)) (DJ (AE Bg (pv 5) Ac (At _))))) (Ag (Ap (Ah c__law_told_over hr (Aa (pv 0) (Aa (Af AB (pv 2) Ac) (Aa (pv 1) Ab)))))) AF)
      (Ad (Bh (PW.pt (Ft (AE Bg (pv 5) Ac (At _)) (DJ (AE Bg (pv 5) Ac (At _))))) (Ag (Ap (Ah c__law_laid hr (Aa (pv 0) (Aa (Af AB (pv 2) Ac) (Aa (pv 3) (Aa (Al (A6 (K:=K)) rfl (T.own _ (by decide)) boot_len (Aa (pv 4) Ab)) Ab))))))) AF)
      (Ad (Bh (AE Bg (pv 5) Ac (At _)) (Ag (Ap (Ah c__law_steps hr (Aa (Af AB (pv 2) Ac) (Aa (pv 3) (Aa (pv 1) Ab)))))) AF)
      (Ad (Bh (AE Bg (pv 5) Ac (At _)) (Ad (Ao (i:=6) sc__law_weave.nd rfl (Or.inr rfl) (Af Az (Ah c__law_mixed (hr.mono (by decide)) (Aa (pv 2) (Aa Ac Ab))) (Af Be Ac (pv 3))))
      (Ag (Je (K:=K) (i:=4) sc__law_weave.nd rfl (Or.inl rfl) (FY (K:=K) rfl (T.own _ (by decide)) (Aa (pv 4) Ab)) (λ _ _ _ _=>AY) (λ _ _ _ _=>(Av (Bc (K:=K)) (AT (Aa (Af BN (pv 1) (pv 2)) (Aa (Af Jk (pv 1) (pv 2)) (Aa (pv 1) Ab)))) (Af Cg (Af Az (Af Cg (pv 0) (pv 0)) Ac) (Af Az (Af AB (pv 3) Ac) Ac)) (λ _ _=>rfl)))))) AF)
      (Ag (Ap (A5 (Aa (pv 3) (Aa (pv 4) Ab))))))))))))),?_⟩
    walk_at "w";refine ⟨a,ns,0,rfl,sa,hn,λ H1 s1=> ?_⟩;walk_at "w";refine ⟨_,_,rfl,⟨by decide,by decide⟩,?_⟩;have hN:=KM (Dp ns 0) 1;generalize Fb (Dp ns 0) 1=N at hN ⊢;walk_at "w";refine An ⟨by decide,by decide⟩ ?_;walk_at "w";refine An (by show (0:Int)<_;split <;> omega) ?_;obtain ⟨X,eX,X1,X2⟩:∃ X:Nat,(1:Int)+(N:Int) / 8%(if (9:Int)<((M:Nat):Int) then (9:Int) else ((M:Nat):Int))=(X:Nat)/\1<=X/\X<=M:=by
      refine ⟨((1:Int)+(N:Int) / 8%(if (9:Int)<((M:Nat):Int) then (9:Int) else ((M:Nat):Int))).toNat,?_⟩;have c1:=Int.emod_nonneg ((N:Int) / 8) (show ((M:Nat):Int)≠0 by omega);have c2:=Int.emod_lt_of_pos ((N:Int) / 8) (show (0:Int)<((M:Nat):Int) by omega);split <;> omega
    walk_at "w";rw [eX];refine An ⟨by decide,by decide⟩ ?_;walk_at "w";refine An (by show (0:Int)<_;omega) ?_;obtain ⟨Y,eY,Y1,Y2⟩:∃ X:Nat,(1:Int)+(N:Int) / 8%((M:Nat):Int)=(X:Nat)/\1<=X/\X<=M:=by
      refine ⟨((1:Int)+(N:Int) / 8%((M:Nat):Int)).toNat,?_⟩;have c1:=Int.emod_nonneg ((N:Int) / 8) (show ((M:Nat):Int)≠0 by omega);have c2:=Int.emod_lt_of_pos ((N:Int) / 8) (show (0:Int)<((M:Nat):Int) by omega);omega
    walk_at "w";rw [eY];intro p2 hp2;walk_at "w";have s2:=s1.trans (Aj (o:=HO.lst [nV X,nV Y]) hp2);have h2:upd H1 p2 (HO.lst [nV X,nV Y]) p2=some (.lst (([(X:Int),(Y:Int)]:List Int).map V.int)):=Ae;generalize upd H1 p2 (HO.lst [nV X,nV Y])=H2 at s2 h2 ⊢;refine An ⟨by decide,by decide⟩ ?_;walk_at "w";refine An (by decide) ?_;refine AN (SqL.of h2) (DQ (by omega) (by show _<((2:Nat):Int);omega)) ?_;obtain ⟨E0,eE,E1,E2⟩:∃ E0:Nat,([(X:Int),(Y:Int)]:List Int).getD ((N:Int) / 5%2).toNat 0=(E0:Nat)/\1<=E0/\E0<=M:=by
      refine EU (P:=λ x=>∃ E0:Nat,x=(E0:Nat)/\1<=E0/\E0<=M) (by show _<2;omega) λ x hx=>⟨x.toNat,?_⟩;simp only [List.mem_cons,List.not_mem_nil,or_false] at hx;omega
    rw [eE];walk_at "w";refine Nz (s2.seq sa) λ p3 hp3=> ?_;rw [Pa (by decide) (by omega), <-List.map_take, <-List.map_drop];walk_at "w";have ht:((ns.take (1+(M:Int)).toNat).drop (1:Int).toNat).length<=M:=by
      rw [List.length_drop,List.length_take];omega
    have s3:=s2.trans (Aj (o:=HO.lst (((ns.take (1+(M:Int)).toNat).drop (1:Int).toNat).map V.int)) hp3);have h3:upd H2 p3 (HO.lst (((ns.take (1+(M:Int)).toNat).drop (1:Int).toNat).map V.int)) p3=_:=Ae;generalize upd H2 p3 (HO.lst (((ns.take (1+(M:Int)).toNat).drop (1:Int).toNat).map V.int))=H3 at s3 h3 ⊢;generalize (ns.take (1+(M:Int)).toNat).drop (1:Int).toNat=ts at h3 ht;refine ⟨p3,rfl,⟨_,SqL.of h3⟩,λ D4 hD4=> ?_⟩;refine Bk (G:=λ i=>(((((ts.getD i 0+(i:Nat))*([1,1000000000000000009]:List Int).getD ((N:Int) / 3%2).toNat 0)%(2 ^ E0:Nat)).toNat:Nat):Int)) (F5 (SqL.of h3) rfl rfl) hD4 (by rw [List.length_map];omega) ?_ ?_
    · intro i H' R hi s kk;rw [My hi];walk_at "w";refine An ⟨by decide,by decide,by decide⟩ ?_;walk_at "w";intro p5 hp5;walk_at "w";have s5:=Aj (o:=HO.lst [V.int 1,V.int (10 ^ (18:Int).toNat+9)]) hp5;have h5:upd H' p5 (HO.lst [V.int 1,V.int (10 ^ (18:Int).toNat+9)]) p5=some (.lst (([1,1000000000000000009]:List Int).map V.int)):=Ae;generalize upd H' p5 (HO.lst [V.int 1,V.int (10 ^ (18:Int).toNat+9)])=H5 at s5 h5 ⊢;refine An ⟨by decide,by decide⟩ ?_;walk_at "w";refine An (by decide) ?_;refine AN (SqL.of h5) (DQ (by omega) (by show _<((2:Nat):Int);omega)) ?_;have hF: -(2 ^ 64)<([1,1000000000000000009]:List Int).getD ((N:Int) / 3%2).toNat 0/\([1,1000000000000000009]:List Int).getD ((N:Int) / 3%2).toNat 0<2 ^ 64:=by
        refine EU (P:=λ x=> -(2 ^ 64)<x/\x<2 ^ 64) (by show _<2;omega) λ x hx=> ?_;simp only [List.mem_cons,List.not_mem_nil,or_false] at hx;omega
      refine An (.inr hF) ?_;walk_at "w";refine An ⟨by omega,by omega,by decide⟩ ?_;rw [Dh];refine An (Cq _) ?_;rw [Gn];exact kk H5 s5
    intro H4 s4 hl4;have s04:=s3.trans s4;generalize er:(List.range (ts.map V.int).length).map (λ i:Nat=>((((ts.getD i 0+(i:Nat))*([1,1000000000000000009]:List Int).getD ((N:Int) / 3%2).toNat 0)%(2 ^ E0:Nat)).toNat))=rs;have lrs:rs.length=ts.length:=by rw [<-er];simp
    have brs:∀ r∈rs,r<2 ^ E0:=λ r hr=>by
      rw [<-er] at hr;obtain ⟨i,_,rfl⟩:=List.mem_map.mp hr;exact Jl _ _
    rw [HQ,er] at hl4;have hl4':H4 D4=some (.lst ((rs.map λ r:Nat=>(r:Int)).map V.int)):=by rw [hl4,List.map_map];rfl
    walk_at "w";refine An ⟨by decide,by decide⟩ ?_;walk_at "w";refine An (by decide) ?_;walk_at "w";intro p5 hp5;walk_at "w";have s5:=Aj (o:=HO.lst []) hp5;refine Pn (bs:=[]) (SqL.of (s5 _ _ hl4')) (SqL.of Ae) ?_;have s05:=s04.trans s5;have hl5:=s5 _ _ hl4;have hD0:H D4=none:=s3.free hD4;generalize upd H4 p5 (HO.lst [])=H5 at s05 hl5 ⊢;have h28:((N:Nat):Int) / 2880=((N / 2880:Nat):Int):=by omega
    have hr1:rs.length<=M:=by omega
    have told:∀ {D:VK} {E:XK},(∀ p H',D (.ref p) H'=Q (.ref p) H')->Ii K [.ref a,nV (N / 2880),nV M] H5 D E:=λ {D E} e=>
      ⟨a,ns,N / 2880,M,rfl,s05.seq sa,hn,m1,m2,λ H' p l n rs' s hp hl h1 h2 c=>(e p H').symm▸k H' p l n rs' (s05.trans s) (s05.free hp) (s05.free hl) h1 h2 c⟩
    refine ⟨_,rfl,?_⟩;refine ME (λ hb=> ?_) (λ hb=> ?_)
    · walk_at "w";refine An ⟨by decide,by decide⟩ ?_;rw [h28];walk_at "w";exact told λ _ _=>rfl
    have hr0:1<=rs.length:=by
      cases rs with
      | nil=>simp at hb
      | cons x xs=>simp
    walk_at "w";refine Ev (λ h1=> ?_) (λ h1=> ?_)
    · walk_at "w";refine An ⟨by decide,by decide⟩ ?_;rw [h28];walk_at "w";exact told λ _ _=>rfl
    walk_at "w";have laid:∀ {D:VK} {E:XK},(∀ p H',D (.ref p) H'=Q (.ref p) H')->C6 K [.ref a,nV (N / 2880),nV E0,nV rs.length] H5 D E:=λ {D E} e=>
      ⟨a,ns,N / 2880,E0,rs.length,rfl,s05.seq sa,hn,E1,by omega,hr0,by omega,λ H' p l rs' s hp hl h1 h2 l' c=>(e p H').symm▸k H' p l E0 rs' (s05.trans s) (s05.free hp) (s05.free hl) h1 h2 ⟨c,E2,by omega⟩⟩
    have lay:∀ (H':Hp) (rs':List Nat) (b:Addr) {p:Addr},Same H H'->H b=none->H' b=some (.lst (rs'.map nV))->ClIn M E0 rs'->H' p=none->Q (.ref p) (upd H' p (HO.tup [nV E0, .ref b])):=λ H' rs' b p s hb h c hp=>
      k _ p b E0 rs' (s.trans (Aj hp)) (s.free hp) hb Ae (Aj hp _ _ h) c
    refine Ev (λ h2=> ?_) (λ h2=> ?_)
    · walk_at "w";refine An ⟨by decide,by decide⟩ ?_;rw [h28];walk_at "w";refine AD (SqL.of hl5) ?_;walk_at "w";rw [List.length_map];exact laid λ _ _=>rfl
    walk_at "w";refine Ev (λ h3=> ?_) (λ h3=> ?_)
    · walk_at "w";refine An ⟨by decide,by decide⟩ ?_;rw [h28];walk_at "w";refine AD (SqL.of hl5) ?_;walk_at "w";rw [List.length_map];exact laid λ _ _=>rfl
    walk_at "w";refine Ev (λ h4=> ?_) (λ h4=> ?_)
    · walk_at "w";refine An ⟨by decide,by decide⟩ ?_;rw [h28];walk_at "w";exact ⟨N / 2880,E0,M,rfl,by omega,m1,m2,E1,E2,λ H' p l n rs' s hp hl h1 h2 c=>k H' p l n rs' (s05.trans s) (s05.free hp) (s05.free hl) h1 h2 c⟩
    walk_at "w";refine Ev (λ h5=> ?_) (λ h5=> ?_)
    · walk_at "w";refine ⟨_,_,rfl,⟨by decide,by decide⟩,?_⟩;generalize Fb ((N:Nat):Int) 3=Z;walk_at "w";refine An ⟨by omega,by omega,by decide⟩ ?_;rw [Dh];refine An (Cq _) ?_;rw [Gn];have hB:=Jl (Z:Int) E0;generalize (((Z:Nat):Int)%(2 ^ E0:Nat)).toNat=B at hB ⊢;walk_at "w";refine ⟨D4,rfl,⟨_,SqL.of hl5⟩,λ D6 hD6=> ?_⟩;refine Bk (G:=λ i=>((([rs.getD i 0 &&& B,rs.getD i 0 ||| B,rs.getD i 0]:List Nat).getD ((i:Int)*(i:Int)%3*((N:Int) / 2880%2)).toNat 0:Nat):Int)) (F5 (SqL.of hl5) rfl rfl) hD6 (by rw [List.length_map];omega) ?_ ?_
      · intro i H' R hi s kk;have hi':i<rs.length:=by simpa using hi
        rw [BU hi];walk_at "w";rw [bA,bO];intro p7 hp7;walk_at "w";have s7:=Aj (o:=HO.lst [nV (rs.getD i 0 &&& B),nV (rs.getD i 0 ||| B),nV (rs.getD i 0)]) hp7;have h7:upd H' p7 (HO.lst [nV (rs.getD i 0 &&& B),nV (rs.getD i 0 ||| B),nV (rs.getD i 0)]) p7=some (.lst (([rs.getD i 0 &&& B,rs.getD i 0 ||| B,rs.getD i 0]:List Nat).map nV)):=Ae;generalize upd H' p7 (HO.lst [nV (rs.getD i 0 &&& B),nV (rs.getD i 0 ||| B),nV (rs.getD i 0)])=H7 at s7 h7 ⊢;refine An (.inl ⟨by omega,by omega⟩) ?_;walk_at "w";refine An (by decide) ?_;walk_at "w";refine An ⟨by decide,by decide⟩ ?_;walk_at "w";refine An (by decide) ?_;have c1:=Int.emod_nonneg ((i:Int)*(i:Int)) (show (3:Int)≠0 by decide);have c2:=Int.emod_lt_of_pos ((i:Int)*(i:Int)) (show (0:Int)<3 by decide);walk_at "w";refine An (.inl ⟨by omega,by omega⟩) ?_;have c3:0<=(i:Int)*(i:Int)%3*((N:Int) / 2880%2)/\(i:Int)*(i:Int)%3*((N:Int) / 2880%2)<3:=by
          rcases (show (N:Int) / 2880%2=0\/(N:Int) / 2880%2=1 by omega) with z | z <;> rw [z] <;> omega
        refine AN (SqL.of h7) (Bp c3.1 (by show _<((3:Nat):Int);omega)) ?_;exact kk H7 s7
      intro H6 s6 hl6;rw [HQ,List.length_map] at hl6;walk_at "w";intro p8 hp8;refine lay H6 _ D6 (s05.trans s6) (s05.free hD6) hl6 ⟨⟨E1,by omega,by simp;omega,by simp;omega,λ r hr=> ?_⟩,E2,by simp;omega⟩ hp8;obtain ⟨i,hi,rfl⟩:=List.mem_map.mp hr;have hb2:=brs _ (L2.getD_mem (y:=0) (List.mem_range.mp hi));have c1:=Int.emod_nonneg ((i:Int)*(i:Int)) (show (3:Int)≠0 by decide);have c2:=Int.emod_lt_of_pos ((i:Int)*(i:Int)) (show (0:Int)<3 by decide);have c3:((i:Int)*(i:Int)%3*((N:Int) / 2880%2)).toNat<3:=by
        rcases (show (N:Int) / 2880%2=0\/(N:Int) / 2880%2=1 by omega) with z | z <;> rw [z] <;> omega
      have hm:=L2.getD_mem (as:=[rs.getD i 0 &&& B,rs.getD i 0 ||| B,rs.getD i 0]) (y:=0) (i:=((i:Int)*(i:Int)%3*((N:Int) / 2880%2)).toNat) c3;simp only [List.mem_cons,List.not_mem_nil,or_false] at hm;rcases hm with z | z | z
      · rw [z];exact Nat.and_lt_two_pow _ hB
      · rw [z];exact Nat.or_lt_two_pow hb2 hB
      · rw [z];exact hb2
    · walk_at "w";intro p8 hp8;exact lay H5 rs D4 s05 hD0 hl5 ⟨⟨E1,by omega,hr0,by omega,brs⟩,E2,hr1⟩ hp8
open MG
def Br:Sp:=λ vs H Q _=>∃ n p:Nat,vs=[nV n,nV p]/\n<=60/\p<=60/\∀ H' q,Same H H'->H q=none->Rp H' (FN H) 2 (.ref q) (.lst ((Ai n p).map dTh))->Q (.ref q) H'
abbrev Ci:Stmt:=top 47
theorem FF:FnScope ["_law_ends","_law_picks"] ["_law_ends","_law_picks"] (Ak Ci):=⟨rfl,rfl,rfl,by decide +kernel,rfl,by decide +kernel,by decide +kernel⟩
theorem FG {f:Addr} {fd:FuncData} (F:Fun K "_law_threads" "_law_threads" Ci f fd) (T:Txt K mg c):FnOk P w K mg base CX0 1 f fd ["_law_ends","_law_picks"] Br:=by
  refine F.ok FF (λ vs H Q E h=> ?_) (λ cdv A outer s H vs Q E hr h=> ?_)
  · obtain ⟨n,p,rfl,_⟩:=h;rfl
  · obtain ⟨n,p,rfl,hn,hp,k⟩:=h;refine ⟨_,(Ag (Ap (Af (K5 (K:=K)) (A9 (AL rfl (T.own _ (by decide)) (Aa (pv 0) Ab)) (λ _ _ _ _=>AY) (λ _ _ _ _=>(A5 (Aa Fm (Aa (Af AA (pv 0) Ac) Ab))))) (A9 (AL rfl (T.own _ (by decide)) (Aa (pv 1) Ab)) (λ _ _ _ _=>AY) (λ _ _ _ _=>(A5 (Aa Fm (Aa (Af AA (pv 0) Ac) Ab)))))))),?_⟩;walk_at "w";refine ⟨_,rfl,by omega,by omega,λ D hD=> ?_⟩;rw [Int.toNat_natCast];refine Cf (m:=1) (G:=λ i=>dTh (false,i+1)) (Bt rfl) hD (by omega) ?_ ?_
    · intro i H' R hi s kk;walk_at "w";intro z hz;exact kk _ _ (Aj hz) (CY Ae (.str _) (.int _))
    intro H1 ys s1 hl1 r1;walk_at "w";refine ⟨_,rfl,by omega,by omega,λ D2 hD2=> ?_⟩;rw [Int.toNat_natCast];refine Cf (m:=1) (G:=λ i=>dTh (true,i+1)) (Bt rfl) hD2 (by omega) ?_ ?_
    · intro i H' R hi s kk;walk_at "w";intro z hz;exact kk _ _ (Aj hz) (CY Ae (.str _) (.int _))
    intro H2 zs s2 hl2 r2;have e1:(List.range n).map (λ i=>dTh (false,i+1))=((List.range n).map λ k=>((false,k+1):Th)).map dTh:=by rw [List.map_map];rfl
    have e2:(List.range p).map (λ i=>dTh (true,i+1))=((List.range p).map λ k=>((true,k+1):Th)).map dTh:=by rw [List.map_map];rfl
    rw [e1] at r1;rw [e2] at r2;obtain ⟨a1,v1,ea1,g1,_,t1,_⟩:=Du r1;cases ea1;obtain ⟨a2,v2,ea2,g2,_,t2,_⟩:=Du r2;cases ea2;have l1:=t1.len;have l2:=t2.len;simp at l1 l2;walk_at "w";refine HZ (SqL.of (s2 _ _ g1)) (SqL.of g2) (by omega) λ z hz=> ?_;have s5:=Aj (o:=HO.lst (v1++v2)) hz;have s14:=s1.trans s2;exact k _ z (s14.trans s5) (s14.free hz) (Jr Ae (s14.free hz) (by rw [Aq];omega) (((t1.same s2).app t2).same s5))
def ioB (rs:List Nat) (a b:Th):Bool:=if a.1=b.1 then false else if a.1=true then !(rs.getD (a.2 - 1) 0).testBit (b.2 - 1) else (rs.getD (b.2 - 1) 0).testBit (a.2 - 1)
theorem OR (m i:Nat):decide ((((m >>> i) &&& 1:Nat):Int)=1)=m.testBit i:=by
  have h:((m >>> i) &&& 1)=(m.testBit i).toNat:=by
    rw [Nat.and_one_is_mod,Nat.shiftRight_eq_div_pow,MM.bit_div]
  rw [h];cases m.testBit i <;> rfl
theorem U7 (m i:Nat):decide ((((m >>> i) &&& 1:Nat):Int)=0)= !m.testBit i:=by
  have h:((m >>> i) &&& 1)=(m.testBit i).toNat:=by
    rw [Nat.and_one_is_mod,Nat.shiftRight_eq_div_pow,MM.bit_div]
  rw [h];cases m.testBit i <;> rfl
def Dq:Sp:=λ vs H Q _=>∃ (n:Nat) (a:Addr) (rs:List Nat) (b1 b2:Addr) (one other:Th),vs=[nV n, .ref a, .ref b1, .ref b2]/\H a=some (.lst (rs.map nV))/\H b1=some (.tup (thV one))/\H b2=some (.tup (thV other))/\okT n rs.length one/\okT n rs.length other/\Q (.bl (ioB rs one other)) H
abbrev Ca:Stmt:=top 48
theorem FC:FnScope ["_law_ends","_law_rows","_law_one","_law_other"] ["_law_ends","_law_rows","_law_one","_law_other"] (Ak Ca):=⟨rfl,rfl,rfl,by decide +kernel,rfl,by decide +kernel,by decide +kernel⟩
theorem FD {f:Addr} {fd:FuncData} (F:Fun K "_law_is_over" "_law_is_over" Ca f fd) (T:Txt K mg c):FnOk P w K mg base CX0 1 f fd ["_law_ends","_law_rows","_law_one","_law_other"] Dq:=by
  refine F.ok FC (λ vs H Q E h=> ?_) (λ cdv A outer s H vs Q E hr h=> ?_)
  · obtain ⟨n,a,rs,b1,b2,one,other,rfl,_⟩:=h;rfl
  · obtain ⟨n,a,rs,b1,b2,one,other,rfl,ha,h1,h2,o1,o2,q⟩:=h;obtain ⟨x,i⟩:=one;obtain ⟨y,j⟩:=other;refine ⟨_,(Ad (Bh (AE Bg (Av (Bl (K:=K)) (pv 2) Ac (λ _ _=>rfl)) (Av (Bl (K:=K)) (pv 3) Ac (λ _ _=>rfl)) (At _)) (Ag (Ap Eg)) AF)
      (Ad (Bh (AE Bg (Av (Bl (K:=K)) (pv 2) Ac (λ _ _=>rfl)) Fm (At _)) (Ag (Ap (Bj Bg (Af BN (Af DK (Av (Bc (K:=K)) (pv 1) (Af BD (Av (Bl (K:=K)) (pv 3) Ac (λ _ _=>rfl)) Ac) (λ _ _=>rfl)) (Af BD (Av (Bl (K:=K)) (pv 2) Ac (λ _ _=>rfl)) Ac)) Ac) Ac (At _)))) AF)
      (Ag (Ap (Bj Bg (Af BN (Af DK (Av (Bc (K:=K)) (pv 1) (Af BD (Av (Bl (K:=K)) (pv 2) Ac (λ _ _=>rfl)) Ac) (λ _ _=>rfl)) (Af BD (Av (Bl (K:=K)) (pv 3) Ac (λ _ _=>rfl)) Ac)) Ac) Ac (At _)))))),?_⟩
    walk_at "w";refine AS (v:= .str (nm x)) (SqT.of h1) (Ax (j:=0) rfl) ?_;walk_at "w";refine AS (v:= .str (nm y)) (SqT.of h2) (Ax (j:=0) rfl) ?_;walk_at "w";unfold ioB at q;obtain ⟨i1,i2⟩:=o1;obtain ⟨j1,j2⟩:=o2;simp only at i1 i2 j1 j2 q;refine Ev (λ e=> ?_) (λ e=> ?_)
    · walk_at "w";rw [if_pos (MN e)] at q;exact q
    have ne:x≠y:=λ z=>e (by rw [z]);rw [if_neg ne] at q;walk_at "w";refine AS (v:= .str (nm x)) (SqT.of h1) (Ax (j:=0) rfl) ?_;walk_at "w";cases x with
    | false=>
      cases y with
      | false=>exact absurd rfl ne
      | true=>
        refine Ev (λ _=> ?_) (λ z=>absurd rfl z);rw [if_neg (by decide)] at q;simp only [if_true,if_false,Bool.false_eq_true] at i2 j2;walk_at "w";refine AS (v:=nV j) (SqT.of h2) (Ax (j:=1) rfl) ?_;walk_at "w";rw [show ((j:Nat):Int) - 1=((j - 1:Nat):Int) by omega];refine AN (SqL.of ha) (Bp (by omega) (by omega)) ?_;rw [Int.toNat_natCast];walk_at "w";refine AS (v:=nV i) (SqT.of h1) (Ax (j:=1) rfl) ?_;walk_at "w";rw [show ((i:Nat):Int) - 1=((i - 1:Nat):Int) by omega];refine An (by show (0:Int)<=_;omega) ?_;rw [Cm];walk_at "w";have eb:Builtin.bitAnd ((((rs.getD (j - 1) 0) >>> (i - 1):Nat):Int)) 1=(((rs.getD (j - 1) 0) >>> (i - 1) &&& 1:Nat):Int):=by rw [show (1:Int)=((1:Nat):Int) from rfl,bA]
        rw [eb,OR];exact q
    | true=>
      cases y with
      | true=>exact absurd rfl ne
      | false=>
        refine Ev (λ z=>absurd z (by decide)) (λ _=> ?_);rw [if_pos rfl] at q;simp only [if_true,if_false,Bool.false_eq_true] at i2 j2;walk_at "w";refine AS (v:=nV i) (SqT.of h1) (Ax (j:=1) rfl) ?_;walk_at "w";rw [show ((i:Nat):Int) - 1=((i - 1:Nat):Int) by omega];refine AN (SqL.of ha) (Bp (by omega) (by omega)) ?_;rw [Int.toNat_natCast];walk_at "w";refine AS (v:=nV j) (SqT.of h2) (Ax (j:=1) rfl) ?_;walk_at "w";rw [show ((j:Nat):Int) - 1=((j - 1:Nat):Int) by omega];refine An (by show (0:Int)<=_;omega) ?_;rw [Cm];walk_at "w";have eb:Builtin.bitAnd ((((rs.getD (i - 1) 0) >>> (j - 1):Nat):Int)) 1=(((rs.getD (i - 1) 0) >>> (j - 1) &&& 1:Nat):Int):=by rw [show (1:Int)=((1:Nat):Int) from rfl,bA]
        rw [eb,U7];exact q
theorem F0 {n:Nat} {rs:List Nat} (t:Th):(Ai n rs.length).filter (λ x=>ioB rs x t)=ovL n rs t:=by
  obtain ⟨b,k⟩:=t;unfold Ai ovL;rw [List.filter_append,List.filter_map,List.filter_map];cases b with
  | true=>
    have e1:(List.range rs.length).filter ((λ x=>ioB rs x (true,k))∘λ k=>((true,k+1):Th))=[]:=by
      rw [List.filter_eq_nil_iff];intro a _;simp [ioB]
    rw [e1,if_pos rfl,List.map_nil,List.append_nil,List.map_map];congr 1
  | false=>
    have e1:(List.range n).filter ((λ x=>ioB rs x (false,k))∘λ k=>((false,k+1):Th))=[]:=by
      rw [List.filter_eq_nil_iff];intro a _;simp [ioB]
    rw [e1,if_neg (by simp),List.map_nil,List.nil_append,List.map_map];congr 1
open MG
theorem DA {α β:Type} (f:α->Bool) (g:α->β) (xs:List α) (y:α):((List.range xs.length).filter λ i=>f (xs.getD i y)).map (λ i=>g (xs.getD i y))=(xs.filter f).map g:=by
  induction xs using MM.snoc_ind with
  | h0=>rfl
  | h1 l a ih=>
    rw [List.length_append,List.length_singleton,List.range_succ,List.filter_append,List.map_append,List.filter_append,List.map_append];congr 1
    · rw [<-ih];have e1:(List.range l.length).filter (λ i=>f ((l++[a]).getD i y))=(List.range l.length).filter (λ i=>f (l.getD i y)):=List.filter_congr λ i hi=>by
        rw [List.getD_eq_getElem?_getD,List.getElem?_append_left (List.mem_range.mp hi), <-List.getD_eq_getElem?_getD]
      rw [e1];refine List.map_congr_left λ i hi=> ?_;rw [List.getD_eq_getElem?_getD,List.getElem?_append_left (List.mem_range.mp (List.mem_filter.mp hi).1), <-List.getD_eq_getElem?_getD]
    · have e:(l++[a]).getD l.length y=a:=by rw [List.getD_eq_getElem?_getD,List.getElem?_append_right (Nat.le_refl _)];simp
      simp only [List.filter_cons,List.filter_nil,e];split <;> simp [e]
def Dy:Sp:=λ vs H Q _=>∃ (n:Nat) (a:Addr) (rs:List Nat),vs=[nV n, .ref a]/\H a=some (.lst (rs.map nV))/\ClOk n rs/\∀ H' d kvs,Same H H'->H d=none->H' d=some (.dT kvs)->OV H' kvs (Ai n rs.length) (ovL n rs)->Q (.ref d) H'
abbrev CH:Stmt:=top 49
theorem sc__law_uppers:FnScope ["_law_ends","_law_rows","_law_some","_law_found","_law_one"] ["_law_ends","_law_rows"] (Ak CH):=⟨rfl,rfl,rfl,by decide +kernel,rfl,by decide +kernel,by decide +kernel⟩
theorem GG {f:Addr} {fd:FuncData} (F:Fun K "_law_uppers" "_law_uppers" CH f fd) (T:Txt K mg c) (c__law_threads:Ar P w K mg base "_law_threads" 1 ["_law_ends","_law_picks"] Br) (c__law_is_over:Ar P w K mg base "_law_is_over" 1 ["_law_ends","_law_rows","_law_one","_law_other"] Dq):FnOk P w K mg base CX0 2 f fd ["_law_ends","_law_rows"] Dy:=by
  refine F.ok sc__law_uppers (λ vs H Q E h=> ?_) (λ cdv A outer s H vs Q E hr h=> ?_)
  · obtain ⟨n,a,rs,rfl,_⟩:=h;rfl
  · obtain ⟨n,a,rs,rfl,ha,ok,k⟩:=h;have hu1:=hr.units1;have n2:=ok.n2;have p2:=ok.p2;refine ⟨_,(Ad (Ao (i:=2) sc__law_uppers.nd rfl (Or.inl rfl) (Ah c__law_threads hr (Aa (pv 0) (Aa (Al (A6 (K:=K)) rfl (T.own _ (by decide)) boot_len (Aa (pv 1) Ab)) Ab))))
      (Ad (Ao (i:=3) sc__law_uppers.nd rfl (Or.inl rfl) E4)
      (Ad (A0 PassesOwn.never rfl (B0 (K:=K) (pv 2)) (As (i:=4) sc__law_uppers.nd rfl (Or.inr rfl)) (Ag (EW hu1 (pv 3) (pv 4) (A9 (B0 (K:=K) (pv 2)) (λ _ _ _ _=>(Di (AZ (Ah c__law_is_over hr (Aa (pv 1) (Aa (pv 3) (Aa (pv 0) (Aa (pv 2) Ab)))))))) (λ _ _ _ _=>(pv 0))) rfl)))
      (Ag (Ap (pv 3)))))),?_⟩
    walk_at "w";refine AD (SqL.of ha) ?_;rw [List.length_map];walk_at "w";refine ⟨n,rs.length,rfl,n2,p2,λ H1 m s1 hm r1=> ?_⟩;walk_at "w";intro d hd;walk_at "w";obtain ⟨m',refs,em,g1,_,t1,_⟩:=Du r1;cases em;have hd0:H d=none:=s1.free hd;have s2:=Aj (o:=HO.dT []) hd;have hmd:m≠d:=Au g1 hd;have hl:(Ai n rs.length).length<=120:=by rw [Aq];omega
    refine ⟨m,rfl,⟨_,SqL.of (s2 _ _ g1)⟩,AM (H0:=H1) (Co (SqL.of g1)) (λ i σ H3=>∃ y kvs,σ=[some (nV n),some (.ref a),some (.ref m),some (.ref d),y]/\Same H1 H3/\H3 d=some (.dT kvs)/\kvs.length<=i/\OV H3 kvs ((Ai n rs.length).take i) (ovL n rs)) ⟨_,[],rfl,s2,Ae,Nat.le_refl _,⟨λ t ht=>by cases ht⟩⟩ (λ i σ H3 ⟨_,_,_,s,_⟩=>s) ?_ ?_⟩
    · rintro i σ H' H3 hi ⟨y,kvs,rfl,s',hd',hlk,ov⟩ s3;have hi':i<(Ai n rs.length).length:=by rw [<-t1.len];exact hi
      have sH:=s'.trans s3;have hd3:=s3 _ _ hd';obtain ⟨b,eb,hb⟩:=t1.at_ i hi';have hb3:=sH _ _ hb;have hok:okT n rs.length ((Ai n rs.length).getD i (false,0)):=mem_allT.mp (L2.getD_mem hi');rw [eb,Cp hi'];generalize (Ai n rs.length).getD i (false,0)=u at hb hb3 hok ⊢;walk_at "w";refine ⟨m,rfl,⟨_,SqL.of (sH _ _ g1)⟩,λ D hD=> ?_⟩;refine B9 (m:=1) (p:=λ j=>ioB rs ((Ai n rs.length).getD j (false,0)) u) (G:=λ j=>dTh ((Ai n rs.length).getD j (false,0))) (BW (SqL.of (sH _ _ g1)) rfl) hD (by rw [t1.len];omega) ?_ ?_ ?_
      · intro j H4 R hj s4 kk;have hj':j<(Ai n rs.length).length:=by rw [<-t1.len];exact hj
        obtain ⟨bj,ebj,hbj⟩:=t1.at_ j hj';rw [ebj];walk_at "w";have s14:=sH.trans s4;refine ⟨n,a,rs,bj,b,_,u,rfl,(s1.trans s14) _ _ ha,s14 _ _ hbj,s14 _ _ hb,mem_allT.mp (L2.getD_mem hj'),hok,?_⟩;exact ⟨_,rfl,kk H4 (Same.refl _)⟩
      · intro j H4 R hj hp s4 kk;have hj':j<(Ai n rs.length).length:=by rw [<-t1.len];exact hj
        obtain ⟨bj,ebj,hbj⟩:=t1.at_ j hj';rw [ebj];walk_at "w";exact kk H4 _ (Same.refl _) (Hx ⟨bj,rfl,(sH.trans s4) _ _ hbj⟩)
      · intro H4 ys s4 hl4 r4;have e4:((List.range refs.length).filter λ j=>ioB rs ((Ai n rs.length).getD j (false,0)) u).map (λ j=>dTh ((Ai n rs.length).getD j (false,0)))=(ovL n rs u).map dTh:=by
          rw [t1.len,DA (λ x=>ioB rs x u) dTh (Ai n rs.length) (false,0),F0]
        rw [e4] at r4;have hd4:=s4 _ _ hd3;have hb4:=s4 _ _ hb3;walk_at "w";refine ⟨d,_,rfl,DPut.t (k:=thK u) hd4 hb4 (Nat.lt_of_le_of_lt (show kvs.length<=1000 by omega) (by decide)),?_⟩;walk_at "w";refine ⟨_,_,rfl,AQ (sH.trans s4) hd,Ae,?_,?_⟩
        · have:=Bf kvs (thK u) (.ref D);omega
        · exact ((ov.same s3).same s4).put hd4 (r4.mono (λ _ _ q _=>q) λ _ _=>trivial)
    · rintro σ H3 ⟨y,kvs,rfl,s3,hd3,hlk,ov⟩;have e:(Ai n rs.length).take refs.length=Ai n rs.length:=by rw [t1.len,List.take_length]
      rw [e] at ov;walk_at "w";exact k H3 d kvs (s1.trans s3) hd0 hd3 ov
open MG
open MG
inductive Calm:Dt->Prop where
  | non:Calm .non
  | bl (b:Bool):Calm (.bl b)
  | int (i:Int):Calm (.int i)
  | str (z:Str):Calm (.str z)
  | tup {ds:List Dt} (h:∀ d∈ds,Calm d):Calm (.tup ds)
theorem O7 (t:Th):Calm (dTh t):= .tup λ d hd=>by
  simp only [List.mem_cons,List.not_mem_nil,or_false] at hd;rcases hd with rfl | rfl
  · exact .str _
  · exact .int _
theorem O9 {H:Hp} {n:Nat} {v:V} {d:Dt} {l:Addr} {xs:List V} {o:HO} (r:Rp H FT n v d) (c:Calm d) (hl:H l=some (.lst xs)):Rp (L2.upd H l o) FT n v d:=by
  induction r with
  | non=>exact .non
  | bl b=>exact .bl b
  | int i=>exact .int i
  | str z=>exact .str z
  | lst h p b l e ih=>cases c
  | @tup n a vs ds q b l' e ih=>
    cases c with
    | tup hc=>
      refine .tup ?_ b l' λ i v d h1 h2=>ih i v d h1 h2 (hc _ (List.mem_of_getElem? h2));rw [Am (A8 q hl (by intro z;cases z))];exact q
def P2 (W:Addr->Prop) (H H':Hp):Prop:=∀ b o,H b=some o->¬ W b->H' b=some o
def InL (H:Hp) (m:Nat) (v:V) (B:Nat):Prop:=∃ (l:Addr) (ls:List V) (es:List Dt),v= .ref l/\H l=some (.lst ls)/\ls.length=es.length/\es.length<=B/\(∀ e∈es,Calm e)/\∀ (i:Nat) (x:V) (d:Dt),ls[i]?=some x->es[i]?=some d->Rp H FT m x d
theorem InL.same {H H':Hp} {m:Nat} {v:V} {B C:Nat} (h:InL H m v B) (s:Same H H') (le:B<=C):InL H' m v C:=by
  obtain ⟨l,ls,es,e,hl,ll,lb,c,el⟩:=h;exact ⟨l,ls,es,e,s _ _ hl,ll,Nat.le_trans lb le,c,λ i x d h1 h2=>(el i x d h1 h2).same s⟩
theorem InL.wr {H:Hp} {m:Nat} {v:V} {B:Nat} {l:Addr} {ls:List V} (h:InL H m v B) (hl:H l=some (.lst ls)):InL (upd H l (.lst (ls++[.str (Str.ofString "more")]))) m v (B+1):=by
  obtain ⟨l',ls',es,e,hl',ll,lb,c,el⟩:=h;have el':∀ (i:Nat) (x:V) (d:Dt),ls'[i]?=some x->es[i]?=some d->Rp (upd H l (.lst (ls++[.str (Str.ofString "more")]))) FT m x d:=λ i x d h1 h2=>O9 (el i x d h1 h2) (c _ (List.mem_of_getElem? h2)) hl;by_cases q:l'=l
  · subst q;rw [hl] at hl';cases hl';refine ⟨l',_,es++[.str (Str.ofString "more")],e,Ae,by rw [List.length_append,List.length_append,ll];rfl,by rw [List.length_append];exact Nat.succ_le_succ lb,λ x hx=> ?_,λ i x d h1 h2=> ?_⟩
    · rcases List.mem_append.mp hx with z | z
      · exact c x z
      · rw [List.mem_singleton.mp z];exact .str _
    · rcases Nat.lt_or_ge i ls.length with z | z
      · rw [List.getElem?_append_left z] at h1;rw [List.getElem?_append_left (by omega)] at h2;exact el' i x d h1 h2
      · rw [List.getElem?_append_right z] at h1;rw [List.getElem?_append_right (by omega), <-ll] at h2;cases w:i - ls.length with
        | zero=>
          rw [w] at h1 h2;cases h1;cases h2;exact .str _
        | succ k=>rw [w] at h1;simp at h1
  · exact ⟨l',ls',es,e,by rw [Am q];exact hl',ll,Nat.le_succ_of_le lb,c,el'⟩
def Bw:Nat->Sp
  | 0=>λ _ _ _ _=>False
  | n+1=>λ vs H Q _=>∃ v d,vs=[v]/\Rp H FT n v d/\(((Calm d/\∀ H',Same H H'->Q .non H')\/∃ a xs,v= .ref a/\H a=some (.lst xs)/\Cn d=true/\xs.length<=1000/\(∀ j,j<xs.length->InL H (n - 2) (xs.getD j .non) 1000)/\2<=n/\V.ref a∉xs/\∀ H',P2 (λ b=>b=a\/V.ref b∈xs) H H'->Q .non H')\/∃ a xs ds,v= .ref a/\H a=some (.lst xs)/\d= .lst ds/\(∀ x∈ds,Calm x)/\∀ H1,Same H H1->Q .non (upd H1 a (.lst (xs++[.str (Str.ofString "more")]))))
abbrev BP:Stmt:=top 41
theorem sc__law_longer:FnScope ["_law_told","_law_one"] ["_law_told"] (Ak BP):=⟨rfl,rfl,rfl,by decide +kernel,rfl,by decide +kernel,by decide +kernel⟩
theorem FJ {n:Nat} {f:Addr} {fd:FuncData} (F:Fun K "_law_longer" "_law_longer" BP f fd) (T:Txt K mg c) (c__law_longer:Ar P w K mg base "_law_longer" (n+1) ["_law_told"] (Bw n)):FnOk P w K mg base CX0 (n+2) f fd ["_law_told"] (Bw (n+1)):=by
  refine F.ok sc__law_longer (λ vs H Q E h=> ?_) (λ cdv A outer s H vs Q E hr h=> ?_)
  · obtain ⟨v,d,rfl,_⟩:=h;rfl
  · obtain ⟨v,d,rfl,rv,k⟩:=h;refine ⟨_,(Ad (Bh (AZ (Al (Ig (K:=K)) rfl (T.own _ (by decide)) boot_isinstance (Aa (pv 0) (Aa (A5 (Aa (B4 rfl (T.own _ (by decide)) BV) (Aa (B4 rfl (T.own _ (by decide)) AI) Ab))) Ab)))) (Ag (A0 PassesOwn.never rfl (Pw (K:=K) (pv 0)) (As (i:=1) sc__law_longer.nd rfl (Or.inl rfl)) (Ag (BC (Ah c__law_longer hr (Aa (pv 1) Ab)))))) AF)
      (Ag (Bh (AZ (Al (CC (K:=K)) rfl (T.own _ (by decide)) boot_isinstance (Aa (pv 0) (Aa (B4 rfl (T.own _ (by decide)) AI) Ab)))) (Ag (BC (ET (K:=K) PySem.F.plainAttrs_list PySem.F.slot_list_append PySem.F.type_list_append Bb (pv 0) (Aa Fm Ab)))) AF))),?_⟩
    walk_at "w";intro p hp;walk_at "w";have sp:=Aj (o:=HO.tup [V.ty "tuple",V.ty "list"]) hp;refine GF (ns:=["tuple","list"]) Ae (rv.same sp).ty (MI d) ?_;have rv1:=rv.same sp;generalize upd H p (HO.tup [V.ty "tuple",V.ty "list"])=H1 at rv1 sp ⊢;refine ⟨_,rfl,?_⟩;replace k:=(show ∀ {A B C:Prop},(A\/B)\/C->B\/A\/C from λ h=>h.elim (λ h=>h.elim (λ a=> .inr (.inl a)) .inl) λ c=> .inr (.inr c)) k;rcases k with ⟨a,xs,rfl,ha,hd,lxs,inn,m2,na,kk⟩ | k
    · rw [show (Cn d||B3 d)=true from by rw [hd];rfl];have ha1:=sp _ _ ha;refine Kb ?_;walk_at "w";refine ⟨false,a,rfl,⟨_,SqL.of ha1⟩,AM (H0:=λ b=>if b=a then some (.lst xs) else none) (Kz (tp:=false) (SqL.of (if_pos rfl))) (λ i σ H3=>∃ y,σ=[some (.ref a),y]/\P2 (λ b=>V.ref b∈xs) H H3/\H3 a=some (.lst xs)/\∀ j,j<xs.length->InL H3 (n - 2) (xs.getD j .non) (1000+i)) ⟨_,rfl,λ b o e _=>sp _ _ e,ha1,λ j hj=>(inn j hj).same sp (Nat.le_refl _)⟩ (λ i σ H3 ⟨_,_,_,h3,_⟩ b o e=> ?_) ?_ ?_⟩
      · by_cases c:b=a
        · have e:(if b=a then some (HO.lst xs) else none)=some o:=e;rw [if_pos c] at e;cases e;rw [c];exact h3
        · have e:(if b=a then some (HO.lst xs) else none)=some o:=e;rw [if_neg c] at e;cases e
      · rintro i σ G H3 hi ⟨y,rfl,sx,h3,il⟩ s3;obtain ⟨l,ls,es,el,hl,ll,lb,cm,ee⟩:=il i hi;have mem:V.ref l∈xs:=by
          rw [<-el];exact L2.getD_mem hi
        have hl3:=s3 _ _ hl;have ee3:∀ (i:Nat) (x:V) (d:Dt),ls[i]?=some x->es[i]?=some d->Rp H3 FT (n - 2) x d:=λ i x d h1 h2=>(ee i x d h1 h2).same s3;rw [el];walk_at "w";obtain ⟨m,rfl⟩:∃ m,n=m+2:=⟨n - 2,by omega⟩;refine ⟨_, .lst es,rfl, .lst hl3 trivial (by omega) ll ee3, .inr ⟨l,ls,es,rfl,hl3,rfl,cm,λ H4 s4=> ?_⟩⟩;walk_at "w";have nal:a≠l:=λ z=>na (z▸mem);refine ⟨_,rfl,λ b o e nb=> ?_,?_,λ j hj=> ?_⟩
        · rw [Am (λ z=>nb (show V.ref b∈xs by rw [z];exact mem))];exact s4 _ _ (s3 _ _ (sx b o e nb))
        · rw [Am nal];exact s4 _ _ (s3 _ _ h3)
        · exact ((il j hj).same (s3.trans s4) (Nat.le_refl _)).wr (s4 _ _ hl3)
      · rintro σ H3 ⟨y,rfl,sx,h3,il⟩;walk_at "w";refine By (.lst h3) (Dd (.lst [])) ?_;refine ⟨true,rfl,?_⟩;walk_at "w";refine tyL (SqL.of h3) ?_;walk_at "w";refine DM h3 (by omega) ?_;walk_at "w";refine kk _ λ b o e nb=> ?_;rw [Am (λ z=>nb (.inl z))];exact sx b o e λ z=>nb (.inr z)
    have fin:∀ H3 (y:Option V),Same H1 H3->Qc (tB (tCB (Mt K) (IZ (MR 0) (IZ (tC (.ty "list")) Ll)))) (Nx (tBM K "list" rAppend (MR 0) (IZ (tC (.str (Str.ofString "more"))) Ll))) Mm { nx:=λ _ H'=>Q V.non H',rt:=Q } [some v,y] H3:=λ H3 y s3=>by
      walk_at "w";refine By (rv1.same s3).ty (Dd d) ?_;refine ⟨_,rfl,?_⟩;rcases k with ⟨cm,kk⟩ | ⟨a,xs,ds,rfl,ha,rfl,cm,kk⟩
      · have e:Cn d=false:=by cases cm <;> rfl
        rw [e];walk_at "w";exact kk H3 (sp.trans s3)
      · refine Kb ?_;walk_at "w";have ha3:=(sp.trans s3) _ _ ha;refine tyL (SqL.of ha3) ?_;walk_at "w";refine DM ha3 ?_ ?_
        · obtain ⟨m,a',vs',e1,e2,h',_,_,b',_⟩:=GS rv;cases e2;rw [ha] at h';cases h';omega
        · walk_at "w";exact kk H3 (sp.trans s3)
    refine ME (λ hc=> ?_) (λ hc=> ?_)
    · obtain ⟨m,a,xs,rfl,rfl,sa,la,ba,ea⟩:=rv1.seq (K:=K) hc;have ci:∀ x∈CW d,Calm x:=by
        rcases k with ⟨cm,_⟩ | ⟨_,_,ds,_,_,rfl,cm,_⟩
        · cases cm with
          | tup h=>exact h
          | _=>cases hc
        · exact cm
      walk_at "w";refine ⟨B3 d,a,rfl,⟨_,sa⟩,ES (Kz sa) (λ i σ H3=>∃ y,σ=[some (.ref a),y]/\Same H1 H3) ⟨_,rfl,Same.refl _⟩ (λ i σ H3 ⟨_,_,s⟩=>s) ?_ ?_⟩
      · rintro i σ H' H3 hi ⟨y,rfl,s'⟩ s3;have sH:=s'.trans s3;have hd:i<(CW d).length:=by rw [<-la];exact hi
        walk_at "w";refine ⟨_,(CW d)[i],rfl,(ea i (xs.getD i .non) _ (by rw [L2.getD_el hi];simp [hi]) (List.getElem?_eq_getElem hd)).same sH, .inl (.inl ⟨ci _ (List.getElem_mem hd),λ H4 s4=> ?_⟩)⟩;walk_at "w";exact ⟨_,rfl,sH.trans s4⟩
      · rintro σ H3 ⟨y,rfl,s3⟩;exact fin H3 y s3
    · walk_at "v";exact fin H1 none (Same.refl _)
theorem Dv {f:Addr} {fd:FuncData} (D:DefAt K mg "_law_longer" BP ["_law_told"] f fd) (T:Txt K mg c):∀ n,FnOk P w K mg base CX0 (n+1) f fd ["_law_told"] (Bw n)
  | 0=>⟨λ _ _ _ _ h=>h.elim,λ _ _ _ _ _ _ _ _ _ _ _ _ _ h=>h.elim⟩
  | n+1=>FJ D.fn T (D.call (Dv D T n))
open MG
def rkK:List Key->Nat
  | [.inr x, .inl i]=>(if x=nm true then 100000 else 0)+i.toNat
  | _=>0
def rkT (t:Th):Nat:=(if t.1=true then 100000 else 0)+t.2
theorem FB (t:Th):rkK (thK t)=rkT t:=by
  obtain ⟨b,k⟩:=t;cases b with
  | true=>show (if nm true=nm true then 100000 else 0)+((k:Nat):Int).toNat=_;rw [if_pos rfl,Int.toNat_natCast];rfl
  | false=>show (if nm false=nm true then 100000 else 0)+((k:Nat):Int).toNat=_;rw [if_neg (by decide),Int.toNat_natCast];rfl
theorem OO {t u:Th} (ht:t.2<100000) (hu:u.2<100000) (h:rkT t=rkT u):t=u:=by
  obtain ⟨a,i⟩:=t;obtain ⟨b,j⟩:=u;unfold rkT at h;cases a <;> cases b <;> simp at h ht hu ⊢ <;> omega
theorem Qd {a b:Bool} {i j:Nat} (hi:i<100000) (hj:j<100000):HT.lexB (nm a) (i:Int) (nm b) (j:Int)=decide (rkT (a,i)<rkT (b,j)):=by
  unfold HT.lexB rkT;cases a <;> cases b
  · rw [if_pos rfl,decide_eq_decide];simp
  · rw [if_neg (by decide),decide_eq_true (show ((nm false).cps.toList<(nm true).cps.toList) by decide)];symm;rw [decide_eq_true_eq];simp;omega
  · rw [if_neg (by decide),decide_eq_false (show ¬ ((nm true).cps.toList<(nm false).cps.toList) by decide)];symm;rw [decide_eq_false_iff_not];simp;omega
  · rw [if_pos rfl,decide_eq_decide];simp
theorem GT {ts:List Th} (h:∀ t∈ts,t.2<100000):LexOk rkK (ts.map thK) where
  shp:=λ k hk=>by
    obtain ⟨t,_,rfl⟩:=List.mem_map.mp hk;exact ⟨_,_,rfl⟩
  inj:=λ k hk k' hk' e=>by
    obtain ⟨t,ht,rfl⟩:=List.mem_map.mp hk;obtain ⟨u,hu,rfl⟩:=List.mem_map.mp hk';rw [FB,FB] at e;rw [OO (h t ht) (h u hu) e]
  ord:=λ x i y j hx hy=>by
    obtain ⟨t,ht,e1⟩:=List.mem_map.mp hx;obtain ⟨u,hu,e2⟩:=List.mem_map.mp hy;rw [<-e1, <-e2,FB,FB];obtain ⟨a,k⟩:=t;obtain ⟨b,l⟩:=u;unfold thK at e1 e2;injection e1 with p1 p2;injection e2 with q1 q2;injection p2 with p2 _;injection q2 with q2 _;injection p1 with p1;injection q1 with q1;injection p2 with p2;injection q2 with q2;subst p1 p2 q1 q2;exact Qd (h _ ht) (h _ hu)
theorem Kv (n p:Nat) (hn:n<100000):(Ai n p).Pairwise (λ a b=>rkT a<rkT b):=by
  unfold Ai;rw [List.pairwise_append];refine ⟨?_,?_,?_⟩
  · rw [List.pairwise_map];refine List.pairwise_lt_range.imp λ h=> ?_;unfold rkT;simp;exact h
  · rw [List.pairwise_map];refine List.pairwise_lt_range.imp λ h=> ?_;unfold rkT;simp;exact h
  · intro a ha b hb;obtain ⟨i,hi,rfl⟩:=List.mem_map.mp ha;obtain ⟨j,hj,rfl⟩:=List.mem_map.mp hb;have:=List.mem_range.mp hi;unfold rkT;simp;omega
theorem VR.keys {R:Th->Option Th->V->Prop} {vis:MG.Vis} {kvs:List (List Key × V)} (h:VR R vis kvs):kvs.map (·.1)=(vis.map (·.1)).map thK:=by
  induction h with
  | nil=>rfl
  | cons h t ih=>simp only [List.map_cons,ih]
theorem J8 {α:Type} {f:α->Nat} {l:List α} (h:l.Pairwise (λ a b=>f a<f b)):l.Nodup:=h.imp λ q e=>by subst e;exact Nat.lt_irrefl _ q
theorem KB {n p:Nat} {vis:MG.Vis} {ms:List (List Key)} (hn:n<=60) (hp:p<=60) (lvv:Lv (Ai n p) (vis,[])) (pm:ms.Perm ((vis.map (·.1)).map thK)) (pw:ms.Pairwise (λ a b=>rkK a<rkK b)):ms=((Ai n p).filter (has vis)).map thK:=by
  have up:=Kv n p (by omega);refine MY rkK (pm.trans (List.Perm.map _ ?_)) pw ?_
  · refine (List.perm_ext_iff_of_nodup lvv.nd ((J8 up).filter _)).mpr λ t=> ?_;rw [List.mem_filter,has_iff];exact ⟨λ h=>⟨lvv.sub t h,h⟩,λ h=>h.2⟩
  · rw [List.pairwise_map];refine (up.filter _).imp λ h=> ?_;rw [FB,FB];exact h
def lfL (n:Nat) (rs:List Nat) (vis:MG.Vis):List Th:=(Ai n rs.length).filter (has vis)
def Dz (c:Cs):Sp:=λ vs H Q _=>∃ x n rs b,∃ one:Th,vs=[.ref x, .ref b]/\ClAt c.Cloth H x n rs/\ClOk n rs/\n+rs.length<64/\H b=some (.tup (thV one))/\one∈Ai n rs.length/\
  ∀ H' q refs vis,Same H H'->H q=none->H' q=some (.lst refs)->TL H' refs (lfL n rs vis)->End (ovL n rs) one vis->Q (.ref q) H'
abbrev CG:Stmt:=top 30
theorem GR:FnScope ["cloth","thread"] ["cloth","thread"] (Ak CG):=⟨rfl,rfl,rfl,by decide +kernel,rfl,by decide +kernel,by decide +kernel⟩
theorem GZ {f:Addr} {fd:FuncData} (F:Fun K "lifted_with" "lifted_with" CG f fd) (T:Txt K mg c) (c_overs_of:Ar P w K mg base "overs_of" 5 ["cloth"] (DH c)) (c_threads_ahead:Ar P w K mg base "threads_ahead" 1 ["overs","one"] BI):FnOk P w K mg base CX0 6 f fd ["cloth","thread"] (Dz c):=by
  refine F.ok GR (λ vs H Q E h=> ?_) (λ cdv A outer s H vs Q E hr h=> ?_)
  · obtain ⟨x,n,rs,b,one,rfl,_⟩:=h;rfl
  · obtain ⟨x,n,rs,b,one,rfl,C0,ok,h64,hb,h1,k⟩:=h;have n2:=ok.n2;have p2:=ok.p2;refine ⟨_,(Ag (Ap (Al (HA rfl) rfl (T.own _ (by decide)) De (Aa (Ah c_threads_ahead (hr.mono (by decide)) (Aa (Ah c_overs_of hr (Aa (pv 0) Ab)) (Aa (pv 1) Ab))) Ab)))),?_⟩;walk_at "w";refine ⟨x,n,rs,rfl,C0,ok,λ H1 o kvo s1 ho ho1 ov=> ?_⟩;walk_at "w";refine ⟨o,b,kvo,Ai n rs.length,ovL n rs,one,rfl,ho1,s1 _ _ hb,ov,h1,λ t _ y hy=>Er hy,by rw [Aq];omega,λ H2 d kvs vis s2 hd hd2 vr en lvv=> ?_⟩;have s12:=s1.trans s2;have hlv:vis.length<=n+rs.length:=by
      have:=lvv.len
      rwa [Aq] at this
    refine IT rkK hd2 (by rw [vr.len];omega) (by
      rw [vr.keys];refine GT λ t ht=> ?_;have:=mem_allT.mp (lvv.sub t ht);unfold okT at this;have h2:=this.2;split at h2 <;> omega) λ l bs ms hl pm pw hbl hat=> ?_
    rw [vr.keys] at pm;have e:=KB n2 p2 lvv pm pw;subst e;have s3:=Aj (o:=HO.lst (bs.map V.ref)) hl;refine k _ l _ vis (s12.trans s3) (s12.free hl) Ae ⟨?_,λ i hi=> ?_⟩ en
    · rw [List.length_map,hbl,List.length_map];rfl
    · have hi':i<(((Ai n rs.length).filter (has vis)).map thK).length:=by rw [List.length_map];exact hi
      have hbi:i<bs.length:=by rw [hbl];exact hi'
      have z:=hat i hi';refine ⟨bs.getD i 0,?_,?_⟩
      · rw [List.getD_eq_getElem?_getD,List.getElem?_map,List.getElem?_eq_getElem hbi,List.getD_eq_getElem?_getD,List.getElem?_eq_getElem hbi];rfl
      · refine s3 _ _ ?_;unfold lfL at hi ⊢;rw [z,List.getD_eq_getElem?_getD,List.getElem?_map,List.getElem?_eq_getElem hi];show some (HO.tup ((thK _).map kV))=_;rw [Qj,List.getD_eq_getElem?_getD,List.getElem?_eq_getElem hi];rfl
def EC (n:Nat) (rs:List Nat):List Nat:=rs.map λ r=>(2 ^ n - 1) ^^^ r
theorem NS {n:Nat} {rs:List Nat} (ok:ClOk n rs):ClOk n (EC n rs):=⟨ok.n1,ok.n2,by unfold EC;rw [List.length_map];exact ok.p1,by unfold EC;rw [List.length_map];exact ok.p2,λ r hr=>by
  obtain ⟨q,hq,rfl⟩:=List.mem_map.mp hr;have h1:=ok.lt q hq;have h2:2 ^ n - 1<2 ^ n:=Nat.sub_lt (Nat.two_pow_pos n) (by decide);exact Nat.xor_lt_two_pow h2 h1⟩
def Fw (c:Cs):Sp:=λ vs H Q _=>∃ x n rs,vs=[.ref x]/\ClAt c.Cloth H x n rs/\ClOk n rs/\∀ H' y,Same H H'->H y=none->ClAt c.Cloth H' y n (EC n rs)->Q (.ref y) H'
abbrev EA:Stmt:=top 20
theorem IC:FnScope ["cloth"] ["cloth"] (Ak EA):=⟨rfl,rfl,rfl,by decide +kernel,rfl,by decide +kernel,by decide +kernel⟩
theorem Jj {f:Addr} {fd:FuncData} (F:Fun K "inverted" "inverted" EA f fd) (T:Txt K mg c) (m_Cloth:Lc P w K mg base "Cloth" c.Cloth 4 ["self","ends","rows"] (AV c)) (d_Cloth_ends:Cl P w K mg base c.Cloth "ends" 1 ["self"] (BR c)) (c_other_mask:Ar P w K mg base "other_mask" 2 ["mask","most"] Cy):FnOk P w K mg base CX0 6 f fd ["cloth"] (Fw c):=by
  refine F.ok IC (λ vs H Q E h=> ?_) (λ cdv A outer s H vs Q E hr h=> ?_)
  · obtain ⟨x,n,rs,rfl,_⟩:=h;rfl
  · obtain ⟨x,n,rs,rfl,C0,ok,k⟩:=h;have C1:=C0;obtain ⟨dx,t,h1,h2⟩:=C0;have n2:=ok.n2;have p2:=ok.p2;refine ⟨_,(Ag (Ap (GC m_Cloth hr (Aa (BK (pv 0) d_Cloth_ends (hr.mono (by decide))) (Aa (A9 (P6 (K:=K) (JB (K:=K) (pv 0) rfl)) (λ _ _ _ _=>AY) (λ _ _ _ _=>(Ah c_other_mask (hr.mono (by decide)) (Aa (pv 0) (Aa (BK (pv 1) d_Cloth_ends (hr.mono (by decide))) Ab))))) Ab))))),?_⟩;walk_at "w";refine ⟨_,_,_,rfl,h1,rfl,?_⟩;walk_at "w";refine ⟨x,n,rs,rfl,C1,?_⟩;walk_at "w";refine ⟨_,_,_,_,_,rfl,h1,T.kd_Cloth.cl,T.na_Cloth_rows,rfl,?_⟩;walk_at "w";refine ⟨t,rfl,⟨_,SqT.of h2⟩,λ D hD=> ?_⟩;refine Bk (G:=λ i=>(((2 ^ n - 1) ^^^ rs.getD i 0:Nat):Int)) (K2 (SqT.of h2) rfl) hD (by rw [List.length_map];omega) ?_ ?_
    · intro i H' R hi s kk;rw [BU hi];walk_at "w";refine ⟨_,_,_,rfl,s _ _ h1,rfl,?_⟩;walk_at "w";refine ⟨x,n,rs,rfl,C1.same s,?_⟩;walk_at "w";exact ⟨_,n,rfl,by omega,kk H' (Same.refl _)⟩
    · intro H1 s1 hl1;have e:((List.range rs.length).map λ i=>(2 ^ n - 1) ^^^ rs.getD i 0)=EC n rs:=AK (λ r=>(2 ^ n - 1) ^^^ r) rs 0;rw [HQ,List.length_map,e] at hl1;walk_at "w";refine OM hl1 (NS ok) λ H2 y s2 hy C2=> ?_;exact k H2 y (s1.trans s2) (s1.free hy) C2
theorem NQ (n:Nat) (rs:List Nat) (one:Th) (h1:one∈Ai n rs.length):∃ vis,End (ovL n rs) one vis:=by
  have cl:∀ t∈Ai n rs.length,∀ x∈ovL n rs t,x∈Ai n rs.length:=λ t _ x hx=>Er hx;have LA:=Lv.all cl h1;have nx:∀ k,(lv (ovL n rs) one (k+1)).1.length=(lv (ovL n rs) one k).1.length+(lv (ovL n rs) one (k+1)).2.length:=λ k=>(Lv.next cl (LA k)).2;have go:∀ k,(∃ vis,End (ovL n rs) one vis)\/k<=(lv (ovL n rs) one k).1.length:=λ k=>by
    induction k with
    | zero=>exact .inr (Nat.zero_le _)
    | succ k ih=>
      rcases ih with z | z
      · exact .inl z
      · by_cases q:(lv (ovL n rs) one (k+1)).2=[]
        · exact .inl ⟨(lv (ovL n rs) one (k+1)).1,k+1,Prod.ext rfl q⟩
        · have:=nx k;have:=List.length_pos_iff.mpr q;exact .inr (by omega)
  rcases go ((Ai n rs.length).length+1) with z | z
  · exact z
  · have:=(LA ((Ai n rs.length).length+1)).len;omega
theorem FR {n:Nat} {rs:List Nat} {p e:Nat} (ok:ClOk n rs) (hp:p<rs.length) (he:e<n):((EC n rs).getD p 0).testBit e= !(rs.getD p 0).testBit e:=by
  have e1:(EC n rs).getD p 0=(2 ^ n - 1) ^^^ rs.getD p 0:=by
    unfold EC;rw [List.getD_eq_getElem?_getD,List.getElem?_map,List.getElem?_eq_getElem hp,List.getD_eq_getElem?_getD,List.getElem?_eq_getElem hp];rfl
  rw [e1,Nat.testBit_xor,Nat.testBit_two_pow_sub_one,decide_eq_true he,Bool.true_xor]
theorem ov_mem {n:Nat} {rs:List Nat} {t x:Th}:x∈ovL n rs t↔okT n rs.length x/\x.1≠t.1/\(if t.1=true then (rs.getD (t.2 - 1) 0).testBit (x.2 - 1)=true else (rs.getD (x.2 - 1) 0).testBit (t.2 - 1)=false):=by
  obtain ⟨a,i⟩:=t;obtain ⟨b,j⟩:=x;unfold ovL okT;cases a with
  | true=>
    rw [if_pos rfl];simp only [List.mem_map,List.mem_filter,List.mem_range,if_true];constructor
    · rintro ⟨k,⟨l,⟨h1,h2⟩,rfl⟩,e⟩;injection e with e1 e2;subst e1 e2;simp;exact ⟨by omega,h2⟩
    · rintro ⟨⟨h1,h2⟩,h3,h4⟩;cases b with
      | true=>exact absurd rfl h3
      | false=>
        simp at h2;exact ⟨j,⟨j - 1,⟨by omega,h4⟩,by omega⟩,rfl⟩
  | false=>
    rw [if_neg (by simp)];simp only [List.mem_map,List.mem_filter,List.mem_range,Bool.false_eq_true,if_false];constructor
    · rintro ⟨k,⟨l,⟨h1,h2⟩,rfl⟩,e⟩;injection e with e1 e2;subst e1 e2;simp at h2 ⊢;exact ⟨by omega,h2⟩
    · rintro ⟨⟨h1,h2⟩,h3,h4⟩;cases b with
      | false=>exact absurd rfl h3
      | true=>
        simp at h2;exact ⟨j,⟨j - 1,⟨by omega,by simp;exact h4⟩,by omega⟩,rfl⟩
theorem CQ (n:Nat) (rs:List Nat):(EC n rs).length=rs.length:=List.length_map ..
theorem KK {n:Nat} {rs:List Nat} (ok:ClOk n rs) {t x:Th} (ht:t∈Ai n rs.length):x∈ovL n rs t↔x∈Ai n rs.length/\t∈ovL n (EC n rs) x:=by
  rw [ov_mem,ov_mem,mem_allT,CQ];rw [mem_allT] at ht;obtain ⟨a,i⟩:=t;obtain ⟨b,j⟩:=x;unfold okT at*;constructor
  · rintro ⟨h1,h2,h3⟩;refine ⟨h1,ht,Ne.symm h2,?_⟩;cases a <;> cases b <;> simp only [ne_eq,not_true_eq_false,Bool.false_eq_true,if_false,if_true,not_false_eq_true,reduceCtorEq] at h1 h2 h3 ht ⊢
    · rw [FR ok (by omega) (by omega),h3];rfl
    · rw [FR ok (by omega) (by omega),h3];rfl
  · rintro ⟨h1,_,h2,h3⟩;refine ⟨h1,Ne.symm h2,?_⟩;cases a <;> cases b <;> simp only [ne_eq,not_true_eq_false,Bool.false_eq_true,if_false,if_true,not_false_eq_true,reduceCtorEq] at h1 h2 h3 ht ⊢
    · rw [FR ok (by omega) (by omega)] at h3;simpa using h3
    · rw [FR ok (by omega) (by omega)] at h3;simpa using h3
def Ji (n:Nat) (rs:List Nat):Prop:=∀ t∈Ai n rs.length,∀ x∈Ai n rs.length,Rch (ovL n rs) t x
theorem Lf {n:Nat} {rs:List Nat} (ok:ClOk n rs) {one:Th} {v w:MG.Vis} (h1:one∈Ai n rs.length) (a:End (ovL n rs) one v) (b:End (ovL n (EC n rs)) one w):
    ((lfL n rs v).length=n+rs.length/\(lfL n (EC n rs) w).length=n+rs.length)↔Ji n rs:=by
  unfold lfL Ji;rw [CQ, <-Aq n rs.length,IJ,IJ];simp only [a.iff,b.iff];refine N4 h1 (λ t _ x hx=>Er hx) (λ t _ x hx=>by have:=Er hx;rwa [CQ] at this) (λ t ht x hx=>((KK ok ht).mp hx).2) (λ t ht x hx=> ?_);have hx':x∈Ai n rs.length:=by have:=Er hx;rwa [CQ] at this
  exact (KK ok hx').mpr ⟨ht,hx⟩
open Classical in
def Hu (n:Nat) (rs:List Nat):Bool:=decide (Ji n rs)
open Classical in
theorem F7 {n:Nat} {rs:List Nat} {b:Bool} (h:b=true↔Ji n rs):b=Hu n rs:=by
  unfold Hu;cases b with
  | true=>exact (decide_eq_true (h.mp rfl)).symm
  | false=>exact (decide_eq_false λ z=>by have:=h.mpr z;cases this).symm
def ID (c:Cs):Sp:=λ vs H Q _=>∃ x n rs,vs=[.ref x]/\ClAt c.Cloth H x n rs/\ClOk n rs/\n+rs.length<64/\∀ H',Same H H'->Q (.bl (Hu n rs)) H'
abbrev Ix:Stmt:=top 31
theorem sc_hangs:FnScope ["cloth","many","one"] ["cloth"] (Ak Ix):=⟨rfl,rfl,rfl,by decide +kernel,rfl,by decide +kernel,by decide +kernel⟩
theorem M8 {f:Addr} {fd:FuncData} (F:Fun K "hangs" "hangs" Ix f fd) (T:Txt K mg c) (d_Cloth_ends:Cl P w K mg base c.Cloth "ends" 1 ["self"] (BR c)) (d_Cloth_picks:Cl P w K mg base c.Cloth "picks" 1 ["self"] (BB c)) (c_lifted_with:Ar P w K mg base "lifted_with" 6 ["cloth","thread"] (Dz c)) (c_inverted:Ar P w K mg base "inverted" 6 ["cloth"] (Fw c)):FnOk P w K mg base CX0 7 f fd ["cloth"] (ID c):=by
  refine F.ok sc_hangs (λ vs H Q E h=> ?_) (λ cdv A outer s H vs Q E hr h=> ?_)
  · obtain ⟨x,n,rs,rfl,_⟩:=h;rfl
  · obtain ⟨x,n,rs,rfl,C0,ok,h64,k⟩:=h;have C1:=C0;obtain ⟨dx,t,h1,h2⟩:=C0;have n1:=ok.n1;refine ⟨_,(Ad (Ao (i:=1) sc_hangs.nd rfl (Or.inl rfl) (Af AA (BK (pv 0) d_Cloth_ends (hr.mono (by decide))) (BK (pv 0) d_Cloth_picks (hr.mono (by decide)))))
      (Ad (Ao (i:=2) sc_hangs.nd rfl (Or.inl rfl) (A5 (Aa (Lg T.k_END) (Aa Ac Ab))))
      (Ag (Ap (GK (Bj Bg (Al (A6 (K:=K)) rfl (T.own _ (by decide)) boot_len (Aa (Ah c_lifted_with hr (Aa (pv 0) (Aa (pv 2) Ab))) Ab)) (pv 1) (At _)) (GH (Bj Bg (Al (A6 (K:=K)) rfl (T.own _ (by decide)) boot_len (Aa (Ah c_lifted_with hr (Aa (Ah c_inverted hr (Aa (pv 0) Ab)) (Aa (pv 2) Ab))) Ab)) (pv 1) (At _)))))))),?_⟩
    walk_at "w";refine ⟨_,_,_,rfl,h1,rfl,?_⟩;walk_at "w";refine ⟨x,n,rs,rfl,C1,?_⟩;walk_at "w";refine ⟨_,_,_,rfl,h1,rfl,?_⟩;walk_at "w";refine ⟨x,n,rs,rfl,C1,?_⟩;walk_at "w";intro b hb;walk_at "w";have s1:=Aj (o:=HO.tup [V.str (Str.ofString "end"),V.int 1]) hb;have hb1:upd H b (HO.tup [V.str (Str.ofString "end"),V.int 1]) b=some (.tup (thV (false,1))):=Ae;generalize upd H b (HO.tup [V.str (Str.ofString "end"),V.int 1])=H1 at s1 hb1 ⊢;have o1:((false,1):Th)∈Ai n rs.length:=mem_allT.mpr ⟨Nat.le_refl _,by show 1<=n;exact n1⟩;refine ⟨x,n,rs,b,(false,1),rfl,C1.same s1,ok,h64,hb1,o1,λ H2 q refs v s2 hq hq2 tl en=> ?_⟩;walk_at "w";refine AD (SqL.of hq2) ?_;walk_at "w";have l1:refs.length=(lfL n rs v).length:=tl.len;refine Ev (λ e=> ?_) (λ e=> ?_)
    · walk_at "w";refine ⟨x,n,rs,rfl,C1.same (s1.trans s2),ok,λ H3 y s3 hy C3=> ?_⟩;walk_at "w";refine ⟨y,n,EC n rs,b,(false,1),rfl,C3,NS ok,by rw [CQ];exact h64,(s2.trans s3) _ _ hb1,by rw [CQ];exact o1,λ H4 q4 refs4 w4 s4 _ hq4 tl4 en4=> ?_⟩;walk_at "w";refine AD (SqL.of hq4) ?_;walk_at "w";have l2:refs4.length=(lfL n (EC n rs) w4).length:=tl4.len;refine Eq.mpr (congrArg (λ b=>Q (V.bl b) H4) (F7 (n:=n) (rs:=rs) ?_)) (k H4 (((s1.trans s2).trans s3).trans s4))
      · rw [decide_eq_true_eq, <-Lf ok o1 en en4];constructor
        · intro z;exact ⟨by omega,by omega⟩
        · intro z;omega
    · refine Eq.mpr (congrArg (λ b=>Q (V.bl b) H2) (F7 (n:=n) (rs:=rs) ?_)) (k H2 (s1.trans s2))
      · refine ⟨λ z=>(by cases z),λ z=> ?_⟩;obtain ⟨w4,en4⟩:=NQ n (EC n rs) (false,1) (by rw [CQ];exact o1);have:=(Lf ok o1 en en4).mpr z;omega
open MG
def Ba (n:Nat) (rs:List Nat) (t u:Th):Bool:= @decide (Rch (ovL n rs) t u) (Classical.propDecidable _)
theorem rel_iff {n:Nat} {rs:List Nat} {t u:Th}:Ba n rs t u=true↔Rch (ovL n rs) t u:=by
  unfold Ba;exact @decide_eq_true_iff _ (Classical.propDecidable _)
theorem BS (n:Nat) (rs:List Nat):ML.Pre (Ai n rs.length) (Ba n rs) where
  rf:=λ t _=>rel_iff.mpr .here
  tr:=λ a _ b _ c _ h k=>rel_iff.mpr ((rel_iff.mp h).trans (rel_iff.mp k))
theorem WE {n:Nat} {rs:List Nat} {one:Th} {vis:MG.Vis} (e:End (ovL n rs) one vis):lfL n rs vis=ML.R (Ai n rs.length) (Ba n rs) one:=by
  unfold lfL ML.R;refine List.filter_congr λ u _=> ?_;rw [Bool.eq_iff_iff,e.iff u,rel_iff]
theorem TL.wr {H:Hp} {l:Addr} {ls vs:List V} {o:HO} {ts:List Th} (h:TL H vs ts) (hl:H l=some (.lst ls)):TL (upd H l o) vs ts:=⟨h.len,λ i hi=>by
  obtain ⟨b,e,hb⟩:=h.at_ i hi;exact ⟨b,e,by rw [Am (A8 hb hl (by intro z;cases z))];exact hb⟩⟩
theorem Iu {H:Hp} {l b:Addr} {ls:List V} {o:HO} {r:List (List Key)} (p:KeyAt H r b) (hl:H l=some (.lst ls)):KeyAt (upd H l o) r b:=by
  obtain ⟨bs,e,le,el⟩:=p;refine ⟨bs,?_,le,λ i k c h1 h2=> ?_⟩
  · rw [Am (A8 e hl (by intro z;cases z))];exact e
  · have q:=el i k c h1 h2;rw [Am (A8 q hl (by intro z;cases z))];exact q
structure LK (H:Hp) (xs:List En2) (E:List (ML.En Th)):Prop where
  len:xs.length=E.length
  at_:∀ (i:Nat) (x:En2) (e:ML.En Th),xs[i]?=some x->E[i]?=some e->x.1=e.1.map thK/\KeyAt H x.1 x.2.1/\∃ ls,H x.2.2=some (.lst ls)/\TL H ls e.2
  nd:(xs.map (·.2.2)).Nodup
theorem LK.nil {H:Hp}:LK H [] []:=⟨rfl,λ i x e h=>by simp at h,List.nodup_nil⟩
theorem LK.same {H H':Hp} {xs:List En2} {E:List (ML.En Th)} (g:LK H xs E) (s:Same H H'):LK H' xs E:=⟨g.len,λ i x e h1 h2=>by
  obtain ⟨e1,e2,ls,e3,e4⟩:=g.at_ i x e h1 h2;exact ⟨e1,e2.same s,ls,s _ _ e3,e4.same s⟩,g.nd⟩
theorem LK.pair {H:Hp} {xs:List En2} {E:List (ML.En Th)} (g:LK H xs E) {i:Nat} {x:En2} (h:xs[i]?=some x):∃ e,E[i]?=some e:=by
  have hi:i<E.length:=by rw [<-g.len];exact (List.getElem?_eq_some_iff.mp h).1
  exact ⟨_,List.getElem?_eq_getElem hi⟩
theorem Gs {a b:List Th} (h:a.map thK=b.map thK):a=b:=List.map_inj_right (λ _ _ q=>Dg q) |>.mp h
theorem LK.keys {H:Hp} {xs:List En2} {E:List (ML.En Th)} (g:LK H xs E):xs.map (·.1)=(E.map (·.1)).map (λ k=>k.map thK):=by
  apply List.ext_getElem?;intro i;rw [List.getElem?_map,List.getElem?_map,List.getElem?_map];cases h:xs[i]? with
  | none=>
    have:E[i]?=none:=List.getElem?_eq_none (by rw [<-g.len];exact List.getElem?_eq_none_iff.mp h);rw [this];rfl
  | some x=>
    obtain ⟨e,he⟩:=g.pair h;rw [he];simp only [Option.map_some];rw [(g.at_ i x e h he).1]
theorem LK.knd {H:Hp} {xs:List En2} {E:List (ML.En Th)} (g:LK H xs E) (nd:(E.map (·.1)).Nodup):(xs.map (·.1)).Nodup:=by
  rw [g.keys];exact List.Pairwise.map _ (λ a b q z=>q (Gs z)) nd
theorem LK.more {H:Hp} {xs:List En2} {E:List (ML.En Th)} {x:En2} {k:List Th} {t:Th} {v:V} {ls:List V} (g:LK H xs E) (nd:(E.map (·.1)).Nodup) (hx:x∈xs) (hk:x.1=k.map thK) (hl:H x.2.2=some (.lst ls)) (hv:TR H v t):
    LK (upd H x.2.2 (.lst (ls++[v]))) xs (E.map λ e=>if e.1=k then (e.1,e.2++[t]) else e) where
  len:=by rw [List.length_map,g.len]
  nd:=g.nd
  at_:=λ i y e h1 h2=>by
    rw [List.getElem?_map] at h2;obtain ⟨e0,he,rfl⟩:=Option.map_eq_some_iff.mp h2;obtain ⟨e1,e2,ls',e3,e4⟩:=g.at_ i y e0 h1 he;by_cases c:e0.1=k
    · have kn:=g.knd nd;have hxy:y=x:=by
        obtain ⟨j,hj⟩:=List.mem_iff_getElem?.mp hx;have hi:=(List.getElem?_eq_some_iff.mp h1).1;have:i=j:=(List.getElem?_inj (by rw [List.length_map];exact hi) kn).mp (by rw [List.getElem?_map,List.getElem?_map,h1,hj];simp only [Option.map_some];rw [e1,c,hk]);subst this;rw [h1] at hj;exact Option.some.inj hj
      subst hxy;rw [hl] at e3;cases e3;rw [if_pos c];exact ⟨e1,Iu e2 hl,_,Ae,(e4.app (TL.one hv)).wr hl⟩
    · rw [if_neg c];have ne:y.2.2≠x.2.2:=by
        intro z;obtain ⟨j,hj⟩:=List.mem_iff_getElem?.mp hx;have hi:=(List.getElem?_eq_some_iff.mp h1).1;have:i=j:=(List.getElem?_inj (by rw [List.length_map];exact hi) g.nd).mp (by rw [List.getElem?_map,List.getElem?_map,h1,hj];simp only [Option.map_some];rw [z]);subst this;rw [h1] at hj;cases hj;exact c (Gs (e1.symm.trans hk))
      exact ⟨e1,Iu e2 hl,ls',by rw [Am ne];exact e3,e4.wr hl⟩
theorem LK.add {H:Hp} {xs:List En2} {E:List (ML.En Th)} {l b:Addr} {k:List Th} {t:Th} {v:V} (g:LK H xs E) (hb:KeyAt H (k.map thK) b) (hl:H l=some (.lst [])) (hn:l∉xs.map (·.2.2)) (hv:TR H v t):
    LK (upd H l (.lst [v])) (xs++[(k.map thK,b,l)]) (E++[(k,[t])]) where
  len:=by rw [List.length_append,List.length_append,g.len];rfl
  nd:=by
    rw [List.map_append];refine List.nodup_append.mpr ⟨g.nd,List.pairwise_singleton _ _,λ a ha c hc z=> ?_⟩;have z:a=l:=z.trans (by rw [List.mem_singleton.mp hc]);exact hn (z▸ha)
  at_:=λ i y e h1 h2=>by
    rcases Nat.lt_or_ge i xs.length with c | c
    · rw [List.getElem?_append_left c] at h1;rw [List.getElem?_append_left (by rw [<-g.len];exact c)] at h2;obtain ⟨e1,e2,ls',e3,e4⟩:=g.at_ i y e h1 h2;have ne:y.2.2≠l:=λ z=>hn (z▸List.mem_map.mpr ⟨y,List.mem_of_getElem? h1,rfl⟩);exact ⟨e1,Iu e2 hl,ls',by rw [Am ne];exact e3,e4.wr hl⟩
    · rw [List.getElem?_append_right c] at h1;rw [List.getElem?_append_right (by rw [<-g.len];exact c), <-g.len] at h2;cases d:i - xs.length with
      | zero=>
        rw [d] at h1 h2;cases h1;cases h2;exact ⟨rfl,Iu hb hl,_,Ae,(TL.one hv).wr hl⟩
      | succ m=>rw [d] at h1;simp at h1
theorem TL.off {H:Hp} {d:Addr} {φ:Heap->Prop} {vs:List V} {o:HO} {ts:List Th} (h:TL H vs ts) (hd:H d=some (.ext φ)):TL (upd H d o) vs ts:=⟨h.len,λ i hi=>by
  obtain ⟨b,e,hb⟩:=h.at_ i hi;exact ⟨b,e,by rw [Am (A8 hb hd (by intro z;cases z))];exact hb⟩⟩
theorem KF {H:Hp} {d b:Addr} {φ:Heap->Prop} {o:HO} {r:List (List Key)} (p:KeyAt H r b) (hd:H d=some (.ext φ)):KeyAt (upd H d o) r b:=by
  obtain ⟨bs,e,le,el⟩:=p;refine ⟨bs,?_,le,λ i k c h1 h2=> ?_⟩
  · rw [Am (A8 e hd (by intro z;cases z))];exact e
  · have q:=el i k c h1 h2;rw [Am (A8 q hd (by intro z;cases z))];exact q
theorem LK.off {H:Hp} {d:Addr} {φ:Heap->Prop} {o:HO} {xs:List En2} {E:List (ML.En Th)} (g:LK H xs E) (hd:H d=some (.ext φ)):LK (upd H d o) xs E:=⟨g.len,λ i x e h1 h2=>by
  obtain ⟨e1,e2,ls,e3,e4⟩:=g.at_ i x e h1 h2;exact ⟨e1,KF e2 hd,ls,by rw [Am (A8 e3 hd (by intro z;cases z))];exact e3,e4.off hd⟩,g.nd⟩
theorem LK.find {H:Hp} {xs:List En2} {E:List (ML.En Th)} {x:En2} {k:List Th} (g:LK H xs E) (hx:x∈xs) (hk:x.1=k.map thK):k∈E.map (·.1)/\∃ ls e,H x.2.2=some (.lst ls)/\e∈E/\ls.length=e.2.length:=by
  obtain ⟨i,hi⟩:=List.mem_iff_getElem?.mp hx;obtain ⟨e,he⟩:=g.pair hi;obtain ⟨e1,e2,ls,e3,e4⟩:=g.at_ i x e hi he;have em:=List.mem_of_getElem? he;exact ⟨List.mem_map.mpr ⟨e,em,Gs (e1.symm.trans hk)⟩,ls,e,e3,em,e4.len⟩
theorem Rf {H:Hp} {q:Addr} {bs:List Addr} {ts:List Th} (hq:H q=some (.tup (bs.map V.ref))) (hl:bs.length=(ts.map thK).length) (hat:∀ i,i<(ts.map thK).length->H (bs.getD i 0)=some (.tup (((ts.map thK).getD i []).map kV))):KeyAt H (ts.map thK) q:=
  ⟨bs,hq,hl,λ i k c h1 h2=>by
    have hi:=(List.getElem?_eq_some_iff.mp h1).1;have:=hat i hi
    rwa [List.getD_eq_getElem?_getD,List.getD_eq_getElem?_getD,h1,h2] at this⟩
theorem LT {H:Hp} {ps:List (Addr × HO)} (h:∀ p∈ps,H p.1=none):Same H (GX H ps):=λ b o e=>by
  rw [Is]
  · exact e
  · intro z;obtain ⟨p,hp,rfl⟩:=List.mem_map.mp z;rw [h p hp] at e;cases e
theorem RB {H:Hp} {ts:List Th} {b:Addr} (p:KeyAt H (ts.map thK) b):∃ bs,H b=some (.tup bs)/\TL H bs ts:=by
  obtain ⟨bs,e,le,el⟩:=p;rw [List.length_map] at le;refine ⟨_,e,by rw [List.length_map,le],λ i hi=> ?_⟩;have hb:i<bs.length:=by rw [le];exact hi
  refine ⟨bs[i],?_,?_⟩
  · rw [List.getD_eq_getElem?_getD,List.getElem?_map,List.getElem?_eq_getElem hb];rfl
  · have:=el i (thK ts[i]) bs[i] (by rw [List.getElem?_map,List.getElem?_eq_getElem hi];rfl) (List.getElem?_eq_getElem hb);rw [List.getD_eq_getElem?_getD,List.getElem?_eq_getElem hi];exact this
structure LyR (F:Addr->Prop) (H:Hp) (v:V) (g:List Th × List Th):Prop where
  at_:∃ t b l bs ls,v= .ref t/\H t=some (.tup [.ref b, .ref l])/\H b=some (.tup bs)/\TL H bs g.1/\H l=some (.lst ls)/\TL H ls g.2/\F l
structure LyL (F:Addr->Prop) (H:Hp) (vs:List V) (gs:List (List Th × List Th)):Prop where
  len:vs.length=gs.length
  at_:∀ i,i<gs.length->LyR F H (vs.getD i .non) (gs.getD i ([],[]))
def CK (c:Cs):Sp:=λ vs H Q _=>∃ x n rs,vs=[.ref x]/\ClAt c.Cloth H x n rs/\ClOk n rs/\n+rs.length<64/\
  ∀ H' q refs E,Same H H'->H q=none->H' q=some (.lst refs)->LyL (FN H) (ers H' q) refs E->E.length<=n+rs.length->ML.Sq (Ai n rs.length) (Ba n rs) [] E []->Q (.ref q) H'
abbrev BX:Stmt:=top 33
theorem sc_lifted_layers:FnScope ["cloth","overs","layers","thread","lifted"] ["cloth"] (Ak BX):=⟨rfl,rfl,rfl,by decide +kernel,rfl,by decide +kernel,by decide +kernel⟩
theorem Fp {f:Addr} {fd:FuncData} (F:Fun K "lifted_layers" "lifted_layers" BX f fd) (T:Txt K mg c) (c_overs_of:Ar P w K mg base "overs_of" 5 ["cloth"] (DH c)) (c_threads_of:Ar P w K mg base "threads_of" 2 ["cloth"] (Cw c)) (c_threads_ahead:Ar P w K mg base "threads_ahead" 1 ["overs","one"] BI):FnOk P w K mg base CX0 6 f fd ["cloth"] (CK c):=by
  refine F.ok sc_lifted_layers (λ vs H Q E h=> ?_) (λ cdv A outer s H vs Q E hr h=> ?_)
  · obtain ⟨x,n,rs,rfl,_⟩:=h;rfl
  · obtain ⟨x,n,rs,rfl,C0,ok,h64,k⟩:=h;have hu1:=hr.units1;have n2:=ok.n2;have p2:=ok.p2;refine ⟨_,(Ad (Ao (i:=1) sc_lifted_layers.nd rfl (Or.inl rfl) (Ah c_overs_of hr (Aa (pv 0) Ab)))
      (Ad (Ao (i:=2) sc_lifted_layers.nd rfl (Or.inl rfl) MC)
      (Ad (A0 PassesOwn.never rfl (B0 (K:=K) (Ah c_threads_of (hr.mono (by decide)) (Aa (pv 0) Ab))) (As (i:=3) sc_lifted_layers.nd rfl (Or.inl rfl)) (Ad (Ao (i:=4) sc_lifted_layers.nd rfl (Or.inl rfl) (BO (K7 (K:=K)) rfl (T.own _ (by decide)) BV (Aa (Al (HA rfl) rfl (T.own _ (by decide)) De (Aa (Ah c_threads_ahead (hr.mono (by decide)) (Aa (pv 1) (Aa (pv 3) Ab))) Ab)) Ab)))
      (Ag (BC (ET (K:=K) PySem.F.plainAttrs_list PySem.F.slot_list_append PySem.F.type_list_append Bb (U4 PySem.F.slot_dict_setdefault PySem.F.type_dict_setdefault (L9 hr.units) (pv 2) (Aa (pv 4) (Aa (AT Ab) Ab))) (Aa (pv 3) Ab))))))
      (Ag (Ap (BO (Kf rfl) rfl (T.own _ (by decide)) AI (Aa (QP PySem.F.slot_dict_items PySem.F.type_dict_items Mc (pv 2)) Ab))))))),?_⟩
    walk_at "w";refine ⟨x,n,rs,rfl,C0,ok,λ H1 o kvo s1 ho ho1 ov=> ?_⟩;walk_at "w";intro d hd;walk_at "w";have s2:=Aj (o:=d2O P w d []) hd;refine ⟨x,n,rs,rfl,(C0.same s1).same s2,ok,λ H2 m s3 hm r2=> ?_⟩;have hd2:=s3 _ _ (show upd H1 d (d2O P w d []) d=_ from Ae);have s13:=s2.trans s3;have sE:=Fj s13 hd;walk_at "w";obtain ⟨m',refs,em,g2,_,t2,_⟩:=Du r2;cases em;have hmd:m≠d:=A8 g2 hd2 (by intro z;cases z);refine ⟨m,rfl,⟨_,SqL.of g2⟩,AM (H0:=ers H2 d) (Co (SqL.of (ED g2 hmd))) (λ i σ H3=>∃ y z xs E,σ=[some (.ref x),some (.ref o),some (.ref d),y,z]/\Same (ers H2 d) H3/\H3 d=some (d2O P w d xs)/\LK H3 xs E/\ML.Gk (Ai n rs.length) (Ba n rs) ((Ai n rs.length).take i) E/\xs.length<=i/\∀ e∈xs,ers H2 d e.2.2=none) ⟨_,_,[],[],rfl,ers_is,hd2,LK.nil,ML.Gk.nil _ _,Nat.le_refl _,λ e he=>by cases he⟩ (λ i σ H3 ⟨_,_,_,_,_,s,_⟩=>s) ?_ ?_⟩
    · rintro i σ H' H3 hi ⟨y,z,xs,E,rfl,s',hd',lk,gr,xl,fr⟩ s4;have hi':i<(Ai n rs.length).length:=by rw [<-t2.len];exact hi
      have sH:=s'.trans s4;have hd3:=s4 _ _ hd';obtain ⟨b,eb,hb⟩:=t2.at_ i hi';have hbd:b≠d:=A8 hb hd2 (by intro z;cases z);have hb3:=sH _ _ (ED hb hbd);have sA:=sE.trans sH;have h1:=L2.getD_mem (y:=((false,0):Th)) hi';rw [eb];walk_at "w";refine ⟨o,b,kvo,Ai n rs.length,ovL n rs,_,rfl,sA _ _ ho1,hb3,ov.same sA,h1,λ t _ y hy=>Er hy,by rw [Aq];omega,λ H4 d' kvs vis s5 hd' hd4 vr en lvv=> ?_⟩;have hlv:vis.length<=n+rs.length:=by
        have:=lvv.len
        rwa [Aq] at this
      walk_at "w";refine IT rkK hd4 (by rw [vr.len];omega) (by
        rw [vr.keys];refine GT λ t ht=> ?_;have:=mem_allT.mp (lvv.sub t ht);unfold okT at this;have h2:=this.2;split at h2 <;> omega) λ l bs ms hl pm pw hbl hat=> ?_
      rw [vr.keys] at pm;have e:=KB n2 p2 lvv pm pw;subst e;have s6:=Aj (o:=HO.lst (bs.map V.ref)) hl;walk_at "w";refine Jz (SqL.of Ae) λ q hq=> ?_;have s7:=Aj (o:=HO.tup (bs.map V.ref)) hq;have s57:=s5.trans (s6.trans s7);walk_at "w";refine Sk ?_;walk_at "w";refine ⟨⟨d,xs,rfl,s57 _ _ hd3⟩,?_⟩;walk_at "w";intro p hp;walk_at "w";have s8:=Aj (o:=HO.lst []) hp;have s58:=s57.trans s8;have hd8:=s58 _ _ hd3;have hp8:upd (upd (upd H4 l (HO.lst (bs.map V.ref))) q (HO.tup (bs.map V.ref))) p (HO.lst []) p=some (.lst []):=Ae;have hq8:=s8 _ _ (show upd (upd H4 l (HO.lst (bs.map V.ref))) q (HO.tup (bs.map V.ref)) q=_ from Ae);have hat8:=λ i hi=>s8 _ _ (s7 _ _ (s6 _ _ (hat i hi)));have hb8:=s58 _ _ hb3;have fp:ers H2 d p=none:=(sH.trans s57).free hp;have sX:=sH.trans s58;have lk8:=(lk.same s4).same s58;have np:p∉xs.map (·.2.2):=λ z=>by
        obtain ⟨e,em,ee⟩:=List.mem_map.mp z;obtain ⟨j,hj⟩:=List.mem_iff_getElem?.mp em;obtain ⟨e',he'⟩:=lk.pair hj;obtain ⟨_,_,ls,h3,_⟩:=((lk.same s4).same s57).at_ j e e' hj he';rw [ee,hp] at h3;cases h3
      generalize upd (upd (upd H4 l (HO.lst (bs.map V.ref))) q (HO.tup (bs.map V.ref))) p (HO.lst [])=H8 at*;have kq:=Rf hq8 hbl hat8;have eR:(Ai n rs.length).filter (has vis)=ML.R (Ai n rs.length) (Ba n rs) ((Ai n rs.length).getD i (false,0)):=WE en;rw [eR] at kq;have gp:=gr.put h1;have hl6:i<64:=by
        rw [Aq] at hi';omega
      have tk:=Cp hi';refine ⟨d,q,p,xs,_,rfl,rfl,hd8,λ e he=> ?_,lk8.knd gr.wn,kq,by omega,λ e he=> ?_,λ no=> ?_⟩
      · obtain ⟨j,hj⟩:=List.mem_iff_getElem?.mp he;obtain ⟨e',he'⟩:=lk8.pair hj;exact (lk8.at_ j e e' hj he').2.1
      · have em:=List.mem_of_find?_eq_some he;have ek:e.1=(ML.R (Ai n rs.length) (Ba n rs) ((Ai n rs.length).getD i (false,0))).map thK:=by
          have z:=List.find?_some he;exact of_decide_eq_true z
        obtain ⟨ik,ls,e',hls,em',ell⟩:=lk8.find em ek;have sz:ls.length<=i:=by
          rw [ell,(gr.wk e' em').1];exact Nat.le_trans (List.length_filter_le _ _) (by rw [List.length_take];omega)
        refine tyL (SqL.of hls) ?_;walk_at "w";refine ⟨e.2.2,ls,_,rfl,rfl,hls,by rw [sizeLine_eq];omega,?_⟩;walk_at "w";refine ⟨_,_,xs,_,rfl,?_,?_,lk8.more gr.wn em ek hls ⟨b,rfl,hb8⟩,?_,by omega,fr⟩
        · exact AQ sX (fr e em)
        · rw [Am (A8 hd8 hls (by intro z;cases z))];exact hd8
        · rw [tk];unfold ML.put at gp;rw [if_pos ik] at gp;exact gp
      · have pd:p≠d:=A8 hp8 hd8 (by intro z;cases z);have hp9:=(Am (H:=H8) (o:=d2O P w d (xs++[((ML.R (Ai n rs.length) (Ba n rs) ((Ai n rs.length).getD i (false,0))).map thK,q,p)])) pd).trans hp8;refine tyL (SqL.of hp9) ?_;walk_at "w";refine ⟨p,[],_,rfl,rfl,hp9,by show 0<sizeLine;rw [sizeLine_eq];omega,?_⟩;walk_at "w";refine ⟨_,_,_,_,rfl,?_,?_,(lk8.off hd8).add (t:=(Ai n rs.length).getD i (false,0)) (KF kq hd8) hp9 np ⟨b,rfl,?_⟩,?_,?_,λ e he=> ?_⟩
        · exact AQ (Ip sX) fp
        · rw [Am pd.symm];exact Ae
        · rw [Am (A8 hb8 hd8 (by intro z;cases z))];exact hb8
        · rw [tk];unfold ML.put at gp;rw [if_neg ?_] at gp
          · exact gp
          · intro hk;obtain ⟨e',he',ee⟩:=List.mem_map.mp hk;have:((ML.R (Ai n rs.length) (Ba n rs) ((Ai n rs.length).getD i (false,0))).map thK)∈xs.map (·.1):=by
              rw [lk8.keys];exact List.mem_map.mpr ⟨_,hk,rfl⟩
            obtain ⟨x0,hx0,ex0⟩:=List.mem_map.mp this;have:=List.find?_eq_none.mp no x0 hx0;exact this (decide_eq_true ex0)
        · rw [List.length_append,List.length_singleton];omega
        · rcases List.mem_append.mp he with z | z
          · exact fr e z
          · rw [List.mem_singleton.mp z];exact fp
    · rintro σ H3 ⟨y,z,xs,E,rfl,s4,hd3,lk,gr,xl,fr⟩;have e:(Ai n rs.length).take refs.length=Ai n rs.length:=by rw [t2.len,List.take_length]
      rw [e] at gr;have xl2:xs.length<=120:=by
        have:=t2.len;rw [Aq] at this;omega
      walk_at "w";refine Rq ?_;walk_at "w";refine ⟨⟨d,xs,rfl,hd3⟩,d,xs,rfl,rfl,hd3,λ r hr=> ?_⟩;walk_at "w";have s5:=Aj (o:=viO r d) hr;refine ⟨r,d,xs,rfl,Ae,s5 _ _ hd3,by omega,λ l ts hl htl nd hts=> ?_⟩;have mp:(((l,HO.lst (ts.map V.ref))::ts.zip (xs.map prO)).map (·.1))=l::ts:=by
        rw [List.map_cons,List.map_fst_zip];rw [htl,List.length_map];exact Nat.le_refl _
      have ndl:((((l,HO.lst (ts.map V.ref))::ts.zip (xs.map prO)).map (·.1))).Nodup:=by rw [mp];exact nd
      have fr5:∀ p∈(l,HO.lst (ts.map V.ref))::ts.zip (xs.map prO),upd H3 r (viO r d) p.1=none:=by
        intro p hp;have:p.1∈l::ts:=by rw [<-mp];exact List.mem_map.mpr ⟨p,hp,rfl⟩
        rcases List.mem_cons.mp this with z | z
        · rw [z];exact hl
        · exact hts _ z
      have s6:=LT fr5;have s56:=s5.trans s6;have sF:=s1.trans (sE.trans (s4.trans s56));have lk6:=lk.same (s5.trans (Fj s6 hl));refine k _ l (ts.map V.ref) E sF ((s1.trans (sE.trans (s4.trans s5))).free hl) (HV ndl (.head _)) ⟨by rw [List.length_map,htl,lk.len],λ i hi=> ?_⟩ (by rw [<-lk.len];have:=t2.len;rw [Aq] at this;omega) gr.sq;have hx:i<xs.length:=by rw [lk.len];exact hi
      have ht:i<ts.length:=by rw [htl];exact hx
      obtain ⟨e1,e2,ls,e3,e4⟩:=lk6.at_ i xs[i] E[i] (List.getElem?_eq_getElem hx) (List.getElem?_eq_getElem hi);rw [e1] at e2;obtain ⟨bs,e5,e6⟩:=RB e2;have eg:E.getD i ([],[])=E[i]:=by rw [List.getD_eq_getElem?_getD,List.getElem?_eq_getElem hi];rfl
      rw [eg];refine ⟨ts[i],xs[i].2.1,xs[i].2.2,bs,ls,?_,ED (HV ndl (.tail _ ?_)) (λ z=>(List.nodup_cons.mp nd).1 (z▸List.getElem_mem ht)),e5,e6,e3,e4,(s1.trans sE).free (fr _ (List.getElem_mem hx))⟩
      · rw [List.getD_eq_getElem?_getD,List.getElem?_map,List.getElem?_eq_getElem ht];rfl
      · refine List.mem_iff_getElem?.mpr ⟨i,List.getElem?_zip_eq_some.mpr ⟨List.getElem?_eq_getElem ht,?_⟩⟩;rw [List.getElem?_map,List.getElem?_eq_getElem hx];rfl
open MG
structure Told (H:Hp) (d:Addr) (told:List Th):Prop where
  at_:∃ kvs,H d=some (.dT kvs)/\∀ t,(Bd kvs (thK t)).isSome=decide (t∈told)
theorem Told.same {H H':Hp} {d:Addr} {told:List Th} (h:Told H d told) (s:Same H H'):Told H' d told:=
  let ⟨kvs,e,f⟩:=h.at_;⟨kvs,s _ _ e,f⟩
def GA:Sp:=λ vs H Q _=>∃ b l d bs ls,∃ e:ML.En Th,∃ told,vs=[.ref b, .ref l, .ref d]/\H b=some (.tup bs)/\TL H bs e.1/\H l=some (.lst ls)/\TL H ls e.2/\Told H d told/\e.1.length<64/\e.2.length<64/\
  ∀ H',Same H H'->Q (.bl (ML.isNx e told)) H'
abbrev Fd:Stmt:=top 34
theorem JS:FnScope ["lifted","layer","told"] ["lifted","layer","told"] (Ak Fd):=⟨rfl,rfl,rfl,by decide +kernel,rfl,by decide +kernel,by decide +kernel⟩
theorem JH {f:Addr} {fd:FuncData} (F:Fun K "is_next" "is_next" Fd f fd) (T:Txt K mg c):FnOk P w K mg base CX0 1 f fd ["lifted","layer","told"] GA:=by
  refine F.ok JS (λ vs H Q E h=> ?_) (λ cdv A outer s H vs Q E hr h=> ?_)
  · obtain ⟨b,l,d,bs,ls,e,told,rfl,_⟩:=h;rfl
  · obtain ⟨b,l,d,bs,ls,e,told,rfl,hb,tb,hl,tl,td,l1,l2,k⟩:=h;have hu1:=hr.units1;refine ⟨_,(Ag (Ap (Bj Bg (Af AA (Al (A6 (K:=K)) rfl (T.own _ (by decide)) boot_len (Aa (A9 (P6 (K:=K) (pv 0)) (λ _ _ _ _=>(Di (NB (QG hu1 (pv 0) (pv 1))))) (λ _ _ _ _=>(pv 0))) Ab)) (Al (A6 (K:=K)) rfl (T.own _ (by decide)) boot_len (Aa (pv 1) Ab))) (Al (A6 (K:=K)) rfl (T.own _ (by decide)) boot_len (Aa (pv 0) Ab)) (At _)))),?_⟩;walk_at "w";have lb:=tb.len;have lt:=tl.len;refine ⟨b,rfl,⟨_,SqT.of hb⟩,λ D hD=> ?_⟩;refine B9 (m:=1) (p:=λ j=>decide (e.1.getD j (false,0)∈told)) (G:=λ j=>dTh (e.1.getD j (false,0))) (K2 (SqT.of hb) rfl) hD (by omega) ?_ ?_ ?_
    · intro j H1 R hj s1 kk;obtain ⟨bj,ebj,hbj⟩:=tb.at_ j (by omega);rw [ebj];walk_at "w";obtain ⟨kvs,hd,hk⟩:=td.at_;refine ⟨d,_,rfl,DGet.t (k:=thK (e.1.getD j (false,0))) (s1 _ _ hd) (s1 _ _ hbj),?_⟩;rw [hk];exact ⟨_,rfl,kk H1 (Same.refl _)⟩
    · intro j H1 R hj hp s1 kk;obtain ⟨bj,ebj,hbj⟩:=tb.at_ j (by omega);rw [ebj];walk_at "w";exact kk H1 _ (Same.refl _) (Hx ⟨bj,rfl,s1 _ _ hbj⟩)
    · intro H1 ys s1 hl1 r1;rw [lb,DA (λ t=>decide (t∈told)) dTh e.1 (false,0)] at r1;obtain ⟨D',dr,eD,hD1,_,tD,_⟩:=Du r1;cases eD;have ld:=tD.len;walk_at "w";refine AD (SqL.of hD1) ?_;walk_at "w";refine AD (SqL.of (s1 _ _ hl)) ?_;walk_at "w";refine HY (SqT.of (s1 _ _ hb)) ?_;walk_at "w";have e1:decide (((dr.length:Int)+(ls.length:Int))=(bs.length:Int))=ML.isNx e told:=by
        have z:∀ q:Th->Bool,(∀ t,q t=decide (t∈told))->(e.1.filter q).length=dr.length:=λ q hq=>by
          rw [show q=λ t=>decide (t∈told) from funext hq];exact ld.symm
        unfold ML.isNx;rw [z]
        · rw [decide_eq_decide, <-lt, <-lb];omega
        · exact λ t=>decide_eq_decide.mpr Iff.rfl
      rw [e1];exact k H1 s1
open MG
theorem LyR.same {F:Addr->Prop} {H H':Hp} {v:V} {g:List Th × List Th} (h:LyR F H v g) (s:Same H H'):LyR F H' v g:=
  let ⟨t,b,l,bs,ls,e1,e2,e3,e4,e5,e6,e7⟩:=h.at_;⟨t,b,l,bs,ls,e1,s _ _ e2,s _ _ e3,e4.same s,s _ _ e5,e6.same s,e7⟩
theorem LyL.same {F:Addr->Prop} {H H':Hp} {vs:List V} {gs:List (List Th × List Th)} (h:LyL F H vs gs) (s:Same H H'):LyL F H' vs gs:=⟨h.len,λ i hi=>(h.at_ i hi).same s⟩
theorem NU {xs:List V} {s:Nat} (h:s<xs.length):atI xs ((s:Nat):Int)=some (xs.getD s .non):=by
  unfold atI ixN;rw [if_pos (by omega),if_pos (by omega)];simp only [Option.bind_some,Int.toNat_natCast];rw [List.getD_eq_getElem?_getD,List.getElem?_eq_getElem h];rfl
def Ea:Sp:=λ vs H Q _=>∃ q d refs,∃ (W:List (ML.En Th)) (F:Addr->Prop),∃ told,vs=[.ref q, .ref d]/\H q=some (.lst refs)/\LyL F H refs W/\Told H d told/\(∀ e∈W,e.1.length<64/\e.2.length<64)/\(∃ e∈W,ML.isNx e told=true)/\W.length<64/\
  ∀ H' i e,Same H H'->W[i]?=some e->ML.isNx e told=true->(∀ j e',j<i->W[j]?=some e'->ML.isNx e' told=false)->Q (.int (i:Nat)) H'
abbrev CV:Stmt:=top 35
theorem sc_next_place:FnScope ["waiting","told","place"] ["waiting","told"] (Ak CV):=⟨rfl,rfl,rfl,by decide +kernel,rfl,by decide +kernel,by decide +kernel⟩
theorem Hj {f:Addr} {fd:FuncData} (F:Fun K "next_place" "next_place" CV f fd) (T:Txt K mg c) (c_is_next:Ar P w K mg base "is_next" 1 ["lifted","layer","told"] GA):FnOk P w K mg base CX0 2 f fd ["waiting","told"] Ea:=by
  refine F.ok sc_next_place (λ vs H Q E h=> ?_) (λ cdv A outer s H vs Q E hr h=> ?_)
  · obtain ⟨q,d,refs,W,F,told,rfl,_⟩:=h;rfl
  · obtain ⟨q,d,refs,W,Fr,told,rfl,hq,ly,td,small,ex,wl,k⟩:=h;refine ⟨_,(Ad (Ao (i:=2) sc_next_place.nd rfl (Or.inl rfl) Ac)
      (Ad (EJ PassesOwn.never (BA (AZ (Ah c_is_next hr (Aa (Av (Bl (K:=K)) (Av (Bc (K:=K)) (pv 0) (pv 2) (λ _ _=>rfl)) Ac (λ _ _=>rfl)) (Aa (Av (Bl (K:=K)) (Av (Bc (K:=K)) (pv 0) (pv 2) (λ _ _=>rfl)) Ac (λ _ _=>rfl)) (Aa (pv 1) Ab)))))) (Ag (N5 (i:=2) sc_next_place.nd rfl (Or.inl rfl) Ac On)))
      (Ag (Ap (pv 2))))),?_⟩
    walk_at "w";obtain ⟨e0,he0,nx0⟩:=ex;obtain ⟨j0,hj0⟩:=List.mem_iff_getElem?.mp he0;refine ⟨λ w σ H'=>∃ i:Nat,σ=[some (.ref q),some (.ref d),some (.int (i:Nat))]/\Same H H'/\i<=j0/\(∀ j e',j<i->W[j]?=some e'->ML.isNx e' told=false)/\w=W.length - i,⟨_,0,rfl,Same.refl _,Nat.zero_le _,λ j e' h=>absurd h (Nat.not_lt_zero _),rfl⟩,?_⟩;rintro w0 σ H' ⟨i,rfl,sH,ij,mn,rfl⟩;have hj:=(List.getElem?_eq_some_iff.mp hj0).1;have hi:i<W.length:=by omega
    have hir:i<refs.length:=by rw [ly.len];exact hi
    obtain ⟨t,b,l,bs,ls,e1,e2,e3,e4,e5,e6,_⟩:=((ly.same sH).at_ i hi).at_;have eg:W.getD i ([],[])=W[i]:=by rw [List.getD_eq_getElem?_getD,List.getElem?_eq_getElem hi];rfl
    rw [eg] at e4 e6;have at1:atI refs ((i:Nat):Int)=some (.ref t):=by
      rw [NU hir];exact congrArg some e1
    walk_at "w";refine AN (SqL.of (sH _ _ hq)) at1 ?_;walk_at "w";refine AS (SqT.of e2) rfl ?_;walk_at "w";refine AN (SqL.of (sH _ _ hq)) at1 ?_;walk_at "w";refine AS (SqT.of e2) rfl ?_;walk_at "w";have sm:=small W[i] (List.getElem_mem hi);refine ⟨b,l,d,bs,ls,W[i],told,rfl,e3,e4,e5,e6,td.same sH,sm.1,sm.2,λ H1 s1=>⟨_,rfl,?_⟩⟩;have sT:=sH.trans s1;cases c:ML.isNx W[i] told with
    | false=>
      rw [if_pos (show (!false)=true from rfl)];refine ⟨λ σ G=>σ=[some (.ref q),some (.ref d),some (.int ((i+1:Nat):Int))]/\Same H G,λ σ G ⟨z,sG⟩=>⟨W.length - (i+1),by omega,i+1,z,sG,?_,λ j e' hj he=> ?_,rfl⟩,?_⟩
      · rcases Nat.lt_or_ge i j0 with z | z
        · exact z
        · have:i=j0:=by omega
          subst this;rw [List.getElem?_eq_getElem hi] at hj0;cases hj0;rw [c] at nx0;cases nx0
      · rcases Nat.lt_or_ge j i with z | z
        · exact mn j e' z he
        · have:j=i:=by omega
          subst this;rw [List.getElem?_eq_getElem hi] at he;cases he;exact c
      · walk_at "w";refine ⟨.int ((i:Nat):Int),rfl,?_⟩;walk_at "w";exact ⟨rfl,sT⟩
    | true=>
      rw [if_neg (show ¬ ((!true)=true) from Bool.false_ne_true)];walk_at "w";exact k H1 i W[i] sT (List.getElem?_eq_getElem hi) c mn
open MG
structure LsL (F:Addr->Prop) (H:Hp) (vs:List V) (Ls:List (List Th)):Prop where
  len:vs.length=Ls.length
  at_:∀ i,i<Ls.length->∃ l ls,vs.getD i .non= .ref l/\H l=some (.lst ls)/\TL H ls (Ls.getD i [])/\F l
theorem LsL.same {F:Addr->Prop} {H H':Hp} {vs:List V} {Ls:List (List Th)} (h:LsL F H vs Ls) (s:Same H H'):LsL F H' vs Ls:=⟨h.len,λ i hi=>by
  obtain ⟨l,ls,e1,e2,e3,e4⟩:=h.at_ i hi;exact ⟨l,ls,e1,s _ _ e2,e3.same s,e4⟩⟩
theorem LsL.nil {F:Addr->Prop} {H:Hp}:LsL F H [] []:=⟨rfl,λ i hi=>by cases hi⟩
theorem LsL.snoc {F:Addr->Prop} {H:Hp} {vs:List V} {Ls:List (List Th)} {l:Addr} {ls:List V} {ts:List Th} (h:LsL F H vs Ls) (hl:H l=some (.lst ls)) (t:TL H ls ts) (f:F l):LsL F H (vs++[.ref l]) (Ls++[ts]):=⟨by rw [List.length_append,List.length_append,h.len];rfl,λ i hi=>by
  rcases Nat.lt_or_ge i Ls.length with z | z
  · obtain ⟨l',ls',e1,e2,e3,e4⟩:=h.at_ i z;refine ⟨l',ls',?_,e2,?_,e4⟩
    · rw [List.getD_eq_getElem?_getD,List.getElem?_append_left (by rw [h.len];exact z), <-List.getD_eq_getElem?_getD];exact e1
    · rw [List.getD_eq_getElem?_getD,List.getElem?_append_left z, <-List.getD_eq_getElem?_getD];exact e3
  · have:i=Ls.length:=by rw [List.length_append,List.length_singleton] at hi;omega
    subst this;refine ⟨l,ls,?_,hl,?_,f⟩
    · rw [<-h.len,List.getD_eq_getElem?_getD,List.getElem?_concat_length];rfl
    · rw [List.getD_eq_getElem?_getD,List.getElem?_concat_length];exact t⟩
theorem GN {β:Type} (l:List β) (i j:Nat) (d:β):(l.eraseIdx i).getD j d=if j<i then l.getD j d else l.getD (j+1) d:=by
  rw [List.getD_eq_getElem?_getD,List.getElem?_eraseIdx];split <;> rw [List.getD_eq_getElem?_getD]
theorem LyL.erase {F:Addr->Prop} {H:Hp} {vs:List V} {W:List (List Th × List Th)} (h:LyL F H vs W) {i:Nat} (hi:i<W.length):LyL F H (vs.eraseIdx i) (W.eraseIdx i):=by
  have l1:=List.length_eraseIdx_of_lt hi;have l2:=List.length_eraseIdx_of_lt (l:=vs) (by rw [h.len];exact hi);have hl:=h.len;refine ⟨by omega,λ j hj=> ?_⟩;rw [GN,GN];split
  · exact h.at_ j (by omega)
  · exact h.at_ (j+1) (by omega)
def Tld (kvs:List (List Key × V)) (told:List Th):Prop:=∀ t,(Bd kvs (thK t)).isSome=decide (t∈told)
theorem Tld.put {kvs:List (List Key × V)} {told:List Th} {t:Th} {v:V} (h:Tld kvs told):Tld (Ct kvs (thK t) v) (told++[t]):=λ u=>by
  rw [F9];by_cases e:u=t
  · subst e;rw [if_pos rfl];simp
  · rw [if_neg (λ q=>e (Dg q)),h u,decide_eq_decide,List.mem_append,List.mem_singleton];simp [e]
def CO (c:Cs):Sp:=λ vs H Q _=>∃ x n rs,vs=[.ref x]/\ClAt c.Cloth H x n rs/\ClOk n rs/\n+rs.length<64/\
  ∀ H' q refs Ls,Same H H'->H q=none->H' q=some (.lst refs)->LsL (FN H) (ers H' q) refs Ls->ML.Sq (Ai n rs.length) (Ba n rs) Ls [] Ls.flatten->Q (.ref q) H'
theorem KO {n:Nat} {rs:List Nat} {Ls:List (List Th)} {W:List (ML.En Th)} {told:List Th} (st:ML.St (Ai n rs.length) (Ba n rs) Ls W told) {e:ML.En Th} (he:e∈W):e.1.length<=n+rs.length/\e.2.length<=n+rs.length:=by
  obtain ⟨e2,t,_,e1⟩:=st.wk e he;rw [e2,e1, <-Aq];exact ⟨List.length_filter_le _ _,List.length_filter_le _ _⟩
abbrev DL:Stmt:=top 36
theorem sc_layers_of:FnScope ["cloth","waiting","told","layers","layer","thread"] ["cloth"] (Ak DL):=⟨rfl,rfl,rfl,by decide +kernel,rfl,by decide +kernel,by decide +kernel⟩
theorem IA {f:Addr} {fd:FuncData} (F:Fun K "layers_of" "layers_of" DL f fd) (T:Txt K mg c) (c_lifted_layers:Ar P w K mg base "lifted_layers" 6 ["cloth"] (CK c)) (c_next_place:Ar P w K mg base "next_place" 2 ["waiting","told"] Ea):FnOk P w K mg base CX0 7 f fd ["cloth"] (CO c):=by
  refine F.ok sc_layers_of (λ vs H Q E h=> ?_) (λ cdv A outer s H vs Q E hr h=> ?_)
  · obtain ⟨x,n,rs,rfl,_⟩:=h;rfl
  · obtain ⟨x,n,rs,rfl,C0,ok,h64,k⟩:=h;have hu1:=hr.units1;refine ⟨_,(Ad (Ao (i:=1) sc_layers_of.nd rfl (Or.inl rfl) (Ah c_lifted_layers hr (Aa (pv 0) Ab)))
      (Ad (Ao (i:=2) sc_layers_of.nd rfl (Or.inl rfl) E4)
      (Ad (Ao (i:=3) sc_layers_of.nd rfl (Or.inl rfl) (AT Ab))
      (Ad (EJ PassesOwn.never (AE P1 (Al (A6 (K:=K)) rfl (T.own _ (by decide)) boot_len (Aa (pv 1) Ab)) Ac (At _)) (Ad (Ao (i:=4) sc_layers_of.nd rfl (Or.inl rfl) (Av (Bl (K:=K)) (ET (K:=K) PySem.F.plainAttrs_list PySem.F.slot_list_pop PySem.F.type_list_pop NC (pv 1) (Aa (Ah c_next_place (hr.mono (by decide)) (Aa (pv 1) (Aa (pv 2) Ab))) Ab)) Ac (λ _ _=>rfl)))
      (Ad (BC (ET (K:=K) PySem.F.plainAttrs_list PySem.F.slot_list_append PySem.F.type_list_append Bb (pv 3) (Aa (pv 4) Ab)))
      (Ag (A0 PassesOwn.never rfl (B0 (K:=K) (pv 4)) (As (i:=5) sc_layers_of.nd rfl (Or.inl rfl)) (Ag (EW hu1 (pv 2) (pv 5) Eg rfl)))))))
      (Ag (Ap (pv 3))))))),?_⟩
    walk_at "w";refine ⟨x,n,rs,rfl,C0,ok,h64,λ H1 wq refs E s1 hw hw1 ly el st=> ?_⟩;walk_at "w";intro td htd;walk_at "w";intro lq hlq;walk_at "w";have s2:=Aj (o:=HO.dT []) htd;have s3:=Aj (o:=HO.lst []) hlq;have s23:=s2.trans s3;have ht3:=s3 _ _ (show upd H1 td (HO.dT []) td=_ from Ae);have hl3:upd (upd H1 td (HO.dT [])) lq (HO.lst []) lq=_:=Ae;have sB:Same H (ers H1 wq):=Fj s1 hw;have hB:=(ers_is (H:=H1) (d:=wq)).trans s23;have bt:ers H1 wq td=none:=ers_is.free htd;have bl:ers H1 wq lq=none:=(ers_is.trans s2).free hlq;have bw:ers H1 wq wq=none:=by unfold ers;rw [if_pos rfl]
    have hw3:=s23 _ _ hw1;have nlw:wq≠lq:=Au (s2 _ _ hw1) hlq;have ntw:wq≠td:=Au hw1 htd;have ntl:td≠lq:=A8 ht3 hl3 (by intro z;cases z);generalize upd (upd H1 td (HO.dT [])) lq (HO.lst [])=H3 at ht3 hl3 hB hw3 ⊢;generalize ers H1 wq=B at sB hB bt bl bw ly ⊢;refine ⟨λ w σ H'=>∃ (refs Lr:List V) (kvs:List (List Key × V)) (W:List (ML.En Th)) (Ls:List (List Th)) (told:List Th) (x1 x2:Option V),σ=[some (.ref x),some (.ref wq),some (.ref td),some (.ref lq),x1,x2]/\Same B H'/\H' wq=some (.lst refs)/\LyL (FN H) B refs W/\H' lq=some (.lst Lr)/\LsL (FN H) B Lr Ls/\H' td=some (.dT kvs)/\Tld kvs told/\kvs.length<=told.length/\ML.Sq (Ai n rs.length) (Ba n rs) Ls W told/\told.length+64*W.length<=4096/\Ls.length+W.length<64/\w=W.length,⟨_,refs,[],[],E,[],[],_,_,rfl,hB,hw3,ly,hl3,LsL.nil,ht3,λ t=>by simp [Bd],Nat.le_refl _,st,by simp;omega,by simp;omega,rfl⟩,?_⟩;clear st ly hw3 ht3 hl3 hB el hw1 refs;rintro w0 σ H' ⟨refs,Lr,kvs,W,Ls,told,x1,x2,rfl,sH,hw',ly,hl',lsl,ht',tld,kl,st,b1,b2,rfl⟩;walk_at "w";refine AD (SqL.of hw') ?_;walk_at "w";refine Ev (λ hne=> ?_) (λ hne=> ?_)
    · have hW:W≠[]:=λ z=>by
        have:=ly.len;rw [z] at this;simp at this;rw [this] at hne;simp at hne
      refine ⟨λ σ H'=>∃ (refs Lr:List V) (kvs:List (List Key × V)) (W':List (ML.En Th)) (Ls:List (List Th)) (told:List Th) (x1 x2:Option V),σ=[some (.ref x),some (.ref wq),some (.ref td),some (.ref lq),x1,x2]/\Same B H'/\H' wq=some (.lst refs)/\LyL (FN H) B refs W'/\H' lq=some (.lst Lr)/\LsL (FN H) B Lr Ls/\H' td=some (.dT kvs)/\Tld kvs told/\kvs.length<=told.length/\ML.Sq (Ai n rs.length) (Ba n rs) Ls W' told/\told.length+64*W'.length<=4096/\Ls.length+W'.length<64/\W'.length<W.length,?_,?_⟩
      · rintro σ' H'' ⟨refs,Lr,kvs,W',Ls,told,x1,x2,rfl,q1,q2,q3,q4,q5,q6,q7,q8,q9,q10,q11,q12⟩;exact ⟨_,q12,refs,Lr,kvs,W',Ls,told,x1,x2,rfl,q1,q2,q3,q4,q5,q6,q7,q8,q9,q10,q11,rfl⟩
      · walk_at "w";refine tyL (SqL.of hw') ?_;walk_at "w";refine ⟨wq,td,refs,W,_,told,rfl,hw',ly.same sH,⟨kvs,ht',tld⟩,λ e he=> ?_,st.st.next (BS n rs) hW,by omega,λ H4 i e s4 hi nx mn=> ?_⟩
        · have:=KO st.st he;omega
        walk_at "w";have hiW:=(List.getElem?_eq_some_iff.mp hi).1;have hir:i<refs.length:=by rw [ly.len];exact hiW
        obtain ⟨t,b,l,bs,ls,e1,e2,e3,e4,e5,e6,e7⟩:=(ly.at_ i hiW).at_;have eg:W.getD i ([],[])=e:=by rw [List.getD_eq_getElem?_getD,hi];rfl
        rw [eg] at e4 e6;have er:refs[i]?=some (.ref t):=by
          rw [List.getD_eq_getElem?_getD,List.getElem?_eq_getElem hir] at e1;rw [List.getElem?_eq_getElem hir];exact congrArg some e1
        have hix:seqIndex? ((i:Nat):Int) refs.length=some i:=by
          unfold seqIndex?;have h0:¬ ((i:Nat):Int)<0:=by omega
          simp only [if_neg h0];rw [if_pos (by simp;omega)];simp
        refine ⟨wq,refs,i,i, .ref t,rfl,rfl,s4 _ _ hw',by omega,by omega,hix,er,?_⟩;have s5:Same B (upd H4 wq (HO.lst (refs.eraseIdx i))):=AQ (sH.trans s4) bw;have hl5:upd H4 wq (HO.lst (refs.eraseIdx i)) lq=_:=(Am nlw.symm).trans (s4 _ _ hl');have ht5:upd H4 wq (HO.lst (refs.eraseIdx i)) td=_:=(Am ntw.symm).trans (s4 _ _ ht');have hw5:upd H4 wq (HO.lst (refs.eraseIdx i)) wq=_:=Ae;generalize upd H4 wq (HO.lst (refs.eraseIdx i))=H5 at s5 hl5 ht5 hw5 ⊢;walk_at "w";refine AS (SqT.of (s5 _ _ e2)) (Ax (j:=1) rfl) ?_;walk_at "w";refine tyL (SqL.of hl5) ?_;walk_at "w";refine DM hl5 (by rw [lsl.len];omega) ?_;have s6:Same B (upd H5 lq (HO.lst (Lr++[V.ref l]))):=AQ s5 bl;have ht6:upd H5 lq (HO.lst (Lr++[V.ref l])) td=_:=(Am ntl).trans ht5;have hw6:upd H5 lq (HO.lst (Lr++[V.ref l])) wq=_:=(Am nlw).trans hw5;have hl6:upd H5 lq (HO.lst (Lr++[V.ref l])) lq=_:=Ae;generalize upd H5 lq (HO.lst (Lr++[V.ref l]))=H6 at s6 ht6 hw6 hl6 ⊢;walk_at "w";have el2:=e6.len;have small:=KO st.st (List.mem_of_getElem? hi);refine ⟨l,rfl,⟨_,SqL.of (s6 _ _ e5)⟩,AM (H0:=B) (Co (SqL.of e5)) (λ j σ H7=>∃ (kv:List (List Key × V)) (y:Option V),σ=[some (.ref x),some (.ref wq),some (.ref td),some (.ref lq),some (.ref l),y]/\Same B H7/\H7 wq=some (.lst (refs.eraseIdx i))/\H7 lq=some (.lst (Lr++[.ref l]))/\H7 td=some (.dT kv)/\Tld kv (told++e.2.take j)/\kv.length<=told.length+j) ⟨kvs,_,rfl,s6,hw6,hl6,ht6,by rw [List.take_zero,List.append_nil];exact tld,kl⟩ (λ j σ H7 ⟨_,_,_,s,_⟩=>s) ?_ ?_⟩
        · rintro j σ G H7 hj ⟨kv,y,rfl,s',hw7,hl7,ht7,tl7,k7⟩ s7;have hj':j<e.2.length:=by rw [<-el2];exact hj
          obtain ⟨bj,ebj,hbj⟩:=e6.at_ j hj';have sG:=s'.trans s7;rw [ebj];walk_at "w";refine ⟨td,_,rfl,DPut.t (k:=thK (e.2.getD j (false,0))) (s7 _ _ ht7) (sG _ _ hbj) (Nat.lt_of_le_of_lt (show kv.length<=100000 by omega) (by decide)),?_⟩;walk_at "w";refine ⟨_,_,rfl,AQ sG bt,(Am ntw).trans (s7 _ _ hw7),(Am ntl.symm).trans (s7 _ _ hl7),Ae,?_,?_⟩
          · rw [Cp hj', <-List.append_assoc];exact tl7.put
          · have:=Bf kv (thK (e.2.getD j (false,0))) (.bl true);omega
        · rintro σ H7 ⟨kv,y,rfl,s7,hw7,hl7,ht7,tl7,k7⟩;rw [el2,List.take_length] at tl7;walk_at "w";have lW:=List.length_eraseIdx_of_lt hiW;refine ⟨_,_,kv,W.eraseIdx i,Ls++[e.2],told++e.2,_,_,rfl,s7,hw7,ly.erase hiW,hl7,lsl.snoc e5 e6 e7,ht7,tl7,by rw [List.length_append];omega,st.step (BS n rs) (DV _ _) hi nx mn,by rw [List.length_append];omega,by rw [List.length_append,List.length_singleton];omega,by omega⟩
    · have hnil:W=[]:=by
        have:=ly.len;cases h0:W with
        | nil=>rfl
        | cons a as=>
          rw [h0] at this;exact absurd (show (0:Int)<(refs.length:Nat) by rw [this];simp) hne
      subst hnil;walk_at "w";have e:=st.st.fl;subst e;exact k H' lq Lr Ls (sB.trans sH) (sB.free bl) hl' (lsl.same (Fj sH bl)) st
open MG
theorem S1 {n:Nat} {rs:List Nat} {x t:Th}:x∈ovL n rs t->ioB rs x t=true:=λ h=>by
  rw [<-F0] at h;exact (List.mem_filter.mp h).2
structure LvO (kvs:List (List Key × V)) (n:Nat) (rs:List Nat) (lvl:Th->Nat):Prop where
  at_:∀ t∈Ai n rs.length,Bd kvs (thK t)=some (nV (lvl t))
  eq:∀ t∈Ai n rs.length,∀ u∈Ai n rs.length,lvl t=lvl u↔Rch (ovL n rs) t u/\Rch (ovL n rs) u t
  ord:∀ t∈Ai n rs.length,∀ u∈Ai n rs.length,Rch (ovL n rs) t u->lvl u<=lvl t
def lvP (Ls:List (List Th)) (t:Th):List Key × V:=(thK t,nV (ML.lvl Ls t))
theorem Ke (Ls:List (List Th)) (t:Th):∀ ds:List Th,Bd (ds.map (lvP Ls)) (thK t)=if t∈ds then some (nV (ML.lvl Ls t)) else none
  | []=>rfl
  | d::ds=>by
    rw [List.map_cons];by_cases e:d=t
    · subst e;rw [if_pos (List.mem_cons_self ..)];exact AX rfl
    · have z:Bd (lvP Ls d::ds.map (lvP Ls)) (thK t)=Bd (ds.map (lvP Ls)) (thK t):=AO (p:=lvP Ls d) (λ q=>e (Dg q));rw [z,Ke Ls t ds];by_cases c:t∈ds
      · rw [if_pos c,if_pos (List.mem_cons_of_mem _ c)]
      · rw [if_neg c,if_neg λ q=>by
          rcases List.mem_cons.mp q with w | w
          · exact e w.symm
          · exact c w]
theorem Ru {n:Nat} {rs:List Nat} {Ls:List (List Th)} (st:ML.St (Ai n rs.length) (Ba n rs) Ls [] Ls.flatten):LvO (Ls.flatten.map (lvP Ls)) n rs (ML.lvl Ls) where
  at_:=λ t ht=>by
    rw [Ke,if_pos ((st.perm (BS n rs) (DV _ _)).mem_iff.mpr ht)]
  eq:=λ t ht u hu=>by rw [st.lvl_eq (BS n rs) ht hu,rel_iff,rel_iff]
  ord:=λ t ht u hu h=>st.lvl_ord ht hu (rel_iff.mpr h)
theorem Np {n:Nat} {rs:List Nat} {Ls:List (List Th)} (n1:1<=n) (st:ML.St (Ai n rs.length) (Ba n rs) Ls [] Ls.flatten):decide (Ls.length=1)=Hu n rs:=by
  have hne:Ai n rs.length≠[]:=λ z=>by
    have:=Aq n rs.length;rw [z] at this;simp at this;omega
  refine F7 ?_;rw [decide_eq_true_eq,st.one (BS n rs) hne];unfold Ji;simp only [rel_iff]
theorem FV {Ls:List (List Th)} {i:Nat} {l:List Th} (h:Ls[i]?=some l):(Ls.take (i+1)).flatten=(Ls.take i).flatten++l:=by
  rw [List.take_add_one,h];simp
theorem RH {Ls:List (List Th)} (nd:Ls.flatten.Nodup) {i j:Nat} {l:List Th} (h:Ls[i]?=some l) (hj:j<l.length):l.getD j (false,0)∉(Ls.take i).flatten++l.take j:=by
  have hi:=(List.getElem?_eq_some_iff.mp h).1;have e:Ls=Ls.take (i+1)++Ls.drop (i+1):=(List.take_append_drop ..).symm;rw [e,List.flatten_append,FV h,List.nodup_append] at nd;have nd:=nd.1;have e2:l=l.take (j+1)++l.drop (j+1):=(List.take_append_drop ..).symm;rw [e2,Cp hj, <-List.append_assoc, <-List.append_assoc,List.nodup_append] at nd;have nd:=nd.1;rw [List.nodup_append] at nd;exact λ z=>nd.2.2 _ z _ (List.mem_singleton.mpr rfl) rfl
open MG
def GY (n:Nat) (rs:List Nat) (f:Th->Bool):Nat:=MM.ofB (λ j=>f ((Ai n rs.length).getD j (false,0))) (n+rs.length)
open Classical in
def mkU (n:Nat) (rs:List Nat) (S:List Th):Nat:=GY n rs λ u=>decide (u∈S)
def abM (n:Nat) (rs:List Nat) (t:Th):Nat:=GY n rs λ u=>ioB rs u t
def Ay (n:Nat) (rs:List Nat):List Nat:=(Ai n rs.length).map (abM n rs)
def Bs (n:Nat) (rs:List Nat):List Nat:=(List.range (n+rs.length)).map λ j=>MM.ofB (λ k=>((Ay n rs).getD k 0).testBit j) (n+rs.length)
theorem NY {kvs:List (List Key × V)} {k:List Key} (h:k∉kvs.map (·.1)):Bd kvs k=none:=by
  induction kvs with
  | nil=>rfl
  | cons p kvs ih=>
    rw [List.map_cons,List.mem_cons,not_or] at h;rw [AO (p:=p) (λ z=>h.1 z.symm)];exact ih h.2
theorem Ri {kvs:List (List Key × V)} {i:Nat} {k:List Key} {v:V} (nd:(kvs.map (·.1)).Nodup) (h:kvs[i]?=some (k,v)):Bd kvs k=some v:=by
  induction kvs generalizing i with
  | nil=>simp at h
  | cons p kvs ih=>
    rw [List.map_cons,List.nodup_cons] at nd;cases i with
    | zero=>
      cases h;exact AX rfl
    | succ i=>
      have h:kvs[i]?=some (k,v):=h;have ne:p.1≠k:=λ z=>nd.1 (List.mem_map.mpr ⟨(k,v),List.mem_of_getElem? h,z.symm⟩);rw [AO (p:=p) ne];exact ih nd.2 h
theorem L6 (es:List (List Key × V)) (nd:(es.map (·.1)).Nodup):Cv es=es:=by
  induction es using MM.snoc_ind with
  | h0=>rfl
  | h1 l a ih=>
    rw [List.map_append,List.nodup_append] at nd;rw [DD,ih nd.1,F1 _ (NY λ z=>nd.2.2 _ z _ (List.mem_singleton.mpr rfl) rfl)]
def plE (n:Nat) (rs:List Nat):List (List Key × V):=(List.range (n+rs.length)).map λ i=>(thK ((Ai n rs.length).getD i (false,0)),nV i)
theorem Mo (n:Nat) (rs:List Nat):((plE n rs).map (·.1)).Nodup:=by
  have e:(plE n rs).map (·.1)=(Ai n rs.length).map thK:=by
    unfold plE;rw [List.map_map, <-Aq];exact AK thK (Ai n rs.length) (false,0)
  rw [e];exact List.Pairwise.map _ (λ a b h z=>h (Dg z)) (DV _ _)
theorem Oi {n:Nat} {rs:List Nat} {i:Nat} (h:i<n+rs.length):Bd (plE n rs) (thK ((Ai n rs.length).getD i (false,0)))=some (nV i):=by
  refine Ri (i:=i) (Mo n rs) ?_;unfold plE;rw [List.getElem?_map,List.getElem?_range h];rfl
theorem RE (n:Nat) (rs:List Nat) (t:Th):ovL n rs t=((List.range (n+rs.length)).filter λ i=>ioB rs ((Ai n rs.length).getD i (false,0)) t).map λ i=>(Ai n rs.length).getD i (false,0):=by
  have:=DA (λ x=>ioB rs x t) id (Ai n rs.length) (false,0);rw [F0,Aq,List.map_id] at this;exact this.symm
theorem JR (m i:Nat):((m >>> i) &&& 1)=(m.testBit i).toNat:=by rw [Nat.and_one_is_mod,Nat.shiftRight_eq_div_pow,MM.bit_div]
def unL (n:Nat) (rs:List Nat) (k j0:Nat):List Nat:=(List.range (n+rs.length)).map λ j=>MM.ofB (λ k=>((Ay n rs).getD k 0).testBit j) (if j<j0 then k+1 else k)
theorem Pl {n:Nat} {rs:List Nat} {k j:Nat} (hj:j<n+rs.length):((unL n rs k j).map nV).set j (nV (MM.ofB (λ k=>((Ay n rs).getD k 0).testBit j) (k+1)))=(unL n rs k (j+1)).map nV:=by
  unfold unL;refine List.ext_getElem (by simp) λ i h1 h2=> ?_;have hi:i<n+rs.length:=by simpa using h2
  rw [List.getElem_set];by_cases c:j=i
  · subst c;rw [if_pos rfl];simp
  · rw [if_neg c];simp only [List.getElem_map,List.getElem_range];have:(i<j)↔(i<j+1):=by omega
    by_cases d:i<j
    · rw [if_pos d,if_pos (by omega)]
    · rw [if_neg d,if_neg (by omega)]
theorem Q8 {n:Nat} {rs:List Nat} {k j:Nat} (hj:j<n+rs.length):(unL n rs k j).getD j 0=MM.ofB (λ k=>((Ay n rs).getD k 0).testBit j) k:=by
  unfold unL;rw [List.getD_eq_getElem?_getD,List.getElem?_map,List.getElem?_range hj];simp
theorem N8 (n:Nat) (rs:List Nat) (k:Nat):unL n rs k (n+rs.length)=unL n rs (k+1) 0:=by
  unfold unL;refine List.map_congr_left λ j hj=> ?_;rw [if_pos (List.mem_range.mp hj),if_neg (Nat.not_lt_zero _)]
theorem Le (n:Nat) (rs:List Nat) (k j:Nat):(unL n rs k j).length=n+rs.length:=by unfold unL;rw [List.length_map,List.length_range]
def adV:V->Addr
  | .ref p=>p
  | _=>0
theorem Ry {H:Hp} {F:Addr->Prop} {c:Nat} {D:Addr} {n:Nat} {rs:List Nat} (r:Rp H F c (.ref D) (.lst ((List.range (n+rs.length)).map λ i=> .tup [dTh ((Ai n rs.length).getD i (false,0)),dN i]))):∃ ps:List Addr,H D=some (.lst (ps.map V.ref))/\ps.length=(plE n rs).length/\NP H ps (plE n rs):=by
  obtain ⟨m,a,vs,rfl,ea,h,f,l,b,e⟩:=GS r;cases ea;rw [List.length_map,List.length_range] at l;have key:∀ i,i<n+rs.length->∃ p b,vs.getD i .non= .ref p/\H p=some (.tup [.ref b,nV i])/\H b=some (.tup (thV ((Ai n rs.length).getD i (false,0)))):=λ i hi=>by
    have z:=e i (by rw [List.length_map,List.length_range];exact hi);have eg:((List.range (n+rs.length)).map λ i=>Dt.tup [dTh ((Ai n rs.length).getD i (false,0)),dN i]).getD i .non= .tup [dTh ((Ai n rs.length).getD i (false,0)),dN i]:=by
      rw [List.getD_eq_getElem?_getD,List.getElem?_map,List.getElem?_range hi];rfl
    rw [eg] at z;obtain ⟨m',p,ws,_,ep,hp,lp,bp,e2⟩:=J2 z
    match ws,lp,hp,e2 with
    | [x,y],_,hp,e2=>
      have e0:=e2 0 (by show 0<2;decide);have e1:=e2 1 (by show 1<2;decide);obtain ⟨b,eb,hb⟩:=PB (show Rp H F m' x (dTh _) from e0);cases eb;cases e1;exact ⟨p,b,ep,hp,hb⟩
  have lps:(vs.map adV).length=(plE n rs).length:=by
    unfold plE;rw [List.length_map,List.length_map,List.length_range,l]
  have evs:(vs.map adV).map V.ref=vs:=by
    rw [List.map_map];refine List.ext_getElem (by simp) λ i h1 h2=> ?_;obtain ⟨p,b,e1,_⟩:=key i (by omega);rw [L2.getD_el h2] at e1;rw [List.getElem_map,e1];rfl
  refine ⟨vs.map adV,by rw [evs];exact h,lps,λ i hi=> ?_⟩;have hi':i<n+rs.length:=by unfold plE at hi;rwa [List.length_map,List.length_range] at hi
  obtain ⟨p,b,e1,e2,e3⟩:=key i hi';have g1:(vs.map adV).getD i 0=p:=by
    rw [List.getD_eq_getElem?_getD,List.getElem?_map,List.getElem?_eq_getElem (by omega)];rw [L2.getD_el (by omega)] at e1;rw [e1];rfl
  have g2:(plE n rs).getD i ([], .non)=(thK ((Ai n rs.length).getD i (false,0)),nV i):=by
    unfold plE;rw [List.getD_eq_getElem?_getD,List.getElem?_map,List.getElem?_range hi'];rfl
  rw [g1,g2];exact ⟨b,e2,e3⟩
def Ed:Sp:=λ vs H Q _=>∃ (n:Nat) (a:Addr) (rs:List Nat),vs=[nV n, .ref a]/\H a=some (.lst (rs.map nV))/\ClOk n rs/\n+rs.length<64/\∀ H' t m b u refs,Same H H'->H' t=some (.tup [.ref m, .ref b, .ref u])->H' m=some (.lst refs)->TL H' refs (Ai n rs.length)->H' b=some (.lst ((Ay n rs).map nV))->H' u=some (.lst ((Bs n rs).map nV))->Q (.ref t) H'
abbrev Df:Stmt:=top 51
theorem sc__law_masks:FnScope ["_law_ends","_law_rows","_law_some","_law_k","_law_places","_law_uppers_here","_law_above","_law_under","_law_j"] ["_law_ends","_law_rows"] (Ak Df):=⟨rfl,rfl,rfl,by decide +kernel,rfl,by decide +kernel,by decide +kernel⟩
theorem Hl {f:Addr} {fd:FuncData} (F:Fun K "_law_masks" "_law_masks" Df f fd) (T:Txt K mg c) (c__law_threads:Ar P w K mg base "_law_threads" 1 ["_law_ends","_law_picks"] Br) (c__law_uppers:Ar P w K mg base "_law_uppers" 2 ["_law_ends","_law_rows"] Dy):FnOk P w K mg base CX0 3 f fd ["_law_ends","_law_rows"] Ed:=by
  refine F.ok sc__law_masks (λ vs H Q E h=> ?_) (λ cdv A outer s H vs Q E hr h=> ?_)
  · obtain ⟨n,a,rs,rfl,_⟩:=h;rfl
  · obtain ⟨n,a,rs,rfl,ha,ok,h64,k⟩:=h;have hu1:=hr.units1;have n2:=ok.n2;have p2:=ok.p2;have lT:=Aq n rs.length;refine ⟨_,(Ad (Ao (i:=2) sc__law_masks.nd rfl (Or.inl rfl) (Ah c__law_threads (hr.mono (by decide)) (Aa (pv 0) (Aa (Al (A6 (K:=K)) rfl (T.own _ (by decide)) boot_len (Aa (pv 1) Ab)) Ab))))
      (Ad (Ao (i:=4) sc__law_masks.nd rfl (Or.inr rfl) (BO (OB hr.units (by rfl)) rfl (T.own _ (by decide)) PyProof.Rows.boot_dict (Aa (Gh (K:=K) (FY (K:=K) rfl (T.own _ (by decide)) (Aa (pv 2) Ab)) (λ _ _ _ _=>AY) (λ _ _ _ _=>(A5 (Aa (pv 1) (Aa (pv 0) Ab))))) Ab)))
      (Ad (Ao (i:=5) sc__law_masks.nd rfl (Or.inr rfl) (Ah c__law_uppers hr (Aa (pv 0) (Aa (pv 1) Ab))))
      (Ad (GL (i:=6) sc__law_masks.nd rfl (Or.inl rfl) (B0 (K:=K) (pv 2)) (λ _ _ _ _=>AY) (λ _ _ _ _=>(Al (P7 (K:=K)) rfl (T.own _ (by decide)) boot_sum (Aa (HD (fr:=[("_law_places",1)]) (B0 (K:=K) (EY hu1 (pv 2) (pv 0) (λ _ _=>rfl))) (λ _ _ _ _=>AY) (λ _ _ _ _=>(Af Be Ac (EY hu1 (pv 1) (pv 0) (λ _ _=>rfl))))) Ab))))
      (Ad (Ao (i:=7) sc__law_masks.nd rfl (Or.inl rfl) (Af M4 (AT (Aa Ac Ab)) (Al (A6 (K:=K)) rfl (T.own _ (by decide)) boot_len (Aa (pv 2) Ab))))
      (Ad (A0 PassesOwn.never rfl (AL rfl (T.own _ (by decide)) (Aa (Al (A6 (K:=K)) rfl (T.own _ (by decide)) boot_len (Aa (pv 2) Ab)) Ab)) (As (i:=3) sc__law_masks.nd rfl (Or.inl rfl)) (Ag (A0 PassesOwn.never rfl (AL rfl (T.own _ (by decide)) (Aa (Al (A6 (K:=K)) rfl (T.own _ (by decide)) boot_len (Aa (pv 2) Ab)) Ab)) (As (i:=8) sc__law_masks.nd rfl (Or.inl rfl)) (Ag (Gg (Af AA (Av (Bc (K:=K)) (pv 7) (pv 8) (λ _ _=>rfl)) (Af Cg (Af BN (Af DK (Av (Bc (K:=K)) (pv 6) (pv 3) (λ _ _=>rfl)) (pv 8)) Ac) (Af Be Ac (pv 3)))) (Rb (pv 7) (pv 8) Mn))))))
      (Ag (Ap (A5 (Aa (pv 2) (Aa (pv 6) (Aa (pv 7) Ab)))))))))))),?_⟩
    walk_at "w";refine AD (SqL.of ha) ?_;rw [List.length_map];walk_at "w";refine ⟨n,rs.length,rfl,n2,p2,λ H1 m s1 hm r1=> ?_⟩;obtain ⟨m',refs,em,g1,_,t1,_⟩:=Du r1;cases em;have lr:=t1.len;walk_at "w";refine ⟨m,rfl,⟨_,SqL.of g1⟩,λ D hD=> ?_⟩;refine Cf (m:=2) (G:=λ i=> .tup [dTh ((Ai n rs.length).getD i (false,0)),dN i]) (F5 (SqL.of g1) rfl rfl) hD (by omega) ?_ ?_
    · intro i H' R hi s kk;obtain ⟨b,eb,hb⟩:=t1.at_ i (by omega);rw [eb];walk_at "w";intro z hz;exact kk _ _ (Aj hz) (CY Ae ((Hx ⟨b,rfl,(s.trans (Aj hz)) _ _ hb⟩)) (.int _))
    intro H2 ys s2 hl2 r2;rw [lr,lT] at r2;obtain ⟨ps,hD2,lps,prs⟩:=Ry r2;have lE:(plE n rs).length=n+rs.length:=by unfold plE;rw [List.length_map,List.length_range]
    walk_at "w";refine ⟨D,ps,plE n rs,rfl,hD2,lps,by omega,prs,λ H3 d s3 hd hd3=> ?_⟩;rw [L6 _ (Mo n rs)] at hd3;have s13:=s2.trans s3;have s03:=s1.trans s13;walk_at "w";refine ⟨n,a,rs,rfl,s03 _ _ ha,ok,λ H4 u kvU s4 hu0 hU ov=> ?_⟩;have s14:=s13.trans s4;have g4:=s14 _ _ g1;have t4:=t1.same s14;have hd4:=s4 _ _ hd3;walk_at "w";refine ⟨m,rfl,⟨_,SqL.of g4⟩,λ D5 hD5=> ?_⟩;refine Bk (G:=λ i=>((abM n rs ((Ai n rs.length).getD i (false,0)):Nat):Int)) (BW (SqL.of g4) rfl) hD5 (by omega) ?_ ?_
    · intro i H' R hi s kk;have hi':i<(Ai n rs.length).length:=by omega
      obtain ⟨b,eb,hb⟩:=t4.at_ i hi';rw [eb];have tU:(Ai n rs.length).getD i (false,0)∈Ai n rs.length:=L2.getD_mem hi';generalize (Ai n rs.length).getD i (false,0)=t at hb tU kk;obtain ⟨l,el,rl⟩:=ov.at_ t tU;obtain ⟨l',vl,e',hl,_,tlu,_⟩:=Du rl;cases e';walk_at "w";refine ⟨u, .ref l,rfl,el▸DGet.t (k:=thK t) (s _ _ hU) (s _ _ hb),?_⟩;walk_at "w";refine ⟨l,rfl,⟨_,SqL.of (s _ _ hl)⟩,λ D6 hD6=> ?_⟩;have lv:=tlu.len;have eo:=RE n rs t;generalize hix:(List.range (n+rs.length)).filter (λ i=>ioB rs ((Ai n rs.length).getD i (false,0)) t)=ix at eo;have lx:ix.length=vl.length:=by rw [lv,eo,List.length_map]
      have ixl:ix.length<=n+rs.length:=by
        rw [<-hix];refine Nat.le_trans (List.length_filter_le _ _) ?_;rw [List.length_range];exact Nat.le_refl _
      refine Bk (G:=λ j=>((2 ^ ix.getD j 0:Nat):Int)) (BW (SqL.of (s _ _ hl)) rfl) hD6 (by omega) ?_ ?_
      · intro j H7 R7 hj s7 kk7;have hjx:j<ix.length:=by omega
        obtain ⟨bj,ebj,hbj⟩:=tlu.at_ j (by omega);have hin:ix.getD j 0<n+rs.length:=by
          have:=L2.getD_mem (y:=0) hjx;rw [<-hix] at this;have:=List.mem_range.mp (List.mem_filter.mp this).1;rw [hix] at this;exact this
        have eth:(ovL n rs t).getD j (false,0)=(Ai n rs.length).getD (ix.getD j 0) (false,0):=by
          rw [eo,GD (λ i=>(Ai n rs.length).getD i (false,0)) ix j (false,0) 0 hjx]
        rw [eth] at hbj;rw [ebj];walk_at "w";refine ⟨d,nV (ix.getD j 0),rfl,Oi hin▸DGet.t (k:=thK ((Ai n rs.length).getD (ix.getD j 0) (false,0))) ((s.trans s7) _ _ hd4) ((s.trans s7) _ _ hbj),?_⟩;walk_at "w";refine An ⟨by omega,by omega,by decide⟩ ?_;have e1:(1:Int)*2 ^ ((ix.getD j 0:Nat):Int).toNat=((2 ^ ix.getD j 0:Nat):Int):=by
          rw [Int.toNat_natCast,Int.one_mul];push_cast;rfl
        rw [e1];exact kk7 H7 (Same.refl _)
      · intro H7 s7 hl7;walk_at "w";refine Nh (SqL.of hl7) ?_;have es:(List.range vl.length).map (λ j=>((2 ^ ix.getD j 0:Nat):Int))=(ix.map λ i=>2 ^ i).map (λ x:Nat=>(x:Int)):=by
          rw [<-lx,List.map_map];exact AK (λ i=>((2 ^ i:Nat):Int)) ix 0
        have eq:(((ix.map λ i=>2 ^ i).map (λ x:Nat=>(x:Int))).sum)=((abM n rs t:Nat):Int):=by
          rw [show abM n rs t=(ix.map λ i=>2 ^ i).sum from ?_]
          · generalize ix.map (λ i=>2 ^ i)=zs
            induction zs with
            | nil=>rfl
            | cons z zs ih=>simp only [List.map_cons,List.sum_cons,ih];push_cast;rfl
          · unfold abM GY;rw [<-hix,MM.sum_filt]
        rw [es,eq];exact kk H7 s7
    intro H5 s5 hl5;have ea:((List.range refs.length).map λ i=>((abM n rs ((Ai n rs.length).getD i (false,0)):Nat):Int)).map V.int=(Ay n rs).map nV:=by
      rw [lr,List.map_map];unfold Ay;rw [List.map_map];exact AK (λ t=>nV (abM n rs t)) (Ai n rs.length) (false,0)
    rw [ea] at hl5;walk_at "w";row_lines H5 x6;have s46:=s5.trans s6;have s16:=s14.trans s46;walk_at "w";refine AD (SqL.of (s46 _ _ g4)) ?_;walk_at "w";refine No g6 (by omega) (by omega) (by simp) λ p7 n7=> ?_;have e7:(List.replicate ((refs.length:Nat):Int).toNat [V.int 0]).flatten=(unL n rs 0 0).map nV:=by
      rw [Int.toNat_natCast,lr,lT,List.flatten_replicate_singleton];unfold unL;refine List.ext_getElem (by simp) λ i h1 h2=> ?_;simp only [List.getElem_map,List.getElem_range,if_neg (Nat.not_lt_zero _)];rw [List.getElem_replicate];rfl
    rw [e7];wrow_has H6 x7;walk_at "w";refine AD (SqL.of (s7 _ _ (s46 _ _ g4))) ?_;walk_at "w";have eN:refs.length=n+rs.length:=by rw [lr,lT]
    rw [eN];refine ⟨_,rfl,by omega,by omega,?_⟩;rw [Int.toNat_natCast];refine AM (H0:=H6) (BM (n:=n+rs.length)) (λ i σ H3=>∃ x1 x2,σ=[some (nV n),some (.ref a),some (.ref m),x1,some (.ref d),some (.ref u),some (.ref D5),some (.ref p7),x2]/\Same H6 H3/\H3 p7=some (.lst ((unL n rs i 0).map nV))) ⟨_,_,rfl,s7,g7⟩ (λ i σ H3 ⟨_,_,_,s,_⟩=>s) ?_ ?_
    · rintro i σ G H8 hi ⟨x1,x2,rfl,s',h8⟩ s8;have sG:=s'.trans s8;walk_at "w";refine AD (SqL.of (sG _ _ (s46 _ _ g4))) ?_;walk_at "w";rw [eN];refine ⟨_,rfl,by omega,by omega,?_⟩;rw [Int.toNat_natCast];refine AM (H0:=H6) (BM (n:=n+rs.length)) (λ j σ H3=>∃ x2,σ=[some (nV n),some (.ref a),some (.ref m),some (nV i),some (.ref d),some (.ref u),some (.ref D5),some (.ref p7),x2]/\Same H6 H3/\H3 p7=some (.lst ((unL n rs i j).map nV))) ⟨_,rfl,sG,s8 _ _ h8⟩ (λ j σ H3 ⟨_,_,s,_⟩=>s) ?_ ?_
      · rintro j σ G9 H9 hj ⟨x3,rfl,s9',h9⟩ s9;have s69:=s9'.trans s9;replace h9:=s9 _ _ h9;have lA:(Ay n rs).length=n+rs.length:=by unfold Ay;rw [List.length_map,lT]
        walk_at "w";refine AN (SqL.of h9) (Bp (by omega) (by rw [Le];omega)) ?_;rw [Int.toNat_natCast,Q8 hj];walk_at "w";refine AN (SqL.of (s69 _ _ (s6 _ _ hl5))) (Bp (by omega) (by omega)) ?_;rw [Int.toNat_natCast];walk_at "w";refine An (by show (0:Int)<=_;omega) ?_;rw [Cm];walk_at "w";have eb:Builtin.bitAnd ((((Ay n rs).getD i 0) >>> j:Nat):Int) 1=(((((Ay n rs).getD i 0).testBit j).toNat:Nat):Int):=by rw [show (1:Int)=((1:Nat):Int) from rfl,bA,JR]
        rw [eb];refine An ⟨by omega,by omega,by decide⟩ ?_;have e1:(1:Int)*2 ^ ((i:Nat):Int).toNat=((2 ^ i:Nat):Int):=by
          rw [Int.toNat_natCast,Int.one_mul];push_cast;rfl
        rw [e1];have b1:(((Ay n rs).getD i 0).testBit j).toNat<=1:=Bool.toNat_le _;refine An (.inl ⟨by omega,by omega⟩) ?_;walk_at "w";refine Pq ?_;walk_at "w";refine ⟨p7,_,_,j,rfl,rfl,h9,Rg (by rw [List.length_map,Le];omega),?_⟩;have ev:V.int (((MM.ofB (λ k=>((Ay n rs).getD k 0).testBit j) i:Nat):Int)+(((((Ay n rs).getD i 0).testBit j).toNat:Nat):Int)*((2 ^ i:Nat):Int))=nV (MM.ofB (λ k=>((Ay n rs).getD k 0).testBit j) (i+1)):=by
          show V.int _=V.int _;congr 1
        rw [ev,Pl hj];exact ⟨_,rfl,AQ s69 n7,Ae⟩
      · rintro σ H9 ⟨x3,rfl,s9,h9⟩;rw [N8] at h9;walk_at "w";exact ⟨_,_,rfl,s9,h9⟩
    · rintro σ H8 ⟨x1,x2,rfl,s8,h8⟩;walk_at "w";row_lines H8 x9;have s69:=s8.trans s9;have s19:=s16.trans s69;have eu:unL n rs (n+rs.length) 0=Bs n rs:=by
        unfold unL Bs;refine List.map_congr_left λ j hj=> ?_;rw [if_neg (Nat.not_lt_zero _)]
      rw [eu] at h8;exact k H9 p9 m D5 p7 refs (s1.trans s19) g9 (s19 _ _ g1) (t1.same s19) (s69 _ _ (s6 _ _ hl5)) (s9 _ _ h8)
open MG
def CL:Sp:=λ vs H Q _=>∃ (a:Addr) (M:List Nat) (k:Nat),vs=[.ref a,nV k]/\H a=some (.lst (M.map nV))/\k<M.length/\M.length<64/\(∀ m∈M,m<2 ^ M.length)/\∀ H' r,Same H H'->MM.Fnd M k M.length r []->Q (nV r) H'
abbrev BZ:Stmt:=top 52
theorem sc__law_all_from:FnScope ["_law_masks_here","_law_k","_law_found","_law_edge","_law_fresh"] ["_law_masks_here","_law_k"] (Ak BZ):=⟨rfl,rfl,rfl,by decide +kernel,rfl,by decide +kernel,by decide +kernel⟩
theorem Fa {f:Addr} {fd:FuncData} (F:Fun K "_law_all_from" "_law_all_from" BZ f fd) (T:Txt K mg c):FnOk P w K mg base CX0 1 f fd ["_law_masks_here","_law_k"] CL:=by
  refine F.ok sc__law_all_from (λ vs H Q E h=> ?_) (λ cdv A outer s H vs Q E hr h=> ?_)
  · obtain ⟨a,M,k,rfl,_⟩:=h;rfl
  · obtain ⟨a,M,kk,rfl,ha,hk,h64,hM,k⟩:=h;have hu:=hr.units0;refine ⟨_,(Ad (Ao (i:=2) sc__law_all_from.nd rfl (Or.inl rfl) (Af Be Ac (pv 1)))
      (Ad (Ao (i:=3) sc__law_all_from.nd rfl (Or.inl rfl) (AT (Aa (pv 1) Ab)))
      (Ad (EJ PassesOwn.never (AE (PJ hu (K:=K)) (pv 3) (AT Ab) (At _)) (Ad (Ao (i:=4) sc__law_all_from.nd rfl (Or.inr rfl) (Af BN (Av (Bc (K:=K)) (pv 0) (NL (K:=K) PySem.F.plainAttrs_list PySem.F.slot_list_pop PySem.F.type_list_pop Qm (pv 3)) (λ _ _=>rfl)) (KN N9 (pv 2))))
      (Ad (Ao (i:=2) sc__law_all_from.nd rfl (Or.inl rfl) (Af Jk (pv 2) (pv 4)))
      (Ag (Ao (i:=3) sc__law_all_from.nd rfl (Or.inl rfl) (Af (K5 (K:=K)) (pv 3) (A9 (AL rfl (T.own _ (by decide)) (Aa (Al (A6 (K:=K)) rfl (T.own _ (by decide)) boot_len (Aa (pv 0) Ab)) Ab)) (λ _ _ _ _=>(Di (AE Bg (Af BN (Af DK (pv 1) (pv 0)) Ac) Ac (At _)))) (λ _ _ _ _=>(pv 0)))))))))
      (Ag (Ap (pv 2)))))),?_⟩
    walk_at "w";refine An ⟨by omega,by omega,by decide⟩ ?_;have e1:(1:Int)*2 ^ ((kk:Nat):Int).toNat=((2 ^ kk:Nat):Int):=by
      rw [Int.toNat_natCast,Int.one_mul];push_cast;rfl
    rw [e1];walk_at "w";row_lines H x1;walk_at "w";have lc:∀ f,MM.cnt f M.length<=M.length:=λ f=>by
      unfold MM.cnt;exact Nat.le_trans (List.length_filter_le _ _) (by rw [List.length_range];exact Nat.le_refl _)
    refine ⟨λ w σ H'=>∃ (f:Nat) (E:List Nat) (e:Addr) (x1:Option V),σ=[some (.ref a),some (nV kk),some (nV f),some (.ref e),x1]/\Same H H'/\H e=none/\H' e=some (.lst (E.map nV))/\MM.Fnd M kk M.length f E/\2*MM.cnt f M.length+E.length<=200/\w=2*MM.cnt f M.length+E.length,⟨_,2 ^ kk,[kk],p1,_,rfl,s1,n1,g1,MM.Fnd.zero hk,by have:=lc (2 ^ kk);simp;omega,rfl⟩,?_⟩;rintro w0 σ H' ⟨f,E,e,x1,rfl,sH,he,hE,fn,le,rfl⟩;walk_at "w";row_lines H' x2;have eE:(E.map nV)=(E.map λ x:Nat=>(x:Int)).map V.int:=by rw [List.map_map];rfl
    have hE2:=s2 _ _ hE;have sH2:=sH.trans s2;refine KD (as:=E.map λ x:Nat=>(x:Int)) (bs:=[]) (eE▸SqL.of hE2) (SqL.of g2) ?_;refine ⟨_,rfl,?_⟩;cases hrev:E.reverse with
    | nil=>
      have eE:E=[]:=by simpa using hrev
      subst eE;rw [show (!decide (([]:List Nat).map (λ x:Nat=>(x:Int))=[]))=false from by simp];walk_at "w";exact k H2 f sH2 fn
    | cons y R=>
      have eE:E=R.reverse++[y]:=by
        have:=congrArg List.reverse hrev
        rwa [List.reverse_reverse,List.reverse_cons] at this
      generalize R.reverse=L at eE;subst eE;have c1:(!decide ((L++[y]).map (λ x:Nat=>(x:Int))=[]))=true:=by simp
      rw [c1,if_pos rfl];have hy:=fn.ed y (List.mem_append_right _ (List.mem_singleton.mpr rfl));have hMy:M.getD y 0<2 ^ M.length:=hM _ (L2.getD_mem hy.1);have fn2:=fn.step hMy;have lN:((List.range M.length).filter (M.getD y 0 ^^^ (M.getD y 0 &&& f)).testBit).length<=M.length:=Nat.le_trans (List.length_filter_le _ _) (by rw [List.length_range];exact Nat.le_refl _);have ct:=MM.cnt_or (f:=f) (g:=M.getD y 0 ^^^ (M.getD y 0 &&& f)) (w:=M.length) λ j hj=>by
        rw [MM.fresh_bit,Bool.and_eq_true] at hj;simpa using hj.2
      refine ⟨λ σ' G=>∃ (e:Addr) (x1:Option V),σ'=[some (.ref a),some (nV kk),some (nV (f ||| (M.getD y 0 ^^^ (M.getD y 0 &&& f)))),some (.ref e),x1]/\Same H G/\H e=none/\G e=some (.lst ((L++(List.range M.length).filter (M.getD y 0 ^^^ (M.getD y 0 &&& f)).testBit).map nV)),?_,?_⟩
      · rintro σ' G ⟨e',x1',rfl,sG,he',hG⟩;refine ⟨_,?_,_,_,e',x1',rfl,sG,he',hG,fn2,?_,rfl⟩
        · rw [List.length_append,List.length_append,List.length_singleton];omega
        · rw [List.length_append,List.length_singleton] at le;rw [List.length_append];omega
      · walk_at "w";refine tyL (SqL.of hE2) ?_;refine ⟨e,_,nV y,rfl,rfl,hE2,by simp,?_⟩;have ed:((L++[y]).map nV).dropLast=L.map nV:=by simp
        rw [ed];have s3:Same H (upd H2 e (HO.lst (L.map nV))):=AQ sH2 he;have h3:upd H2 e (HO.lst (L.map nV)) e=_:=Ae;generalize upd H2 e (HO.lst (L.map nV))=H3 at s3 h3 ⊢;refine AN (SqL.of (s3 _ _ ha)) (Bp (by omega) (by omega)) ?_;rw [Int.toNat_natCast];walk_at "w";rw [KL];walk_at "w";rw [bO];walk_at "w";refine AD (SqL.of (s3 _ _ ha)) ?_;rw [List.length_map];walk_at "w";refine ⟨_,rfl,by omega,by omega,λ D hD=> ?_⟩;rw [Int.toNat_natCast];refine El (p:=(M.getD y 0 ^^^ (M.getD y 0 &&& f)).testBit) (G:=λ i=>((i:Nat):Int)) (Bt rfl) hD (by omega) ?_ ?_ ?_
        · intro j H4 R4 hj s4 kk4;walk_at "w";refine An (by show (0:Int)<=_;omega) ?_;rw [Cm];walk_at "w";have eb:Builtin.bitAnd (((M.getD y 0 ^^^ (M.getD y 0 &&& f)) >>> j:Nat):Int) 1=((((M.getD y 0 ^^^ (M.getD y 0 &&& f)) >>> j) &&& 1:Nat):Int):=by rw [show (1:Int)=((1:Nat):Int) from rfl,bA]
          rw [eb,OR];exact kk4 H4 (Same.refl _)
        · intro j H4 R4 hj hp s4 kk4;walk_at "w";exact kk4 H4 (Same.refl _)
        · intro H4 s4 hl4;walk_at "w";have ez:(((List.range M.length).filter (M.getD y 0 ^^^ (M.getD y 0 &&& f)).testBit).map (λ i=>((i:Nat):Int))).map V.int=((List.range M.length).filter (M.getD y 0 ^^^ (M.getD y 0 &&& f)).testBit).map nV:=by rw [List.map_map];rfl
          rw [ez] at hl4;refine HZ (SqL.of (s4 _ _ h3)) (SqL.of hl4) (by rw [List.length_map,List.length_map];rw [List.length_append,List.length_singleton] at le;omega) λ p5 n5=> ?_;rw [<-List.map_append];wrow_has H4 x5;have s04:=s3.trans s4;walk_at "w";exact ⟨p5,_,rfl,s04.trans s5,s04.free n5,g5⟩
open MG
theorem CN (n:Nat) (rs:List Nat) (f:Th->Bool) (j:Nat):(GY n rs f).testBit j=(decide (j<n+rs.length)&&f ((Ai n rs.length).getD j (false,0))):=MM.ofB_bit _ _ _
theorem Gy (n:Nat) (rs:List Nat) (f:Th->Bool):GY n rs f<2 ^ (n+rs.length):=MM.ofB_lt _ _
theorem Gm {n:Nat} {rs:List Nat} {m:Nat} {f:Th->Bool} (h:m<2 ^ (n+rs.length)) (b:∀ i,i<n+rs.length->m.testBit i=f ((Ai n rs.length).getD i (false,0))):m=GY n rs f:=MM.eq_ofB h b
theorem F6 {n:Nat} {rs:List Nat} {j:Nat} (h:j<n+rs.length):(Ai n rs.length).getD j (false,0)∈Ai n rs.length:=L2.getD_mem (by rw [Aq];exact h)
theorem Qr {n:Nat} {rs:List Nat} {u:Th} (h:u∈Ai n rs.length):∃ j,j<n+rs.length/\(Ai n rs.length).getD j (false,0)=u:=by
  obtain ⟨j,hj,e⟩:=List.mem_iff_getElem.mp h;exact ⟨j,by rwa [Aq] at hj,by rw [L2.getD_el hj];exact e⟩
theorem Ub {n:Nat} {rs:List Nat} {i j:Nat} (hi:i<n+rs.length) (hj:j<n+rs.length) (e:(Ai n rs.length).getD i (false,0)=(Ai n rs.length).getD j (false,0)):i=j:=by
  rw [<-Aq] at hi hj;rw [L2.getD_el hi,L2.getD_el hj] at e;exact (List.getElem_inj (DV n rs.length)).mp e
theorem Jm {n:Nat} {rs:List Nat} {k:Nat} (h:k<n+rs.length):(Ay n rs).getD k 0=abM n rs ((Ai n rs.length).getD k (false,0)):=GD (abM n rs) (Ai n rs.length) k 0 (false,0) (by rw [Aq];exact h)
theorem Fl {n:Nat} {rs:List Nat} {k j:Nat} (h:((Ay n rs).getD k 0).testBit j=true):k<n+rs.length/\j<n+rs.length/\(Ai n rs.length).getD j (false,0)∈ovL n rs ((Ai n rs.length).getD k (false,0)):=by
  rcases Nat.lt_or_ge k (n+rs.length) with z | z
  · rw [Jm z] at h;unfold abM at h;rw [CN,Bool.and_eq_true] at h;have hj:=of_decide_eq_true h.1;refine ⟨z,hj,?_⟩;rw [<-F0];exact List.mem_filter.mpr ⟨F6 hj,h.2⟩
  · rw [List.getD_eq_getElem?_getD,List.getElem?_eq_none (by unfold Ay;rw [List.length_map,Aq];exact z)] at h;simp at h
theorem Ly {n:Nat} {rs:List Nat} {k j:Nat} (hk:k<n+rs.length) (hj:j<n+rs.length) (h:(Ai n rs.length).getD j (false,0)∈ovL n rs ((Ai n rs.length).getD k (false,0))):((Ay n rs).getD k 0).testBit j=true:=by
  rw [Jm hk];unfold abM;rw [CN,decide_eq_true hj,S1 h];rfl
theorem Gf {n:Nat} {rs:List Nat} {k j:Nat} (hk:k<n+rs.length) (hj:j<n+rs.length):MM.Rc (Ay n rs) k j↔Rch (ovL n rs) ((Ai n rs.length).getD k (false,0)) ((Ai n rs.length).getD j (false,0)):=by
  constructor
  · intro h
    induction h with
    | here=>exact .here
    | step _ m ih=>
      obtain ⟨h1,h2,h3⟩:=Fl m;exact .step (ih h1) h3
  · intro h;have:∀ u,Rch (ovL n rs) ((Ai n rs.length).getD k (false,0)) u->∃ j,j<n+rs.length/\(Ai n rs.length).getD j (false,0)=u/\MM.Rc (Ay n rs) k j:=λ u h=>by
      induction h with
      | here=>exact ⟨k,hk,rfl, .here⟩
      | @step t x h m ih=>
        obtain ⟨i,hi,e,r⟩:=ih;obtain ⟨j,hj,e'⟩:=Qr (Er m);exact ⟨j,hj,e', .step r (Ly hi hj (by rw [e,e'];exact m))⟩
    obtain ⟨j',hj',e,r⟩:=this _ h
    rwa [Ub hj' hj e] at r
theorem under_bit {n:Nat} {rs:List Nat} {j k:Nat}:((Bs n rs).getD j 0).testBit k=true↔((Ay n rs).getD k 0).testBit j=true:=by
  rcases Nat.lt_or_ge j (n+rs.length) with z | z
  · unfold Bs;rw [List.getD_eq_getElem?_getD,List.getElem?_map,List.getElem?_range z];simp only [Option.map_some,Option.getD_some];rw [MM.ofB_bit,Bool.and_eq_true,decide_eq_true_iff];exact ⟨λ h=>h.2,λ h=>⟨(Fl h).1,h⟩⟩
  · constructor
    · intro h;rw [List.getD_eq_getElem?_getD,List.getElem?_eq_none (by unfold Bs;rw [List.length_map,List.length_range];exact z)] at h;simp at h
    · intro h;exact absurd (Fl h).2.1 (by omega)
theorem Nd {n:Nat} {rs:List Nat} {k j:Nat} (hk:k<n+rs.length) (hj:j<n+rs.length):MM.Rc (Bs n rs) k j↔Rch (ovL n rs) ((Ai n rs.length).getD j (false,0)) ((Ai n rs.length).getD k (false,0)):=by
  rw [<-Gf hj hk];exact ⟨λ h=>h.rev λ i j m=>under_bit.mp m,λ h=>h.rev λ i j m=>under_bit.mpr m⟩
theorem CJ (n:Nat) (rs:List Nat):(Ay n rs).length=n+rs.length:=by unfold Ay;rw [List.length_map,Aq]
theorem Fq (n:Nat) (rs:List Nat):(Bs n rs).length=n+rs.length:=by unfold Bs;rw [List.length_map,List.length_range]
theorem MV {n:Nat} {rs:List Nat}:∀ m∈Ay n rs,m<2 ^ (Ay n rs).length:=λ m hm=>by
  rw [CJ];unfold Ay at hm;obtain ⟨t,_,rfl⟩:=List.mem_map.mp hm;exact Gy _ _ _
theorem NM {n:Nat} {rs:List Nat}:∀ m∈Bs n rs,m<2 ^ (Bs n rs).length:=λ m hm=>by
  rw [Fq];unfold Bs at hm;obtain ⟨t,_,rfl⟩:=List.mem_map.mp hm;exact MM.ofB_lt _ _
abbrev RU (n:Nat) (rs:List Nat) (t:Th):List Th:=ML.R (Ai n rs.length) (Ba n rs) t
abbrev GU (n:Nat) (rs:List Nat) (k:List Th):List Th:=ML.grp (Ai n rs.length) (Ba n rs) k
theorem AR {n:Nat} {rs:List Nat} {S:List Th} {j:Nat} (h:j<n+rs.length):(mkU n rs S).testBit j=true↔(Ai n rs.length).getD j (false,0)∈S:=by
  unfold mkU;rw [CN,decide_eq_true h,Bool.true_and,decide_eq_true_iff]
theorem Dk (n:Nat) (rs:List Nat) (S:List Th):mkU n rs S<2 ^ (n+rs.length):=Gy _ _ _
theorem Eo {n:Nat} {rs:List Nat} {m:Nat} {S:List Th} (h:m<2 ^ (n+rs.length)) (b:∀ i,i<n+rs.length->(m.testBit i=true↔(Ai n rs.length).getD i (false,0)∈S)):m=mkU n rs S:=by
  unfold mkU;refine Gm h λ i hi=> ?_;rw [Bool.eq_iff_iff,decide_eq_true_iff];exact b i hi
theorem Nq {n:Nat} {rs:List Nat} {k r:Nat} (hk:k<n+rs.length) (h:MM.Fnd (Ay n rs) k (Ay n rs).length r []):r=mkU n rs (RU n rs ((Ai n rs.length).getD k (false,0))):=by
  have hl:=h.lt;rw [CJ] at hl;refine Eo hl λ i hi=> ?_;rw [h.iff,Gf hk hi,ML.mem_R,rel_iff];exact ⟨λ z=>⟨F6 hi,z⟩,λ z=>z.2⟩
theorem RK {n:Nat} {rs:List Nat} {k r r':Nat} (hk:k<n+rs.length) (h:MM.Fnd (Ay n rs) k (Ay n rs).length r []) (h':MM.Fnd (Bs n rs) k (Bs n rs).length r' []):r &&& r'=mkU n rs (GU n rs (RU n rs ((Ai n rs.length).getD k (false,0)))):=by
  have hl:=h.lt;rw [CJ] at hl;refine Eo (Nat.lt_of_le_of_lt Nat.and_le_left hl) λ i hi=> ?_;rw [Nat.testBit_and,Bool.and_eq_true,h.iff,h'.iff,Gf hk hi,Nd hk hi,ML.mem_grp,ML.R_eq (BS n rs) (F6 hi) (F6 hk),rel_iff,rel_iff];exact ⟨λ z=>⟨F6 hi,z.2,z.1⟩,λ z=>⟨z.2.2,z.2.1⟩⟩
open Classical in
def Dr (e:ML.En Th):List Th:=e.1.filter λ x=>decide (x∉e.2)
theorem mem_rest {e:ML.En Th} {x:Th}:x∈Dr e↔x∈e.1/\x∉e.2:=by
  unfold Dr;rw [List.mem_filter,decide_eq_true_iff]
theorem OQ {n:Nat} {rs:List Nat} (e:ML.En Th) (s:∀ x∈e.2,x∈e.1):mkU n rs e.1 - mkU n rs e.2=mkU n rs (Dr e):=by
  have ha:mkU n rs e.2=mkU n rs e.1 &&& mkU n rs e.2:=by
    symm;refine Eo (Nat.lt_of_le_of_lt Nat.and_le_left (Dk _ _ _)) λ i hi=> ?_;rw [Nat.testBit_and,Bool.and_eq_true,AR hi,AR hi];exact ⟨λ z=>z.2,λ z=>⟨s _ z,z⟩⟩
  rw [ha,MM.sub_and];refine Eo (Nat.xor_lt_two_pow (Dk _ _ _) (Nat.lt_of_le_of_lt Nat.and_le_left (Dk _ _ _))) λ i hi=> ?_;rw [MM.fresh_bit,Bool.and_eq_true,AR hi,Bool.not_eq_true',mem_rest];have:((mkU n rs e.2).testBit i=false)↔(Ai n rs.length).getD i (false,0)∉e.2:=by
    rw [<-AR hi];cases (mkU n rs e.2).testBit i <;> simp
  rw [this]
theorem SN {n:Nat} {rs:List Nat} {e:ML.En Th} {told:List Th} (s:∀ x∈e.2,x∈Ai n rs.length):decide (mkU n rs e.2 &&& mkU n rs told=0)=ML.nt told e:=by
  unfold ML.nt;rw [decide_eq_decide,MM.zero_iff];constructor
  · intro h x hx q;obtain ⟨j,hj,rfl⟩:=Qr (s x hx);have:=h j;rw [Nat.testBit_and,(AR hj).mpr hx,(AR hj).mpr q] at this;cases this
  · intro h j;rcases Nat.lt_or_ge j (n+rs.length) with z | z
    · rw [Nat.testBit_and];cases c:(mkU n rs e.2).testBit j with
      | false=>rfl
      | true=>
        cases d:(mkU n rs told).testBit j with
        | false=>rfl
        | true=>exact absurd ((AR z).mp d) (h _ ((AR z).mp c))
    · exact Nat.testBit_lt_two_pow (Nat.lt_of_lt_of_le (Nat.lt_of_le_of_lt Nat.and_le_left (Dk n rs e.2)) (Nat.pow_le_pow_right (by decide) z))
theorem Wb {n:Nat} {rs:List Nat} {e:ML.En Th} {told:List Th} (s:∀ x∈e.1,x∈Ai n rs.length):decide (mkU n rs (Dr e) ^^^ (mkU n rs (Dr e) &&& mkU n rs told)=0)=ML.nx told e:=by
  unfold ML.nx;rw [decide_eq_decide,MM.zero_iff];constructor
  · intro h x hx;by_cases c:x∈e.2
    · exact .inr c
    · obtain ⟨j,hj,rfl⟩:=Qr (s x hx);have:=h j;rw [MM.fresh_bit,(AR hj).mpr (mem_rest.mpr ⟨hx,c⟩),Bool.true_and] at this;exact .inl ((AR hj).mp (by simpa using this))
  · intro h j;rw [MM.fresh_bit];rcases Nat.lt_or_ge j (n+rs.length) with z | z
    · cases c:(mkU n rs (Dr e)).testBit j with
      | false=>rfl
      | true=>
        have m:=mem_rest.mp ((AR z).mp c);have:=(h _ m.1).resolve_right m.2;rw [(AR z).mpr this];rfl
    · rw [Nat.testBit_lt_two_pow (Nat.lt_of_lt_of_le (Dk n rs _) (Nat.pow_le_pow_right (by decide) z))];rfl
theorem RA (n:Nat) (rs:List Nat) (A B:List Th):mkU n rs A ||| mkU n rs B=mkU n rs (A++B):=by
  refine Eo (Nat.or_lt_two_pow (Dk _ _ _) (Dk _ _ _)) λ i hi=> ?_;rw [Nat.testBit_or,Bool.or_eq_true,AR hi,AR hi,List.mem_append]
open MG
def prT (n:Nat) (rs:List Nat) (k:Nat):List (ML.En Th):=(ML.firsts (((Ai n rs.length).take k).map (RU n rs))).map λ x=>(x,GU n rs x)
open Classical in
def DO (n:Nat) (rs:List Nat) (k:Nat):Nat:=GY n rs λ u=>decide (RU n rs u∈((Ai n rs.length).take k).map (RU n rs))
structure PtL (H:Hp) (n:Nat) (rs:List Nat) (vs:List V) (es:List (ML.En Th)):Prop where
  len:vs.length=es.length
  at_:∀ i,i<es.length->∃ b,vs.getD i .non= .ref b/\H b=some (.tup [nV (mkU n rs (es.getD i ([],[])).2),nV (mkU n rs (Dr (es.getD i ([],[]))))])
theorem PtL.same {H H':Hp} {n:Nat} {rs:List Nat} {vs:List V} {es:List (ML.En Th)} (h:PtL H n rs vs es) (s:Same H H'):PtL H' n rs vs es:=⟨h.len,λ i hi=>let ⟨b,e1,e2⟩:=h.at_ i hi;⟨b,e1,s _ _ e2⟩⟩
theorem PtL.wr {H:Hp} {n:Nat} {rs:List Nat} {vs:List V} {es:List (ML.En Th)} {l:Addr} {xs:List V} {o:HO} (h:PtL H n rs vs es) (hl:H l=some (.lst xs)):PtL (upd H l o) n rs vs es:=⟨h.len,λ i hi=>by
  obtain ⟨b,e1,e2⟩:=h.at_ i hi;exact ⟨b,e1,by rw [Am (A8 e2 hl (by intro z;cases z))];exact e2⟩⟩
theorem PtL.snoc {H:Hp} {n:Nat} {rs:List Nat} {vs:List V} {es:List (ML.En Th)} {b:Addr} {e:ML.En Th} (h:PtL H n rs vs es) (hb:H b=some (.tup [nV (mkU n rs e.2),nV (mkU n rs (Dr e))])):PtL H n rs (vs++[.ref b]) (es++[e]):=⟨by rw [List.length_append,List.length_append,h.len];rfl,λ i hi=>by
  rcases Nat.lt_or_ge i es.length with z | z
  · obtain ⟨b',e1,e2⟩:=h.at_ i z;refine ⟨b',?_,?_⟩
    · rw [List.getD_eq_getElem?_getD,List.getElem?_append_left (by rw [h.len];exact z), <-List.getD_eq_getElem?_getD];exact e1
    · rw [List.getD_eq_getElem?_getD,List.getElem?_append_left z, <-List.getD_eq_getElem?_getD];exact e2
  · have:i=es.length:=by rw [List.length_append,List.length_singleton] at hi;omega
    subst this;refine ⟨b,?_,?_⟩
    · rw [<-h.len,List.getD_eq_getElem?_getD,List.getElem?_concat_length];rfl
    · rw [List.getD_eq_getElem?_getD,List.getElem?_concat_length];exact hb⟩
theorem Im {n:Nat} {rs:List Nat} {k:Nat} (hk:k<n+rs.length):((Ai n rs.length).take (k+1)).map (RU n rs)=((Ai n rs.length).take k).map (RU n rs)++[RU n rs ((Ai n rs.length).getD k (false,0))]:=by
  rw [Cp (by rw [Aq];exact hk),List.map_append];rfl
theorem MA {n:Nat} {rs:List Nat} {k:Nat} (hk:k<n+rs.length):(DO n rs k).testBit k=true↔RU n rs ((Ai n rs.length).getD k (false,0))∈((Ai n rs.length).take k).map (RU n rs):=by
  unfold DO;rw [CN,decide_eq_true hk,Bool.true_and,decide_eq_true_iff]
theorem OJ {n:Nat} {rs:List Nat} {k:Nat} (hk:k<n+rs.length) (h:(DO n rs k).testBit k=true):DO n rs (k+1)=DO n rs k/\prT n rs (k+1)=prT n rs k:=by
  have hm:=(MA hk).mp h;constructor
  · unfold DO;congr 1;funext u;rw [Im hk,decide_eq_decide,List.mem_append,List.mem_singleton];exact ⟨λ z=>z.elim id λ z=>z▸hm, .inl⟩
  · unfold prT;rw [Im hk,ML.firsts_snoc,if_pos ((ML.firsts_mem _ _).mpr hm)]
theorem Q2 {n:Nat} {rs:List Nat} {k:Nat} (hk:k<n+rs.length) (h:(DO n rs k).testBit k=false):DO n rs k ||| mkU n rs (GU n rs (RU n rs ((Ai n rs.length).getD k (false,0))))=DO n rs (k+1)/\prT n rs (k+1)=prT n rs k++[(RU n rs ((Ai n rs.length).getD k (false,0)),GU n rs (RU n rs ((Ai n rs.length).getD k (false,0))))]:=by
  have hm:RU n rs ((Ai n rs.length).getD k (false,0))∉((Ai n rs.length).take k).map (RU n rs):=λ z=>by
    rw [(MA hk).mpr z] at h;cases h
  constructor
  · unfold DO;refine Gm (Nat.or_lt_two_pow (Gy _ _ _) (Dk _ _ _)) λ i hi=> ?_;rw [Nat.testBit_or,CN,decide_eq_true hi,Bool.true_and,Bool.eq_iff_iff,Bool.or_eq_true,decide_eq_true_iff,decide_eq_true_iff,AR hi,Im hk,List.mem_append,List.mem_singleton,ML.mem_grp];exact ⟨λ z=>z.elim .inl λ z=> .inr z.2,λ z=>z.elim .inl λ z=> .inr ⟨F6 hi,z⟩⟩
  · unfold prT;rw [Im hk,ML.firsts_snoc,if_neg (λ z=>hm ((ML.firsts_mem _ _).mp z)),List.map_append];rfl
theorem FS (n:Nat) (rs:List Nat):prT n rs (n+rs.length)=ML.parts (Ai n rs.length) (Ba n rs):=by
  unfold prT ML.parts;rw [<-Aq,List.take_length]
theorem FQ (n:Nat) (rs:List Nat) (k:Nat):(prT n rs k).length<=n+rs.length:=by
  unfold prT;rw [List.length_map];have:=(ML.firsts_nd (((Ai n rs.length).take k).map (RU n rs))).length_le_of_subset (λ x hx=>(ML.firsts_mem _ _).mp hx);rw [List.length_map,List.length_take,Aq] at this;omega
theorem Q7 (n:Nat) (rs:List Nat) (e:ML.En Th) (s:∀ x∈e.2,x∈e.1):mkU n rs e.2<=mkU n rs e.1:=by
  have ha:mkU n rs e.1 &&& mkU n rs e.2=mkU n rs e.2:=by
    refine Eo (Nat.lt_of_le_of_lt Nat.and_le_left (Dk _ _ _)) λ i hi=> ?_;rw [Nat.testBit_and,Bool.and_eq_true,AR hi,AR hi];exact ⟨λ z=>z.2,λ z=>⟨s _ z,z⟩⟩
  rw [<-ha];exact Nat.and_le_left
theorem Oy (n:Nat) (rs:List Nat):mkU n rs []=0:=by
  symm;refine Eo (Nat.two_pow_pos _) λ i hi=> ?_;simp
def gD (n:Nat) (rs:List Nat) (e:ML.En Th):Dt:= .tup [dN (mkU n rs e.2),dN (mkU n rs (Dr e))]
theorem Nm {H:Hp} {F:Addr->Prop} {c:Nat} {D:Addr} {n:Nat} {rs:List Nat} {e:ML.En Th} {es:List (ML.En Th)} (r:Rp H F c (.ref D) (.lst ((e::es).map (gD n rs)))):∃ ys b,H D=some (.lst ys)/\ys[0]?=some (.ref b)/\H b=some (.tup [nV (mkU n rs e.2),nV (mkU n rs (Dr e))]):=by
  obtain ⟨m,a,vs,rfl,ea,h,f,l,bd,el⟩:=GS r;cases ea;have z:Rp H F m (vs.getD 0 .non) (gD n rs e):=el 0 (by simp);obtain ⟨m',p,ws,_,ep,hp,lp,bp,e2⟩:=J2 z;rw [List.length_map,List.length_cons] at l
  match ws,lp,hp,e2 with
  | [x,y],_,hp,e2=>
    have e0:Rp H F m' x (dN _):=e2 0 (by show 0<2;decide);have e1:Rp H F m' y (dN _):=e2 1 (by show 1<2;decide);cases e0;cases e1;refine ⟨vs,p,h,?_,hp⟩;rw [List.getElem?_eq_getElem (by omega)];rw [L2.getD_el (by omega)] at ep;exact congrArg some ep
theorem Uw (m:Nat):decide (((m:Nat):Int)=0)=decide (m=0):=by rw [decide_eq_decide];omega
theorem Rh {n:Nat} {rs:List Nat} {k:List Th}:((List.range (n+rs.length)).filter (mkU n rs (GU n rs k)).testBit).map (λ i=>dTh ((Ai n rs.length).getD i (false,0)))=(GU n rs k).map dTh:=by
  have e1:(List.range (n+rs.length)).filter (mkU n rs (GU n rs k)).testBit=(List.range (n+rs.length)).filter λ i=>decide (RU n rs ((Ai n rs.length).getD i (false,0))=k):=List.filter_congr λ i hi=>by
    have hi:=List.mem_range.mp hi;rw [Bool.eq_iff_iff,AR hi,ML.mem_grp,decide_eq_true_iff];exact ⟨λ z=>z.2,λ z=>⟨F6 hi,z⟩⟩
  rw [e1];have:=DA (λ u=>decide (RU n rs u=k)) dTh (Ai n rs.length) (false,0);rw [Aq] at this;exact this
def dLs (l:List Th):Dt:= .lst (l.map dTh)
def DP:Sp:=λ vs H Q _=>∃ (n:Nat) (a:Addr) (rs:List Nat) (Ls:List (List Th)),vs=[nV n, .ref a]/\H a=some (.lst (rs.map nV))/\ClOk n rs/\n+rs.length<64/\ML.Due (Ai n rs.length) (Ba n rs) Ls/\∀ H' q,Same H H'->H q=none->Rp H' (FN H) 3 (.ref q) (.lst (Ls.map dLs))->Q (.ref q) H'
abbrev EE:Stmt:=top 53
theorem sc__law_due:FnScope ["_law_ends","_law_rows","_law_some","_law_above","_law_under","_law_parts","_law_had","_law_k","_law_upper","_law_own","_law_found","_law_told","_law_turn","_law_ready"] ["_law_ends","_law_rows"] (Ak EE):=⟨rfl,rfl,rfl,by decide +kernel,rfl,by decide +kernel,by decide +kernel⟩
theorem Js {f:Addr} {fd:FuncData} (F:Fun K "_law_due" "_law_due" EE f fd) (T:Txt K mg c) (c__law_masks:Ar P w K mg base "_law_masks" 3 ["_law_ends","_law_rows"] Ed) (c__law_all_from:Ar P w K mg base "_law_all_from" 1 ["_law_masks_here","_law_k"] CL):FnOk P w K mg base CX0 4 f fd ["_law_ends","_law_rows"] DP:=by
  refine F.ok sc__law_due (λ vs H Q E h=> ?_) (λ cdv A outer s H vs Q E hr h=> ?_)
  · obtain ⟨n,a,rs,Ls,rfl,_⟩:=h;rfl
  · obtain ⟨n,a,rs,Ls,rfl,ha,ok,h64,du,k⟩:=h;have m2:=ok.n2;have q2:=ok.p2;have lT:=Aq n rs.length;refine ⟨_,(Ad (Gg (Ah c__law_masks hr (Aa (pv 0) (Aa (pv 1) Ab))) (Gz (K:=K) rfl (A3 (As (i:=2) sc__law_due.nd rfl (Or.inr rfl)) (A3 (As (i:=3) sc__law_due.nd rfl (Or.inl rfl)) (A3 (As (i:=4) sc__law_due.nd rfl (Or.inl rfl)) DU)))))
      (Ad (Ao (i:=5) sc__law_due.nd rfl (Or.inl rfl) (AT Ab))
      (Ad (Ao (i:=6) sc__law_due.nd rfl (Or.inl rfl) Ac)
      (Ad (A0 PassesOwn.never rfl (AL rfl (T.own _ (by decide)) (Aa (Al (A6 (K:=K)) rfl (T.own _ (by decide)) boot_len (Aa (pv 2) Ab)) Ab)) (As (i:=7) sc__law_due.nd rfl (Or.inl rfl)) (Ag (Bh (AE Bg (Af BN (Af DK (pv 6) (pv 7)) Ac) Ac (At _)) (Ad (Ao (i:=8) sc__law_due.nd rfl (Or.inl rfl) (Ah c__law_all_from (hr.mono (by decide)) (Aa (pv 3) (Aa (pv 7) Ab))))
      (Ad (Ao (i:=9) sc__law_due.nd rfl (Or.inl rfl) (Af BN (pv 8) (Ah c__law_all_from (hr.mono (by decide)) (Aa (pv 4) (Aa (pv 7) Ab)))))
      (Ad (BC (ET (K:=K) PySem.F.plainAttrs_list PySem.F.slot_list_append PySem.F.type_list_append Bb (pv 5) (Aa (A5 (Aa (pv 9) (Aa (Af BD (pv 8) (pv 9)) Ab))) Ab)))
      (Ag (Ao (i:=6) sc__law_due.nd rfl (Or.inl rfl) (Af Jk (pv 6) (pv 9))))))) AF)))
      (Ad (Ao (i:=10) sc__law_due.nd rfl (Or.inl rfl) (AT Ab))
      (Ad (Ao (i:=11) sc__law_due.nd rfl (Or.inr rfl) Ac)
      (Ad (A0 PassesOwn.never rfl (AL rfl (T.own _ (by decide)) (Aa (Al (A6 (K:=K)) rfl (T.own _ (by decide)) boot_len (Aa (pv 5) Ab)) Ab)) (As (i:=12) sc__law_due.nd rfl (Or.inl rfl)) (Ad (Ao (i:=13) sc__law_due.nd rfl (Or.inr rfl) (A9 (B0 (K:=K) (pv 5)) (λ _ _ _ _=>(Di (PW.pt (MS (AE Bg (Af BN (Av (Bl (K:=K)) (pv 0) Ac (λ _ _=>rfl)) (pv 1)) Ac (At _)) (Ld (AE Bg (Af BN (Av (Bl (K:=K)) (pv 0) Ac (λ _ _=>rfl)) (KN N9 (pv 1))) Ac (At _))))))) (λ _ _ _ _=>(pv 0))))
      (Ad (Ao (i:=11) sc__law_due.nd rfl (Or.inr rfl) (Af Jk (pv 11) (Av (Bl (K:=K)) (Av (Bc (K:=K)) (pv 13) Ac (λ _ _=>rfl)) Ac (λ _ _=>rfl))))
      (Ag (BC (ET (K:=K) PySem.F.plainAttrs_list PySem.F.slot_list_append PySem.F.type_list_append Bb (pv 10) (Aa (A9 (AL rfl (T.own _ (by decide)) (Aa (Al (A6 (K:=K)) rfl (T.own _ (by decide)) boot_len (Aa (pv 2) Ab)) Ab)) (λ _ _ _ _=>(Di (AE Bg (Af BN (Af DK (Av (Bl (K:=K)) (Av (Bc (K:=K)) (pv 1) Ac (λ _ _=>rfl)) Ac (λ _ _=>rfl)) (pv 0)) Ac) Ac (At _)))) (λ _ _ _ _=>(Av (Bc (K:=K)) (pv 2) (pv 0) (λ _ _=>rfl)))) Ab)))))))
      (Ag (Ap (pv 10)))))))))),?_⟩
    walk_at "w";refine ⟨n,a,rs,rfl,ha,ok,h64,λ H1 t m b u refs s1 ht hm tl hb hu=> ?_⟩;have lr:=tl.len;have eN:refs.length=n+rs.length:=by rw [lr,lT]
    walk_at "w";refine FX (SqT.of ht) rfl ?_;walk_at "w";row_lines H1 x2;walk_at "w";refine AD (SqL.of (s2 _ _ hm)) ?_;rw [eN];walk_at "w";refine ⟨_,rfl,by omega,by omega,?_⟩;rw [Int.toNat_natCast];have h00:DO n rs 0=0:=by
      unfold DO;symm;refine Gm (Nat.two_pow_pos _) λ i hi=> ?_;simp
    refine AM (H0:=H1) (BM (n:=n+rs.length)) (λ i σ H3=>∃ x7 x8 x9 vs,σ=[some (nV n),some (.ref a),some (.ref m),some (.ref b),some (.ref u),some (.ref p2),some (nV (DO n rs i)),x7,x8,x9,none,none,none,none]/\Same H1 H3/\H3 p2=some (.lst vs)/\PtL H3 n rs vs (prT n rs i)) ⟨_,_,_,[],by rw [h00];rfl,s2,g2,⟨rfl,λ i hi=>by cases hi⟩⟩ (λ i σ H3 ⟨_,_,_,_,_,s,_⟩=>s) ?_ ?_
    · rintro i σ G H3 hi ⟨x7,x8,x9,vs,rfl,s',hp',pt⟩ s3;have sG:=s'.trans s3;replace hp':=s3 _ _ hp';replace pt:=pt.same s3;walk_at "w";refine An (by show (0:Int)<=_;omega) ?_;rw [Cm];walk_at "w";have eb:Builtin.bitAnd ((DO n rs i >>> i:Nat):Int) 1=(((DO n rs i >>> i) &&& 1:Nat):Int):=by rw [show (1:Int)=((1:Nat):Int) from rfl,bA]
      rw [eb,U7];cases hc:(DO n rs i).testBit i with
      | true=>
        obtain ⟨e1,e2⟩:=OJ hi hc;walk_at "w";refine ⟨_,_,_,vs,by rw [e1];rfl,sG,hp',by rw [e2];exact pt⟩
      | false=>
        obtain ⟨e1,e2⟩:=Q2 hi hc;walk_at "w";refine ⟨b,Ay n rs,i,rfl,sG _ _ hb,by rw [CJ];exact hi,by rw [CJ];exact h64,MV,λ H4 r s4 fn=> ?_⟩;walk_at "w";refine ⟨u,Bs n rs,i,rfl,(sG.trans s4) _ _ hu,by rw [Fq];exact hi,by rw [Fq];exact h64,NM,λ H5 r' s5 fn'=> ?_⟩;walk_at "w";rw [bA,RK hi fn fn'];rw [Nq hi fn];have s35:=s4.trans s5;have sG5:=sG.trans s35;have hp5:=s35 _ _ hp';have pt5:=pt.same s35;have gs:∀ x∈GU n rs (RU n rs ((Ai n rs.length).getD i (false,0))),x∈RU n rs ((Ai n rs.length).getD i (false,0)):=λ x hx=>by
          have:=ML.mem_grp.mp hx;rw [<-this.2];exact ML.mem_R.mpr ⟨this.1,(BS n rs).rf x this.1⟩
        have le:=Q7 n rs (RU n rs ((Ai n rs.length).getD i (false,0)),GU n rs (RU n rs ((Ai n rs.length).getD i (false,0)))) gs;have re:=OQ (n:=n) (rs:=rs) (RU n rs ((Ai n rs.length).getD i (false,0)),GU n rs (RU n rs ((Ai n rs.length).getD i (false,0)))) gs;have ei:((mkU n rs (RU n rs ((Ai n rs.length).getD i (false,0))):Nat):Int) - ((mkU n rs (GU n rs (RU n rs ((Ai n rs.length).getD i (false,0)))):Nat):Int)=((mkU n rs (Dr (RU n rs ((Ai n rs.length).getD i (false,0)),GU n rs (RU n rs ((Ai n rs.length).getD i (false,0))))):Nat):Int):=by
          rw [<-re];have le:mkU n rs (GU n rs (RU n rs ((Ai n rs.length).getD i (false,0))))<=mkU n rs (RU n rs ((Ai n rs.length).getD i (false,0))):=le;show _=((mkU n rs (RU n rs ((Ai n rs.length).getD i (false,0))) - mkU n rs (GU n rs (RU n rs ((Ai n rs.length).getD i (false,0)))):Nat):Int);omega
        walk_at "w";refine tyL (SqL.of hp5) ?_;walk_at "w";rw [ei];row_lines H5 x6;walk_at "w";have pl:=FQ n rs i;have lv:=pt.len;refine DM (s6 _ _ hp5) (by omega) ?_;walk_at "w";rw [bO,e1];refine ⟨_,_,_,_,rfl,AQ (sG5.trans s6) n2,Ae,?_⟩;rw [e2];refine ((pt5.same s6).wr (s6 _ _ hp5)).snoc ?_;rw [Am (A8 g6 (s6 _ _ hp5) (by intro z;cases z)),g6]
    · rintro σ H3 ⟨x7,x8,x9,vs,rfl,s3,hp3,pt⟩;rw [FS] at pt;have lP:(ML.parts (Ai n rs.length) (Ba n rs)).length<=n+rs.length:=by
        rw [<-FS];exact FQ n rs _
      walk_at "w";row_lines H3 x4;walk_at "w";refine AD (SqL.of (s4 _ _ hp3)) ?_;rw [pt.len];walk_at "w";refine ⟨_,rfl,by omega,by omega,?_⟩;rw [Int.toNat_natCast];have lPL:=du.len;refine AM (H0:=H3) (BM (n:=(ML.parts (Ai n rs.length) (Ba n rs)).length)) (λ i σ H5=>∃ y7 y12 y13 ws,σ=[some (nV n),some (.ref a),some (.ref m),some (.ref b),some (.ref u),some (.ref p2),some (nV (DO n rs (n+rs.length))),y7,x8,x9,some (.ref p4),some (nV (mkU n rs (Ls.take i).flatten)),y12,y13]/\Same H3 H5/\H5 p4=some (.lst ws)/\ws.length=i/\∀ j,j<i->Rp H5 (λ a=>H a=none/\a≠p4) 2 (ws.getD j .non) (dLs (Ls.getD j []))) ⟨_,_,_,[],by rw [List.take_zero,List.flatten_nil,Oy];rfl,s4,g4,rfl,λ j hj=>absurd hj (Nat.not_lt_zero _)⟩ (λ i σ H3 ⟨_,_,_,_,_,s,_⟩=>s) ?_ ?_
      · rintro i σ G H5 hi ⟨y7,y12,y13,ws,rfl,s',h4',lw,rw'⟩ s5;have sG:=s'.trans s5;replace h4':=s5 _ _ h4';have rw5:∀ j,j<i->Rp H5 (λ a=>H a=none/\a≠p4) 2 (ws.getD j .non) (dLs (Ls.getD j [])):=λ j hj=>(rw' j hj).same s5;have hiL:i<Ls.length:=by omega
        obtain ⟨e,hf,hl⟩:=du.at_ i Ls[i] (List.getElem?_eq_getElem hiL);have hep:=List.mem_of_find?_eq_some hf;obtain ⟨e2,tt,htt,e1⟩:=ML.parts_of hep;generalize hto:(Ls.take i).flatten=told at hf ⊢;have sub1:∀ f∈ML.parts (Ai n rs.length) (Ba n rs),(∀ x∈f.1,x∈Ai n rs.length)/\∀ x∈f.2,x∈Ai n rs.length:=λ f hf=>by
          obtain ⟨f2,tf,_,f1⟩:=ML.parts_of hf;rw [f2,f1];exact ⟨λ x hx=>(ML.mem_R.mp hx).1,λ x hx=>(ML.mem_grp.mp hx).1⟩
        have pt5:=pt.same sG;walk_at "w";refine ⟨p2,rfl,⟨_,SqL.of (sG _ _ hp3)⟩,λ D hD=> ?_⟩;have lv:=pt.len;refine B9 (m:=1) (p:=λ j=>ML.rdy told ((ML.parts (Ai n rs.length) (Ba n rs)).getD j ([],[]))) (G:=λ j=>gD n rs ((ML.parts (Ai n rs.length) (Ba n rs)).getD j ([],[]))) (BW (SqL.of (sG _ _ hp3)) rfl) hD (by omega) ?_ ?_ ?_
        · intro j H6 R hj s6 kk;have hj':j<(ML.parts (Ai n rs.length) (Ba n rs)).length:=by omega
          obtain ⟨bj,ebj,hbj⟩:=pt5.at_ j hj';have sb:=sub1 _ (L2.getD_mem (y:=(([],[]):ML.En Th)) hj');rw [ebj];generalize (ML.parts (Ai n rs.length) (Ba n rs)).getD j ([],[])=f at hbj sb kk ⊢;have kk':=kk H6 (Same.refl _);unfold ML.rdy at kk';walk_at "w";refine AS (v:=nV (mkU n rs f.2)) (SqT.of (s6 _ _ hbj)) (Ax (j:=0) rfl) ?_;walk_at "w";rw [bA,Uw,SN sb.2];cases c:ML.nt told f with
          | false=>
            rw [c] at kk';walk_at "w";exact kk'
          | true=>
            rw [c,Bool.true_and] at kk';walk_at "w";refine AS (v:=nV (mkU n rs (Dr f))) (SqT.of (s6 _ _ hbj)) (Ax (j:=1) rfl) ?_;walk_at "w";rw [KL,Uw,Wb sb.1];exact kk'
        · intro j H6 R hj hp s6 kk;have hj':j<(ML.parts (Ai n rs.length) (Ba n rs)).length:=by omega
          obtain ⟨bj,ebj,hbj⟩:=pt5.at_ j hj';rw [ebj];walk_at "w";exact kk H6 _ (Same.refl _) (CY (s6 _ _ hbj) (.int _) (.int _))
        intro H6 ys s6 hl6 r6;have er:((List.range vs.length).filter λ j=>ML.rdy told ((ML.parts (Ai n rs.length) (Ba n rs)).getD j ([],[]))).map (λ j=>gD n rs ((ML.parts (Ai n rs.length) (Ba n rs)).getD j ([],[])))=((ML.parts (Ai n rs.length) (Ba n rs)).filter (ML.rdy told)).map (gD n rs):=by
          rw [lv];exact DA (ML.rdy told) (gD n rs) (ML.parts (Ai n rs.length) (Ba n rs)) ([],[])
        rw [er] at r6;obtain ⟨tl6,etl⟩:∃ tl6,(ML.parts (Ai n rs.length) (Ba n rs)).filter (ML.rdy told)=e::tl6:=by
          have:=List.head?_filter (p:=ML.rdy told) (l:=ML.parts (Ai n rs.length) (Ba n rs));rw [hf] at this;cases hh:(ML.parts (Ai n rs.length) (Ba n rs)).filter (ML.rdy told) with
          | nil=>rw [hh] at this;cases this
          | cons z zs=>rw [hh] at this;cases this;exact ⟨zs,rfl⟩
        rw [etl] at r6;obtain ⟨ys',b0,hD6,hy0,hb0⟩:=Nm r6;walk_at "w";refine AN (SqL.of hD6) (Ax (j:=0) hy0) ?_;walk_at "w";refine AS (v:=nV (mkU n rs e.2)) (SqT.of hb0) (Ax (j:=0) rfl) ?_;walk_at "w";rw [bO,RA];have s36:=sG.trans s6;refine tyL (SqL.of (s6 _ _ h4')) ?_;walk_at "w";have gm6:=(s3.trans s36) _ _ hm;have t6:=tl.same (s3.trans s36);refine AD (SqL.of gm6) ?_;rw [eN];walk_at "w";refine ⟨_,rfl,by omega,by omega,λ D7 hD7=> ?_⟩;rw [Int.toNat_natCast];refine B9 (m:=1) (p:=(mkU n rs e.2).testBit) (G:=λ j=>dTh ((Ai n rs.length).getD j (false,0))) (Bt rfl) hD7 (by omega) ?_ ?_ ?_
        · intro j H7 R hj s7 kk;walk_at "w";refine AN (SqL.of (s7 _ _ hD6)) (Ax (j:=0) hy0) ?_;walk_at "w";refine AS (v:=nV (mkU n rs e.2)) (SqT.of (s7 _ _ hb0)) (Ax (j:=0) rfl) ?_;walk_at "w";refine An (by show (0:Int)<=_;omega) ?_;rw [Cm];walk_at "w";have eb:Builtin.bitAnd ((mkU n rs e.2 >>> j:Nat):Int) 1=(((mkU n rs e.2 >>> j) &&& 1:Nat):Int):=by rw [show (1:Int)=((1:Nat):Int) from rfl,bA]
          rw [eb,OR];exact kk H7 (Same.refl _)
        · intro j H7 R hj hp s7 kk;obtain ⟨bj,ebj,hbj⟩:=t6.at_ j (by omega);walk_at "w";refine AN (SqL.of (s7 _ _ gm6)) (NU (by omega)) ?_;rw [ebj];exact kk H7 _ (Same.refl _) (Hx ⟨bj,rfl,s7 _ _ hbj⟩)
        intro H7 zs s7 hl7 r7;have ez:((List.range (n+rs.length)).filter (mkU n rs e.2).testBit).map (λ j=>dTh ((Ai n rs.length).getD j (false,0)))=e.2.map dTh:=by
          rw [e2];exact Rh
        rw [ez] at r7;walk_at "w";have h47:=s7 _ _ (s6 _ _ h4');refine DM h47 (by omega) ?_;walk_at "w";have s67:=s6.trans s7;have s37:=sG.trans s67;have n4':H p4=none:=s1.free (s3.free n4);have eT:(Ls.take (i+1)).flatten=told++e.2:=by
          rw [List.take_add_one,List.getElem?_eq_getElem hiL,List.flatten_append,hto,hl];simp
        rw [eT];have keep:∀ (F:Addr->Prop) (v:V) (dd:Dt),(∀ a,F a->H a=none/\a≠p4)->Rp H7 F 2 v dd->Rp (upd H7 p4 (HO.lst (ws++[V.ref D7]))) (λ a=>H a=none/\a≠p4) 2 v dd:=λ F v dd hF r=>r.mono (λ a o ho hl=>by
          by_cases c:a=p4
          · subst c;rw [h47] at ho;cases ho;exact absurd rfl (hF _ (hl _ rfl)).2
          · rw [Am c];exact ho) hF
        refine ⟨_,_,_,ws++[V.ref D7],rfl,AQ s37 n4,Ae,by rw [List.length_append,lw];rfl,λ j hj=> ?_⟩;rcases Nat.lt_or_ge j i with z | z
        · rw [List.getD_eq_getElem?_getD,List.getElem?_append_left (by omega), <-List.getD_eq_getElem?_getD];exact keep _ _ _ (λ a h=>h) ((rw5 j z).same s67)
        · have ej:j=i:=by omega
          subst ej;have g1:(ws++[V.ref D7]).getD j .non= .ref D7:=by rw [<-lw,List.getD_eq_getElem?_getD,List.getElem?_concat_length];rfl
          have g2:Ls.getD j []=e.2:=by rw [List.getD_eq_getElem?_getD,List.getElem?_eq_getElem hiL];exact hl
          rw [g1,g2];refine keep (FN H6) _ _ (λ a h=>⟨s1.free (s3.free (s36.free h)),λ c=> ?_⟩) r7;have h:H6 a=none:=h;rw [c,s6 _ _ h4'] at h;cases h
      · rintro σ H5 ⟨y7,y12,y13,ws,rfl,s5,h5,lw,rw5⟩;walk_at "w";have n4':H p4=none:=s1.free (s3.free n4);refine k H5 p4 (s1.trans (s3.trans s5)) n4' (.lst h5 n4' (by omega) (by rw [List.length_map,lw,lPL]) λ j v dd hv hd=> ?_);have hj:j<ws.length:=(List.getElem?_eq_some_iff.mp hv).1;have hjL:j<Ls.length:=by omega
        have:=rw5 j (by omega);rw [List.getD_eq_getElem?_getD,hv] at this;rw [List.getElem?_map,List.getElem?_eq_getElem hjL] at hd;have ed:dd=dLs (Ls.getD j []):=by
          rw [List.getD_eq_getElem?_getD,List.getElem?_eq_getElem hjL];exact (Option.some.inj hd).symm
        rw [ed];exact this.mono (λ _ _ q _=>q) λ a h=>h.1
open MG
def Cb:Sp:=λ vs H Q _=>∃ (n:Nat) (a q:Addr) (rs:List Nat) (qr:List V) (Ls:List (List Th)) (Fr:Addr->Prop),vs=[nV n, .ref a, .ref q]/\H a=some (.lst (rs.map nV))/\ClOk n rs/\n+rs.length<64/\H q=some (.lst qr)/\LsL Fr H qr Ls/\ML.St (Ai n rs.length) (Ba n rs) Ls [] Ls.flatten/\∀ H',Same H H'->Q (.bl true) H'
abbrev Bz:Stmt:=top 54
theorem sc__law_lies_above:FnScope ["_law_ends","_law_rows","_law_found","_law_levels_of","_law_k","_law_threads_here","_law_thread","_law_end","_law_pick","_law_level","_law_other","_law_is_up"] ["_law_ends","_law_rows","_law_found"] (Ak Bz):=⟨rfl,rfl,rfl,by decide +kernel,rfl,by decide +kernel,by decide +kernel⟩
theorem EF {f:Addr} {fd:FuncData} (F:Fun K "_law_lies_above" "_law_lies_above" Bz f fd) (T:Txt K mg c):FnOk P w K mg base CX0 1 f fd ["_law_ends","_law_rows","_law_found"] Cb:=by
  refine F.ok sc__law_lies_above (λ vs H Q E h=> ?_) (λ cdv A outer s H vs Q E hr h=> ?_)
  · obtain ⟨n,a,q,rs,qr,Ls,Fr,rfl,_⟩:=h;rfl
  · obtain ⟨n,a,q,rs,qr,Ls,Fr,rfl,ha,ok,h64,hq,lsl,st,k⟩:=h;have hu1:=hr.units1;have m2:=ok.n2;have q2:=ok.p2;have ndf:=st.ndf;have pmU:=st.perm (BS n rs) (DV _ _);have flen:Ls.flatten.length=n+rs.length:=by rw [pmU.length_eq,Aq]
    have lvo:=Ru st;refine ⟨_,(Ad (Ao (i:=3) sc__law_lies_above.nd rfl (Or.inl rfl) E4)
      (Ad (A0 PassesOwn.never rfl (FY (K:=K) rfl (T.own _ (by decide)) (Aa (pv 2) Ab)) (Gz (K:=K) rfl (A3 (As (i:=4) sc__law_lies_above.nd rfl (Or.inl rfl)) (A3 (As (i:=5) sc__law_lies_above.nd rfl (Or.inl rfl)) DU))) (Ag (A0 PassesOwn.never rfl (B0 (K:=K) (pv 5)) (As (i:=6) sc__law_lies_above.nd rfl (Or.inl rfl)) (Ag (EW hu1 (pv 3) (pv 6) (pv 4) rfl)))))
      (Ad (A0 PassesOwn.never rfl (Fc rfl (T.own _ (by decide)) (Aa Ac (Aa (Af AA (pv 0) Ac) Ab))) (As (i:=7) sc__law_lies_above.nd rfl (Or.inl rfl)) (Ag (A0 PassesOwn.never rfl (Fc rfl (T.own _ (by decide)) (Aa Ac (Aa (Af AA (Al (A6 (K:=K)) rfl (T.own _ (by decide)) boot_len (Aa (pv 1) Ab)) Ac) Ab))) (As (i:=8) sc__law_lies_above.nd rfl (Or.inl rfl)) (Ad (RM (i:=9) (j:=10) rfl sc__law_lies_above.nd rfl rfl (by decide) rfl rfl (Aa (EY hu1 (pv 3) (A5 (Aa Fm (Aa (pv 7) Ab))) (λ _ _=>rfl)) (Aa (EY hu1 (pv 3) (A5 (Aa Fm (Aa (pv 8) Ab))) (λ _ _=>rfl)) Ab)) rfl)
      (Ad (Ao (i:=11) sc__law_lies_above.nd rfl (Or.inl rfl) (Bj Bg (Af BN (Af DK (Av (Bc (K:=K)) (pv 1) (Af BD (pv 8) Ac) (λ _ _=>rfl)) (Af BD (pv 7) Ac)) Ac) Ac (At _)))
      (Ag (Bh (PW.pt (MS (AE Jw (pv 9) (pv 10) (At _)) (Ld (AE Jw (pv 11) (Bj PL (pv 9) (pv 10) (At _)) (At _))))) (Ag (Ap Eg)) AF)))))))
      (Ag (Ap Eg))))),?_⟩
    walk_at "w";intro d hd;walk_at "w";have s8:=Aj (o:=HO.dT []) hd;have hd8:upd H d (HO.dT []) d=some (.dT []):=Ae;have hq8:=s8 _ _ hq;generalize upd H d (HO.dT [])=H8 at s8 hd8 hq8 ⊢;refine ⟨q,rfl,⟨_,SqL.of hq8⟩,AM (H0:=H) (Ow (SqL.of hq)) (λ i σ H3=>∃ (x1 x2 x3:Option V),σ=[some (nV n),some (.ref a),some (.ref q),some (.ref d),x1,x2,x3,none,none,none,none,none]/\Same H H3/\H3 d=some (.dT (((Ls.take i).flatten).map (lvP Ls)))) ⟨_,_,_,rfl,s8,hd8⟩ (λ i σ H3 ⟨_,_,_,_,s,_⟩=>s) ?_ ?_⟩
    · rintro i σ G H9 hi ⟨x1,x2,x3,rfl,s',hd'⟩ s9;have hi':i<Ls.length:=by rw [<-lsl.len];exact hi
      have sH:=s'.trans s9;obtain ⟨l,ls,el,hl9,tl,_⟩:=lsl.at_ i hi';have eL:Ls[i]?=some (Ls.getD i []):=by rw [List.getD_eq_getElem?_getD,List.getElem?_eq_getElem hi'];rfl
      rw [el];generalize Ls.getD i []=L at tl eL;have ll:=tl.len;walk_at "w";refine ⟨l,rfl,⟨_,SqL.of (sH _ _ hl9)⟩,AM (H0:=H) (Co (SqL.of hl9)) (λ j σ H3=>∃ (x3:Option V),σ=[some (nV n),some (.ref a),some (.ref q),some (.ref d),some (nV i),some (.ref l),x3,none,none,none,none,none]/\Same H H3/\H3 d=some (.dT (((Ls.take i).flatten++L.take j).map (lvP Ls)))) ⟨_,rfl,sH,by rw [List.take_zero,List.append_nil];exact s9 _ _ hd'⟩ (λ j σ H3 ⟨_,_,s,_⟩=>s) ?_ ?_⟩
      · rintro j σ G4 H10 hj ⟨x4,rfl,s10',hd10⟩ s10;have hj':j<L.length:=by rw [<-ll];exact hj
        obtain ⟨bj,ebj,hbj⟩:=tl.at_ j hj';have sG:=s10'.trans s10;have lv:=ML.lvl_at ndf eL (L2.getD_mem (y:=((false,0):Th)) hj');have new:=RH ndf eL hj';rw [ebj];walk_at "w";have dl:((Ls.take i).flatten++L.take j).length<=n+rs.length:=by
          have h1:((Ls.take (i+1)).flatten).length<=Ls.flatten.length:=by
            have e:Ls.flatten=(Ls.take (i+1)).flatten++(Ls.drop (i+1)).flatten:=by rw [<-List.flatten_append,List.take_append_drop]
            rw [e,List.length_append];omega
          rw [FV eL,List.length_append] at h1;rw [List.length_append,List.length_take];omega
        refine ⟨d,_,rfl,DPut.t (k:=thK (L.getD j (false,0))) (s10 _ _ hd10) (sG _ _ hbj) (Nat.lt_of_le_of_lt (show _<=1000 by rw [List.length_map];omega) (by decide)),?_⟩;rw [F1 _ (by rw [Ke,if_neg new])];walk_at "w";refine ⟨_,rfl,AQ sG hd,?_⟩;rw [Cp hj', <-List.append_assoc,List.map_append (l₂:=[_])];show upd _ d _ d=some (.dT (_++[(thK _,nV (ML.lvl Ls _))]));rw [lv];exact Ae
      · rintro σ H10 ⟨x4,rfl,s10,hd10⟩;rw [ll,List.take_length, <-FV eL] at hd10;walk_at "w";exact ⟨_,_,_,rfl,s10,hd10⟩
    · rintro σ H9 ⟨x1,x2,x3,rfl,s9,hd9⟩;rw [lsl.len,List.take_length] at hd9;have e1:∀ m:Nat,((m:Int)+1 - 1).toNat=m:=λ m=>by omega
      walk_at "w";refine ⟨_,_,rfl,⟨by decide,by decide,by omega,by omega⟩,?_⟩;rw [e1];refine ES (Gj (n:=n)) (λ i σ H3=>∃ y1 y2 y3 y4 y5,σ=[some (nV n),some (.ref a),some (.ref q),some (.ref d),x1,x2,x3,y1,y2,y3,y4,y5]/\Same H9 H3) ⟨_,_,_,_,_,rfl,Same.refl _⟩ (λ i σ H3 ⟨_,_,_,_,_,_,s⟩=>s) ?_ ?_
      · rintro i σ G H10 hi ⟨y1,y2,y3,y4,y5,rfl,s'⟩ s10;have sG:=s'.trans s10;walk_at "w";refine AD (SqL.of ((s9.trans sG) _ _ ha)) ?_;rw [List.length_map];walk_at "w";refine ⟨_,_,rfl,⟨by decide,by decide,by omega,by omega⟩,?_⟩;rw [e1];refine AM (H0:=H9) (Gj (n:=rs.length)) (λ j σ H3=>∃ y2 y3 y4 y5,σ=[some (nV n),some (.ref a),some (.ref q),some (.ref d),x1,x2,x3,some (.int (1+(i:Nat))),y2,y3,y4,y5]/\Same H9 H3) ⟨_,_,_,_,rfl,sG⟩ (λ j σ H3 ⟨_,_,_,_,_,s⟩=>s) ?_ ?_
        · rintro j σ G4 H11 hj ⟨z2,z3,z4,z5,rfl,s11'⟩ s11;have s9B:=s11'.trans s11;have s0B:=s9.trans s9B;walk_at "w";row_lines H11 x12;walk_at "w";have tE:((false,i+1):Th)∈Ai n rs.length:=mem_allT.mpr ⟨Nat.succ_le_succ (Nat.zero_le _),by show i+1<=n;omega⟩;have tP:((true,j+1):Th)∈Ai n rs.length:=mem_allT.mpr ⟨Nat.succ_le_succ (Nat.zero_le _),by show j+1<=rs.length;omega⟩;have gE:H12 p12=some (.tup (thV (false,i+1))):=by
            rw [g12];show some (HO.tup [V.str _,V.int _])=some (HO.tup [V.str _,V.int _]);rw [show (1:Int)+(i:Nat)=((i+1:Nat):Int) by omega];rfl
          refine ⟨d,nV (ML.lvl Ls (false,i+1)),rfl,lvo.at_ _ tE▸DGet.t (k:=thK (false,i+1)) ((s9B.trans s12) _ _ hd9) gE,?_⟩;walk_at "w";row_lines H12 x13;walk_at "w";have gP:H13 p13=some (.tup (thV (true,j+1))):=by
            rw [g13];show some (HO.tup [V.str _,V.int _])=some (HO.tup [V.str _,V.int _]);rw [show (1:Int)+(j:Nat)=((j+1:Nat):Int) by omega];rfl
          have s913:=s9B.trans (s12.trans s13);refine ⟨d,nV (ML.lvl Ls (true,j+1)),rfl,lvo.at_ _ tP▸DGet.t (k:=thK (true,j+1)) (s913 _ _ hd9) gP,?_⟩;walk_at "w";rw [show (1:Int)+(j:Nat) - 1=((j:Nat):Int) by omega];refine AN (SqL.of ((s9.trans s913) _ _ ha)) (Bp (by omega) (by omega)) ?_;rw [Int.toNat_natCast];walk_at "w";rw [show (1:Int)+(i:Nat) - 1=((i:Nat):Int) by omega];refine An (by show (0:Int)<=_;omega) ?_;rw [Cm];walk_at "w";have eb:Builtin.bitAnd ((rs.getD j 0 >>> i:Nat):Int) 1=(((rs.getD j 0 >>> i) &&& 1:Nat):Int):=by rw [show (1:Int)=((1:Nat):Int) from rfl,bA]
          rw [eb,OR];have key:ML.lvl Ls (false,i+1)≠ML.lvl Ls (true,j+1)->(rs.getD j 0).testBit i=decide (((ML.lvl Ls (false,i+1):Nat):Int)<((ML.lvl Ls (true,j+1):Nat):Int)):=λ ne=>by
            cases c:(rs.getD j 0).testBit i with
            | true=>
              have:((false,i+1):Th)∈ovL n rs (true,j+1):=ov_mem.mpr ⟨mem_allT.mp tE,by simp,by simpa using c⟩;have:=lvo.ord _ tP _ tE (.step .here this);symm;rw [decide_eq_true_iff];omega
            | false=>
              have:((true,j+1):Th)∈ovL n rs (false,i+1):=ov_mem.mpr ⟨mem_allT.mp tP,by simp,by simpa using c⟩;have:=lvo.ord _ tE _ tP (.step .here this);symm;rw [decide_eq_false_iff_not];omega
          walk_at "w";refine Mu (λ ne=> ?_) (λ eq=> ?_)
          · walk_at "w";rw [<-key (by omega)];refine Mu (λ z=>absurd rfl z) (λ _=> ?_);walk_at "w";exact ⟨_,_,_,_,rfl,s913⟩
          · walk_at "w";exact ⟨_,_,_,_,rfl,s913⟩
        · rintro σ H11 ⟨z2,z3,z4,z5,rfl,s11⟩;walk_at "w";exact ⟨_,_,_,_,_,rfl,s11⟩
      · rintro σ H10 ⟨y1,y2,y3,y4,y5,rfl,s10⟩;walk_at "w";exact k H10 (s9.trans s10)
open MG
theorem OG {H:Hp} {vs:List V} {ts:List Th} (h:TL H vs ts):vs=(vs.map adV).map V.ref/\(vs.map adV).length=ts.length/\∀ i,i<ts.length->H ((vs.map adV).getD i 0)=some (.tup (thV (ts.getD i (false,0)))):=by
  have key:∀ i (hi:i<vs.length),∃ b,vs[i]= .ref b/\H b=some (.tup (thV (ts.getD i (false,0)))):=λ i hi=>by
    obtain ⟨b,e,hb⟩:=h.at_ i (by rw [<-h.len];exact hi);rw [L2.getD_el hi] at e;exact ⟨b,e,hb⟩
  refine ⟨?_,by rw [List.length_map,h.len],λ i hi=> ?_⟩
  · rw [List.map_map];refine List.ext_getElem (by simp) λ i h1 h2=> ?_;obtain ⟨b,e,_⟩:=key i h1;rw [List.getElem_map,e];rfl
  · have hi':i<vs.length:=by rw [h.len];exact hi
    obtain ⟨b,e,hb⟩:=key i hi';rw [List.getD_eq_getElem?_getD,List.getElem?_map,List.getElem?_eq_getElem hi',e];exact hb
theorem Ia {F:Addr->Prop} {H:Hp} {q:Addr} {qr:List V} {Ls:List (List Th)} (hq:H q=some (.lst qr)) (h:LsL F H qr Ls) (b:Ls.length<=100000) (bs:∀ l∈Ls,l.length<=100000):Rp H FT 3 (.ref q) (.lst (Ls.map dLs)):=by
  refine .lst hq trivial (by rw [h.len];exact b) (by rw [List.length_map,h.len]) λ i v d hv hd=> ?_;have hi:i<Ls.length:=by rw [<-h.len];exact (List.getElem?_eq_some_iff.mp hv).1
  obtain ⟨l,ls,e,hl,tl,_⟩:=h.at_ i hi;rw [List.getD_eq_getElem?_getD,hv] at e;have e:v= .ref l:=e;rw [List.getElem?_map,List.getElem?_eq_getElem hi] at hd;have g:Ls.getD i []=Ls[i]:=by rw [List.getD_eq_getElem?_getD,List.getElem?_eq_getElem hi];rfl
  rw [g] at tl;cases hd;rw [e];exact Jr hl trivial (bs _ (List.getElem_mem hi)) tl
theorem Rw {F:Addr->Prop} {H:Hp} {qr:List V} {Ls:List (List Th)} (h:LsL F H qr Ls) (bs:∀ l∈Ls,l.length<=1000):∀ j,j<qr.length->InL H 1 (qr.getD j .non) 1000:=λ j hj=>by
  have hi:j<Ls.length:=by rw [<-h.len];exact hj
  obtain ⟨l,ls,e,hl,tl,_⟩:=h.at_ j hi;have g:Ls.getD j []=Ls[j]:=by rw [List.getD_eq_getElem?_getD,List.getElem?_eq_getElem hi];rfl
  rw [g] at tl;refine ⟨l,ls,(Ls[j]).map dTh,e,hl,by rw [List.length_map,tl.len],by rw [List.length_map];exact bs _ (List.getElem_mem hi),(λ e he=>by obtain ⟨t,_,rfl⟩:=List.mem_map.mp he;exact O7 t),λ i x d hx hd=> ?_⟩;have hi2:i<(Ls[j]).length:=by rw [<-tl.len];exact (List.getElem?_eq_some_iff.mp hx).1
  have:=tl.at_ i hi2;rw [List.getD_eq_getElem?_getD,hx,L2.getD_el hi2] at this;rw [List.getElem?_map,List.getElem?_eq_getElem hi2] at hd;cases hd;exact Hx this
def Eh (c:Cs):Sp:=λ vs H Q _=>∃ x n rs a,vs=[.ref x,nV n, .ref a]/\ClAt c.Cloth H x n rs/\ClOk n rs/\n+rs.length<64/\H a=some (.lst (rs.map nV))/\∀ H',Same H H'->Q (.bl true) H'
abbrev C9:Stmt:=top 55
theorem sc__law_right:FnScope ["_law_weave_here","_law_ends","_law_rows","_law_told","_law_every","_law_threads_here","_law_due_here"] ["_law_weave_here","_law_ends","_law_rows"] (Ak C9):=⟨rfl,rfl,rfl,by decide +kernel,rfl,by decide +kernel,by decide +kernel⟩
theorem He {f:Addr} {fd:FuncData} (F:Fun K "_law_right" "_law_right" C9 f fd) (T:Txt K mg c) (c_layers_of:Ar P w K mg base "layers_of" 7 ["cloth"] (CO c)) (c__law_threads:Ar P w K mg base "_law_threads" 1 ["_law_ends","_law_picks"] Br) (c__law_lies_above:Ar P w K mg base "_law_lies_above" 1 ["_law_ends","_law_rows","_law_found"] Cb) (c__law_due:Ar P w K mg base "_law_due" 4 ["_law_ends","_law_rows"] DP) (c_hangs:Ar P w K mg base "hangs" 7 ["cloth"] (ID c)) (c__law_alike:Ar P w K mg base "_law_alike" (4+1) ["_law_found","_law_due_here"] (Bo 4)) (c__law_longer:Ar P w K mg base "_law_longer" (4+1) ["_law_told"] (Bw 4)):FnOk P w K mg base CX0 8 f fd ["_law_weave_here","_law_ends","_law_rows"] (Eh c):=by
  refine F.ok sc__law_right (λ vs H Q E h=> ?_) (λ cdv A outer s H vs Q E hr h=> ?_)
  · obtain ⟨x,n,rs,a,rfl,_⟩:=h;rfl
  · obtain ⟨x,n,rs,a,rfl,C0,ok,h64,ha,k⟩:=h;have m1:=ok.n1;have m2:=ok.n2;have q2:=ok.p2;refine ⟨_,(Ad (Ao (i:=3) sc__law_right.nd rfl (Or.inl rfl) (Ah c_layers_of hr (Aa (pv 0) Ab)))
      (Ad (Ao (i:=4) sc__law_right.nd rfl (Or.inl rfl) (AT Ab))
      (Ad (Bh (BA (AZ (Al (CC (K:=K)) rfl (T.own _ (by decide)) boot_isinstance (Aa (pv 3) (Aa (B4 rfl (T.own _ (by decide)) AI) Ab))))) (Ag (Ap Eg)) AF)
      (Ad (A0 PassesOwn.never rfl (B0 (K:=K) (pv 3)) (As (i:=5) sc__law_right.nd rfl (Or.inl rfl)) (Ad (Bh (PW.pt (Ft (BA (AZ (Al (CC (K:=K)) rfl (T.own _ (by decide)) boot_isinstance (Aa (pv 5) (Aa (B4 rfl (T.own _ (by decide)) AI) Ab))))) (DJ (AE (Qn hr.units) (pv 5) (AT Ab) (At _))))) (Ag (Ap Eg)) AF)
      (Ag (Ao (i:=4) sc__law_right.nd rfl (Or.inl rfl) (Af (K5 (K:=K)) (pv 4) (pv 5))))))
      (Ad (Bh (PW.pt (Ft (BA (AZ (Ah c__law_alike (hr.mono (by decide)) (Aa (Al (Ma (K:=K)) rfl (T.own _ (by decide)) De (Aa (pv 4) Ab)) (Aa (Ah c__law_threads (hr.mono (by decide)) (Aa (pv 1) (Aa (Al (A6 (K:=K)) rfl (T.own _ (by decide)) boot_len (Aa (pv 2) Ab)) Ab))) Ab))))) (DJ (BA (AZ (Ah c__law_lies_above (hr.mono (by decide)) (Aa (pv 1) (Aa (pv 2) (Aa (pv 3) Ab))))))))) (Ag (Ap Eg)) AF)
      (Ad (Ao (i:=6) sc__law_right.nd rfl (Or.inl rfl) (Ah c__law_due (hr.mono (by decide)) (Aa (pv 1) (Aa (pv 2) Ab))))
      (Ad (Bh (PW.pt (Ft (BA (AZ (Ah c__law_alike (hr.mono (by decide)) (Aa (pv 3) (Aa (pv 6) Ab))))) (DJ (BA (AZ (Ah c__law_alike (hr.mono (by decide)) (Aa (Ah c_hangs hr (Aa (pv 0) Ab)) (Aa (Bj Bg (Al (A6 (K:=K)) rfl (T.own _ (by decide)) boot_len (Aa (pv 6) Ab)) Ac (At _)) Ab)))))))) (Ag (Ap Eg)) AF)
      (Ad (BC (Ah c__law_longer (hr.mono (by decide)) (Aa (pv 3) Ab)))
      (Ag (Ap (Ah c__law_alike (hr.mono (by decide)) (Aa (Ah c_layers_of hr (Aa (pv 0) Ab)) (Aa (pv 6) Ab))))))))))))),?_⟩
    walk_at "w";refine ⟨x,n,rs,rfl,C0,ok,h64,λ H1 q qr Ls s1 hq hq1 lslE sq=> ?_⟩;have st:=sq.st;have du:=sq.due;have lsl:=lslE.same ers_is;have ndf:=st.ndf;have pmU:=st.perm (BS n rs) (DV _ _);have flen:Ls.flatten.length=n+rs.length:=by rw [pmU.length_eq,Aq]
    have lens:∀ l∈Ls,l.length<=n+rs.length:=λ l hl=>by
      obtain ⟨t,_,e⟩:=st.lay l hl;rw [e, <-Aq];exact List.length_filter_le _ _
    have lenL:Ls.length<=n+rs.length:=by
      rw [du.len, <-FS];exact FQ n rs _
    walk_at "w";row_lines H1 x2;walk_at "w";have hq2:=s2 _ _ hq1;have r2:=Ia hq2 (lsl.same s2) (by omega) (λ l hl=>by have:=lens l hl;omega);refine By r2.ty (Dd _) ?_;refine ⟨true,rfl,?_⟩;walk_at "w";refine ⟨q,rfl,⟨_,SqL.of hq2⟩,ES (Co (SqL.of hq2)) (λ i σ H3=>∃ (e:Addr) (er:List V) (y:Option V),σ=[some (.ref x),some (nV n),some (.ref a),some (.ref q),some (.ref e),y,none]/\Same H2 H3/\H3 e=some (.lst er)/\TL H3 er (Ls.take i).flatten) ⟨p2,[],_,rfl,Same.refl _,g2,TL.nil⟩ (λ i σ H3 ⟨_,_,_,_,s,_⟩=>s) ?_ ?_⟩
    · rintro i σ G H3 hi ⟨e,er,y,rfl,s',he,te⟩ s3;have hi':i<Ls.length:=by rw [<-lsl.len];exact hi
      have sG:=s'.trans s3;have s23:=s2.trans sG;obtain ⟨l,ls,el,hl,tl,_⟩:=lsl.at_ i hi';have eL:Ls[i]?=some (Ls.getD i []):=by rw [List.getD_eq_getElem?_getD,List.getElem?_eq_getElem hi'];rfl
      have lb:=lens _ (List.mem_of_getElem? eL);obtain ⟨t0,_,t0m⟩:=st.ne (BS n rs) eL;rw [el];generalize Ls.getD i []=L at tl eL lb t0m;have tl3:=tl.same s23;have hl3:=s23 _ _ hl;have rl:=Jr (F:=FT) hl3 trivial (by omega) tl3;walk_at "w";refine By rl.ty (Dd _) ?_;refine ⟨true,rfl,?_⟩;walk_at "w";row_lines H3 x4;walk_at "w";refine ⟨2, .lst (L.map dTh), .lst [],by decide,rl.same s4, .lst g4 trivial (Nat.zero_le _) rfl (λ i v d hv=>by simp at hv),rfl,?_⟩;have en:eqD (.lst (L.map dTh)) (.lst [])=false:=by
        cases L with
        | nil=>cases t0m
        | cons z zs=>rfl
      rw [en];refine ⟨false,rfl,?_⟩;walk_at "w";have s34:=s3.trans s4;have lf:(Ls.take i).flatten.length<=n+rs.length:=by
        have e:Ls.flatten=(Ls.take i).flatten++(Ls.drop i).flatten:=by rw [<-List.flatten_append,List.take_append_drop]
        rw [e,List.length_append] at flen;omega
      have ll:=te.len;have l2:=tl.len;refine HZ (SqL.of (s34 _ _ he)) (SqL.of (s4 _ _ hl3)) (by omega) λ p5 n5=> ?_;wrow_has H4 x5;walk_at "w";refine ⟨p5,_,_,rfl,(sG.trans s4).trans s5,g5,?_⟩;rw [FV eL];exact ((te.same s34).app (tl3.same s4)).same s5
    · rintro σ H3 ⟨e,er,y,rfl,s3,he,te⟩;rw [lsl.len,List.take_length] at te;obtain ⟨er1,er2,er3⟩:=OG te;generalize er.map adV=bs at er1 er2 er3;subst er1;walk_at "w";have okU:∀ t∈Ls.flatten,t.2<100000:=λ t ht=>by
        have:=mem_allT.mp (pmU.mem_iff.mp ht);unfold okT at this;have h2:=this.2;split at h2 <;> omega
      refine ⟨e,bs,Ls.flatten.map thK,rkK,rfl,SqL.of he,by rw [List.length_map];omega,by rw [List.length_map];exact er2,λ i hi=> ?_,GT okU,List.Pairwise.map _ (λ a b h z=>h (Dg z)) ndf,λ p11 cs ms n11 pm pw cl hat2=> ?_⟩
      · rw [List.length_map] at hi;rw [er3 i hi,List.getD_eq_getElem?_getD (l:=List.map _ _),List.getElem?_map,List.getElem?_eq_getElem hi];show _=some (HO.tup ((thK _).map kV));rw [Qj,List.getD_eq_getElem?_getD,List.getElem?_eq_getElem hi];rfl
      have up:=Kv n rs.length (by omega);have e':ms=(Ai n rs.length).map thK:=MY rkK (pm.trans (pmU.map _)) pw (by
        rw [List.pairwise_map];refine up.imp λ h=> ?_;rw [FB,FB];exact h)
      subst e';wrow_has H3 x11;walk_at "w";rw [List.length_map] at cl hat2;have t11:TL H11 (cs.map V.ref) (Ai n rs.length):=⟨by rw [List.length_map,cl],λ i hi=>by
        have hc:i<cs.length:=by rw [cl];exact hi
        refine ⟨cs.getD i 0,?_,?_⟩
        · rw [List.getD_eq_getElem?_getD,List.getElem?_map,List.getElem?_eq_getElem hc,List.getD_eq_getElem?_getD,List.getElem?_eq_getElem hc];rfl
        · have z:=s11 _ _ (hat2 i hi);rw [z,List.getD_eq_getElem?_getD,List.getElem?_map,List.getElem?_eq_getElem hi];show some (HO.tup ((thK _).map kV))=_;rw [Qj,List.getD_eq_getElem?_getD,List.getElem?_eq_getElem hi];rfl⟩
      have s1B:=s2.trans (s3.trans s11);have s0B:=s1.trans s1B;refine AD (SqL.of (s0B _ _ ha)) ?_;rw [List.length_map];walk_at "w";refine ⟨n,rs.length,rfl,m2,q2,λ H12 m s12 hm r12=> ?_⟩;walk_at "w";refine ⟨_,_, .lst ((Ai n rs.length).map dTh),rfl,(Jr (s12 _ _ g11) trivial (by rw [Aq];omega) (t11.same s12)).up (by decide),(r12.mono (λ _ _ q _=>q) λ _ _=>trivial).up (by decide),λ H13 s13=> ?_⟩;refine ⟨true,rfl,?_⟩;have s1D:=s1B.trans (s12.trans s13);have s0D:=s1.trans s1D;walk_at "w";refine ⟨n,a,q,rs,qr,Ls,_,rfl,s0D _ _ ha,ok,h64,s1D _ _ hq1,lsl.same s1D,st,λ H14 s14=> ?_⟩;refine ⟨true,rfl,?_⟩;have s1E:=s1D.trans s14;have s0E:=s1.trans s1E;walk_at "w";refine ⟨n,a,rs,Ls,rfl,s0E _ _ ha,ok,h64,du,λ H15 dq s15 hdq rd=> ?_⟩;have s1F:=s1E.trans s15;have s0F:=s1.trans s1F;walk_at "w";have rT:=Ia (s1F _ _ hq1) (lsl.same s1F) (by omega) (λ l hl=>by have:=lens l hl;omega);refine ⟨_,_, .lst (Ls.map dLs),rfl,rT,rd.mono (λ _ _ q _=>q) λ _ _=>trivial,λ H16 s16=> ?_⟩;refine ⟨true,rfl,?_⟩;walk_at "w";refine ⟨x,n,rs,rfl,C0.same (s0F.trans s16),ok,h64,λ H17 s17=> ?_⟩;walk_at "w";have sFH:=s16.trans s17;obtain ⟨md,ad,dv,_,ead,hdv,_,ldv,_,_⟩:=GS (rd.same sFH);cases ead;refine AD (SqL.of hdv) ?_;walk_at "w";have ho:decide (((dv.length:Nat):Int)=1)=Hu n rs:=by
        rw [<-Np m1 st,decide_eq_decide,ldv,List.length_map];omega
      rw [ho];refine ⟨_,_, .bl (Hu n rs),rfl, .bl _, .bl _,λ H18 s18=> ?_⟩;refine ⟨true,rfl,?_⟩;walk_at "w";have sFI:=sFH.trans s18;have s1I:=s1F.trans sFI;have s0I:=s1.trans s1I;have na:V.ref q∉qr:=λ z=>by
        obtain ⟨i,hi,ei⟩:=List.mem_iff_getElem.mp z;obtain ⟨l,ls,el,hl,_⟩:=lslE.at_ i (by rw [<-lslE.len];exact hi);rw [L2.getD_el hi,ei] at el;cases el;unfold ers at hl;rw [if_pos rfl] at hl;cases hl
      have lq:=lsl.len;refine ⟨_, .lst (Ls.map dLs),rfl,rT.same sFI, .inl (.inr ⟨q,qr,rfl,s1I _ _ hq1,rfl,by omega,Rw (lsl.same s1I) (λ l hl=>by have:=lens l hl;omega),by decide,na,λ H19 sx=> ?_⟩)⟩;have wl:∀ b,(b=q\/V.ref b∈qr)->H b=none/\∃ xs,H1 b=some (.lst xs):=λ b hb=>by
        rcases hb with rfl | hb
        · exact ⟨hq,_,hq1⟩
        · obtain ⟨i,hi,ei⟩:=List.mem_iff_getElem.mp hb;obtain ⟨l,ls,el,hl,_,fl⟩:=lsl.at_ i (by rw [<-lsl.len];exact hi);rw [L2.getD_el hi,ei] at el;cases el;exact ⟨fl,_,hl⟩
      have s0J:Same H H19:=λ b o e=>sx b o (s0I _ _ e) λ w=>by
        rw [(wl b w).1] at e;cases e
      have rdJ:Rp H19 FT 3 (.ref dq) (.lst (Ls.map dLs)):=(rd.same sFI).mono (λ b o e f=>sx b o e λ w=>by
        obtain ⟨_,xs,hx⟩:=wl b w;have h2:=s1I _ _ hx;rw [e] at h2;cases h2;have:H14 b=none:=f _ rfl;rw [s1E _ _ hx] at this;cases this) λ _ _=>trivial
      walk_at "w";refine ⟨x,n,rs,rfl,C0.same s0J,ok,h64,λ H20 q3 qr3 Ls3 s20 hq3 hq20 lsl3 sq3=> ?_⟩;have eL:=du.uniq sq3.due;subst eL;walk_at "w";exact ⟨_,_, .lst (Ls.map dLs),rfl,Ia hq20 (lsl3.same ers_is) (by omega) (λ l hl=>by have:=lens l hl;omega),rdJ.same s20,λ H21 s21=>k H21 (s0J.trans (s20.trans s21))⟩
open MG
abbrev N2:Stmt:=top 56
theorem sc_law:FnScope ["_law_script","_law_ends","_law_rows","_law_other","_law_weaves"] ["_law_script"] (Ak N2):=⟨rfl,rfl,rfl,by decide +kernel,rfl,by decide +kernel,by decide +kernel⟩
theorem QR {f:Addr} {fd:FuncData} (F:Fun K "law" "law" N2 f fd) (T:Txt K mg c) (c__law_weave:Ar P w K mg base "_law_weave" 3 ["_law_script","_law_most"] (Ee K)) (c__law_right:Ar P w K mg base "_law_right" 8 ["_law_weave_here","_law_ends","_law_rows"] (Eh c)) (c_layers_of:Ar P w K mg base "layers_of" 7 ["cloth"] (CO c)) (c__law_due:Ar P w K mg base "_law_due" 4 ["_law_ends","_law_rows"] DP) (c__law_alike:Ar P w K mg base "_law_alike" (4+1) ["_law_found","_law_due_here"] (Bo 4)) (m_Cloth:Lc P w K mg base "Cloth" c.Cloth 4 ["self","ends","rows"] (AV c)):FnOk P w K mg base CX0 9 f fd ["_law_script"] (Ky K):=by
  refine F.ok sc_law (λ vs H Q E h=> ?_) (λ cdv A outer s H vs Q E hr h=> ?_)
  · obtain ⟨a,ns,rfl,_⟩:=h;rfl
  · obtain ⟨a,ns,rfl,sa,hl,k⟩:=h;refine ⟨_,(Ad (Gg (Ah c__law_weave (hr.mono (by decide)) (Aa (pv 0) (Aa Ac Ab))) (Gz (K:=K) rfl (A3 (As (i:=1) sc_law.nd rfl (Or.inl rfl)) (A3 (As (i:=2) sc_law.nd rfl (Or.inl rfl)) DU))))
      (Ad (Ao (i:=3) sc_law.nd rfl (Or.inl rfl) (Ah c__law_weave (hr.mono (by decide)) (Aa (Qp (K:=K) (pv 0) (KN N0 Ac)) (Aa Ac Ab))))
      (Ad (Ao (i:=4) sc_law.nd rfl (Or.inl rfl) (AT (Aa (GC m_Cloth (hr.mono (by decide)) (Aa (pv 1) (Aa (BO (NO (K:=K)) rfl (T.own _ (by decide)) AI (Aa (pv 2) Ab)) Ab))) (Aa (GC m_Cloth (hr.mono (by decide)) (Aa (Av (Bl (K:=K)) (pv 3) Ac (λ _ _=>rfl)) (Aa (BO (NO (K:=K)) rfl (T.own _ (by decide)) AI (Aa (Av (Bl (K:=K)) (pv 3) Ac (λ _ _=>rfl)) Ab)) Ab))) Ab))))
      (Ad (Bh (PW.pt (Ft (BA (AZ (Ah c__law_right hr (Aa (Av (Bc (K:=K)) (pv 4) Ac (λ _ _=>rfl)) (Aa (pv 1) (Aa (pv 2) Ab)))))) (DJ (BA (AZ (Ah c__law_right hr (Aa (Av (Bc (K:=K)) (pv 4) Ac (λ _ _=>rfl)) (Aa (Av (Bl (K:=K)) (pv 3) Ac (λ _ _=>rfl)) (Aa (Av (Bl (K:=K)) (pv 3) Ac (λ _ _=>rfl)) Ab))))))))) (Ag (Ap Eg)) AF)
      (Ag (Ap (Ah c__law_alike (hr.mono (by decide)) (Aa (Ah c_layers_of (hr.mono (by decide)) (Aa (Av (Bc (K:=K)) (pv 4) Ac (λ _ _=>rfl)) Ab)) (Aa (Ah c__law_due (hr.mono (by decide)) (Aa (pv 1) (Aa (pv 2) Ab))) Ab))))))))),?_⟩
    walk_at "w";refine ⟨a,ns,18,rfl,sa,hl,by decide,by decide,λ H1 p1 l1 n1 r1 s1 _ _ hp1 hl1 c1=> ?_⟩;have m1:n1+r1.length<64:=by have:=c1.n2;have:=c1.p2;omega
    walk_at "w";refine FX (SqT.of hp1) rfl ?_;walk_at "w";refine RN (s1.seq sa) λ p2 n2=> ?_;rw [<-List.map_reverse];wrow_has H1 x2;replace hl1:=s2 _ _ hl1;walk_at "w";refine ⟨p2,ns.reverse,7,rfl,SqL.of g2,by simpa using hl,by decide,by decide,λ H3 p3 l3 n3 r3 s3 _ _ hp3 hl3 c3=> ?_⟩;have m3:n3+r3.length<64:=by have:=c3.n2;have:=c3.p2;omega
    replace hl1:=s3 _ _ hl1;walk_at "w";refine HJ (SqL.of hl1) λ p4 n4=> ?_;wrow_has H3 x4;replace hl1:=s4 _ _ hl1;replace hl3:=s4 _ _ hl3;replace hp3:=s4 _ _ hp3;walk_at "w";refine PR g4 c1.ok λ H5 x5 s5 _ C5=> ?_;replace hl1:=s5 _ _ hl1;replace hl3:=s5 _ _ hl3;replace hp3:=s5 _ _ hp3;walk_at "w";refine AS (v:=nV n3) (SqT.of hp3) (Ax (j:=0) rfl) ?_;walk_at "w";refine AS (v:= .ref l3) (SqT.of hp3) (Ax (j:=1) rfl) ?_;walk_at "w";refine HJ (SqL.of hl3) λ p6 n6=> ?_;wrow_has H5 x6;replace hl1:=s6 _ _ hl1;replace hl3:=s6 _ _ hl3;replace hp3:=s6 _ _ hp3;replace C5:=C5.same s6;walk_at "w";refine PR g6 c3.ok λ H7 x7 s7 _ C7=> ?_;replace hl1:=s7 _ _ hl1;replace hl3:=s7 _ _ hl3;replace hp3:=s7 _ _ hp3;replace C5:=C5.same s7;walk_at "w";row_lines H7 x8;replace hl1:=s8 _ _ hl1;replace hl3:=s8 _ _ hl3;replace hp3:=s8 _ _ hp3;replace C5:=C5.same s8;replace C7:=C7.same s8;walk_at "w";refine AN (v:= .ref x5) (SqL.of g8) (Ax (j:=0) rfl) ?_;walk_at "w";refine ⟨x5,n1,r1,l1,rfl,C5,c1.ok,m1,hl1,λ H9 s9=> ?_⟩;refine ⟨true,rfl,?_⟩;walk_at "w";refine AN (v:= .ref x7) (SqL.of (s9 _ _ g8)) (Ax (j:=1) rfl) ?_;walk_at "w";refine AS (v:=nV n3) (SqT.of (s9 _ _ hp3)) (Ax (j:=0) rfl) ?_;walk_at "w";refine AS (v:= .ref l3) (SqT.of (s9 _ _ hp3)) (Ax (j:=1) rfl) ?_;walk_at "w";refine ⟨x7,n3,r3,l3,rfl,C7.same s9,c3.ok,m3,s9 _ _ hl3,λ H10 s10=> ?_⟩;refine ⟨true,rfl,?_⟩;have s8A:=s9.trans s10;walk_at "w";refine AN (v:= .ref x5) (SqL.of (s8A _ _ g8)) (Ax (j:=0) rfl) ?_;walk_at "w";refine ⟨x5,n1,r1,rfl,C5.same s8A,c1.ok,m1,λ H11 q qr Ls s11 hq hq1 lsl sq=> ?_⟩;have s8B:=s8A.trans s11;walk_at "w";refine ⟨n1,l1,r1,Ls,rfl,s8B _ _ hl1,c1.ok,m1,sq.due,λ H12 dq s12 hdq rd=> ?_⟩;have lenL:Ls.length<=n1+r1.length:=by
      rw [sq.due.len, <-FS];exact FQ n1 r1 _
    walk_at "w";refine ⟨_,_, .lst (Ls.map dLs),rfl,Ia (s12 _ _ hq1) ((lsl.same ers_is).same s12) (by omega) (λ l hl=> ?_),rd.mono (λ _ _ q _=>q) λ _ _=>trivial,λ H13 s13=>k H13⟩;obtain ⟨t,_,e⟩:=sq.st.lay l hl;have:=List.length_filter_le (λ t'=>decide (ML.R (Ai n1 r1.length) (Ba n1 r1) t'=ML.R (Ai n1 r1.length) (Ba n1 r1) t)) (Ai n1 r1.length);rw [Aq] at this;rw [e];exact Nat.le_trans this (by omega)
end
end K23
namespace K23
open PySem L2 PySem.Spec PyProof.Rows
theorem all_mk {l:PySem.W.OpenLaw} {w:World} {K:PySem.W.Frag} {h:Heap} {mg:Str->Option Value} {fa:Addr} (X:K.In h) (G:h.Ns mainGlobals mg) (hfa:mg "law"=some (.ref fa))
    {C_Cloth f0 f1 f2 f3 f4 f5 f6 f7 f8 f9 f10 f11 f12 f13 f14 f15 f16 f17 f18 f19 f20 f21 f22 f23 f24 f25 f26 f27 f28 f29 f30 f31 f32 f33 f34 f35 f36 f37 f38 f39 f40 f41 f42 f43 f44:Addr} {d0 d1 d2 d3 d4 d5 d6 d7 d8 d9 d10 d11 d12 d13 d14 d15 d16 d17 d18 d19 d20 d21 d22 d23 d24 d25 d26 d27 d28 d29 d30 d31 d32 d33 d34 d35 d36 d37 d38 d39 d40 d41 d42 d43 d44:FuncData}
    (T0:Txt K mg ⟨C_Cloth⟩)
    (D0:DefAt K mg "bit_of" GI ["number"] f0 d0)
    (D1:DefAt K mg "mask_of" Fn ["numbers"] f1 d1)
    (D2:DefAt K mg "mask_to" E9 ["most"] f2 d2)
    (D3:DefAt K mg "has_number" Db ["mask","number"] f3 d3)
    (D4:DefAt K mg "numbers_of" Da ["mask"] f4 d4)
    (D5:DefAt K mg "other_mask" Dc ["mask","most"] f5 d5)
    (D6:DefAt K mg "is_whole" Es ["thing"] f6 d6)
    (D7:DefAt K mg "is_among" Ew ["thing","least","most"] f7 d7)
    (D8:DefAt K mg "need_cloth" CU ["ends","rows"] f8 d8)
    (j9:Mk K C_Cloth f9)
    (D9:FnA K "__init__" "Cloth.__init__" BL ["self","ends","rows"] f9 d9)
    (j10:Meth K C_Cloth "ends" f10)
    (D10:FnA K "ends" "Cloth.ends" Dj ["self"] f10 d10)
    (j11:Meth K C_Cloth "picks" f11)
    (D11:FnA K "picks" "Cloth.picks" CB ["self"] f11 d11)
    (j12:Meth K C_Cloth "column_at" f12)
    (D12:FnA K "column_at" "Cloth.column_at" Bx ["self","end"] f12 d12)
    (D13:DefAt K mg "end_threads" Cu ["ends"] f13 d13)
    (D14:DefAt K mg "pick_threads" Ch ["picks"] f14 d14)
    (D15:DefAt K mg "threads_of" CZ ["cloth"] f15 d15)
    (j16:Meth K C_Cloth "row_at" f16)
    (D16:FnA K "row_at" "Cloth.row_at" Ce ["self","pick"] f16 d16)
    (D17:DefAt K mg "over_of" E8 ["cloth","thread"] f17 d17)
    (D18:DefAt K mg "overs_of" Et ["cloth"] f18 d18)
    (D19:DefAt K mg "threads_ahead" BY ["overs","one"] f19 d19)
    (D20:DefAt K mg "_law_alike" B6 ["_law_found","_law_due_here"] f20 d20)
    (D21:DefAt K mg "_law_mixed" Dm ["_law_cell","_law_k"] f21 d21)
    (D22:DefAt K mg "_law_cell_at" Cc ["_law_script","_law_k"] f22 d22)
    (D23:DefAt K mg "_law_turned" CF ["_law_mask","_law_steps_here","_law_size"] f23 d23)
    (D24:DefAt K mg "_law_told_over" BJ ["_law_script","_law_number","_law_most"] f24 d24)
    (D25:DefAt K mg "_law_laid" DN ["_law_script","_law_number","_law_ends","_law_picks"] f25 d25)
    (D26:DefAt K mg "_law_steps" CS ["_law_number","_law_ends","_law_most"] f26 d26)
    (D27:DefAt K mg "_law_weave" CT ["_law_script","_law_most"] f27 d27)
    (D28:DefAt K mg "_law_threads" Ci ["_law_ends","_law_picks"] f28 d28)
    (D29:DefAt K mg "_law_is_over" Ca ["_law_ends","_law_rows","_law_one","_law_other"] f29 d29)
    (D30:DefAt K mg "_law_uppers" CH ["_law_ends","_law_rows"] f30 d30)
    (D31:DefAt K mg "_law_longer" BP ["_law_told"] f31 d31)
    (D32:DefAt K mg "lifted_with" CG ["cloth","thread"] f32 d32)
    (D33:DefAt K mg "inverted" EA ["cloth"] f33 d33)
    (D34:DefAt K mg "hangs" Ix ["cloth"] f34 d34)
    (D35:DefAt K mg "lifted_layers" BX ["cloth"] f35 d35)
    (D36:DefAt K mg "is_next" Fd ["lifted","layer","told"] f36 d36)
    (D37:DefAt K mg "next_place" CV ["waiting","told"] f37 d37)
    (D38:DefAt K mg "layers_of" DL ["cloth"] f38 d38)
    (D39:DefAt K mg "_law_masks" Df ["_law_ends","_law_rows"] f39 d39)
    (D40:DefAt K mg "_law_all_from" BZ ["_law_masks_here","_law_k"] f40 d40)
    (D41:DefAt K mg "_law_due" EE ["_law_ends","_law_rows"] f41 d41)
    (D42:DefAt K mg "_law_lies_above" Bz ["_law_ends","_law_rows","_law_found"] f42 d42)
    (D43:DefAt K mg "_law_right" C9 ["_law_weave_here","_law_ends","_law_rows"] f43 d43)
    (D44:DefAt K mg "law" N2 ["_law_script"] f44 d44)
    (hlb:∀ (s:Shared) (u:Value),BindsTo s d44 ⟨[u],[]⟩ [("_law_script",u)])
    : ∃ fd:FuncData,(∀ (s:Shared) (v:Value),BindsTo s fd ⟨[v],[]⟩ [("_law_script",v)])/\∀ base:Heap,K.In base->base.Ns mainGlobals mg->FnOk l.prog w K mg base CX0 9 fa fd ["_law_script"] (Ky K):=by
  cases hfa.symm.trans D44.at';have T:=T0;exact ⟨_,hlb,λ base _ _=>by
    have c_bit_of:=D0.call (L0 (P:=l.prog) (w:=w) (base:=base) D0.fn T);have c_mask_of:=D1.call (J4 (P:=l.prog) (w:=w) (base:=base) D1.fn T c_bit_of);have c_mask_to:=D2.call (JF (P:=l.prog) (w:=w) (base:=base) D2.fn T);have c_has_number:=D3.call (Ha (P:=l.prog) (w:=w) (base:=base) D3.fn T c_bit_of);have c_numbers_of:=D4.call (Hm (P:=l.prog) (w:=w) (base:=base) D4.fn T c_has_number);have c_other_mask:=D5.call (G5 (P:=l.prog) (w:=w) (base:=base) D5.fn T c_mask_to);have c_is_whole:=D6.call (IW (P:=l.prog) (w:=w) (base:=base) D6.fn T);have c_is_among:=D7.call (IL (P:=l.prog) (w:=w) (base:=base) D7.fn T c_is_whole);have c_need_cloth:=D8.call (G7 (P:=l.prog) (w:=w) (base:=base) D8.fn T c_is_among c_mask_to);have m_Cloth:Lc l.prog w K mg base "Cloth" C_Cloth 4 ["self","ends","rows"] _:=⟨_,_,T.g_Cloth,j9,EL (P:=l.prog) (w:=w) (base:=base) D9.fn T c_need_cloth,D9.bi⟩;have d_Cloth_ends:Cl l.prog w K mg base C_Cloth "ends" 1 ["self"] _:=⟨_,_,T.kd_Cloth.cl,j10,Hh (P:=l.prog) (w:=w) (base:=base) D10.fn T,D10.bi⟩;have d_Cloth_picks:Cl l.prog w K mg base C_Cloth "picks" 1 ["self"] _:=⟨_,_,T.kd_Cloth.cl,j11,Gv (P:=l.prog) (w:=w) (base:=base) D11.fn T,D11.bi⟩;have d_Cloth_column_at:Cl l.prog w K mg base C_Cloth "column_at" 3 ["self","end"] _:=⟨_,_,T.kd_Cloth.cl,j12,EG (P:=l.prog) (w:=w) (base:=base) D12.fn T c_mask_of c_has_number,D12.bi⟩;have c_end_threads:=D13.call (GQ (P:=l.prog) (w:=w) (base:=base) D13.fn T);have c_pick_threads:=D14.call (FO (P:=l.prog) (w:=w) (base:=base) D14.fn T);have c_threads_of:=D15.call (Hq (P:=l.prog) (w:=w) (base:=base) D15.fn T c_end_threads c_pick_threads d_Cloth_ends d_Cloth_picks);have d_Cloth_row_at:Cl l.prog w K mg base C_Cloth "row_at" 1 ["self","pick"] _:=⟨_,_,T.kd_Cloth.cl,j16,FI (P:=l.prog) (w:=w) (base:=base) D16.fn T,D16.bi⟩;have c_over_of:=D17.call (Kg (P:=l.prog) (w:=w) (base:=base) D17.fn T c_end_threads c_pick_threads c_numbers_of c_other_mask d_Cloth_row_at d_Cloth_column_at d_Cloth_picks);have c_overs_of:=D18.call (IK (P:=l.prog) (w:=w) (base:=base) D18.fn T c_threads_of c_over_of);have c_threads_ahead:=D19.call (Fh (P:=l.prog) (w:=w) (base:=base) D19.fn T);have c__law_mixed:=D21.call (Hk (P:=l.prog) (w:=w) (base:=base) D21.fn T);have c__law_cell_at:=D22.call (FE (P:=l.prog) (w:=w) (base:=base) D22.fn T);have c__law_turned:=D23.call (Gb (P:=l.prog) (w:=w) (base:=base) D23.fn T);have c__law_told_over:=D24.call (EV (P:=l.prog) (w:=w) (base:=base) D24.fn T c__law_mixed c__law_cell_at);have c__law_laid:=D25.call (Iy (P:=l.prog) (w:=w) (base:=base) D25.fn T c__law_mixed c__law_cell_at);have c__law_steps:=D26.call (Hb (P:=l.prog) (w:=w) (base:=base) D26.fn T c__law_turned);have c__law_weave:=D27.call (Hg (P:=l.prog) (w:=w) (base:=base) D27.fn T c__law_mixed c__law_cell_at c__law_told_over c__law_laid c__law_steps);have c__law_threads:=D28.call (FG (P:=l.prog) (w:=w) (base:=base) D28.fn T);have c__law_is_over:=D29.call (FD (P:=l.prog) (w:=w) (base:=base) D29.fn T);have c__law_uppers:=D30.call (GG (P:=l.prog) (w:=w) (base:=base) D30.fn T c__law_threads c__law_is_over);have c_lifted_with:=D32.call (GZ (P:=l.prog) (w:=w) (base:=base) D32.fn T c_overs_of c_threads_ahead);have c_inverted:=D33.call (Jj (P:=l.prog) (w:=w) (base:=base) D33.fn T m_Cloth d_Cloth_ends c_other_mask);have c_hangs:=D34.call (M8 (P:=l.prog) (w:=w) (base:=base) D34.fn T d_Cloth_ends d_Cloth_picks c_lifted_with c_inverted);have c_lifted_layers:=D35.call (Fp (P:=l.prog) (w:=w) (base:=base) D35.fn T c_overs_of c_threads_of c_threads_ahead);have c_is_next:=D36.call (JH (P:=l.prog) (w:=w) (base:=base) D36.fn T);have c_next_place:=D37.call (Hj (P:=l.prog) (w:=w) (base:=base) D37.fn T c_is_next);have c_layers_of:=D38.call (IA (P:=l.prog) (w:=w) (base:=base) D38.fn T c_lifted_layers c_next_place);have c__law_masks:=D39.call (Hl (P:=l.prog) (w:=w) (base:=base) D39.fn T c__law_threads c__law_uppers);have c__law_all_from:=D40.call (Fa (P:=l.prog) (w:=w) (base:=base) D40.fn T);have c__law_due:=D41.call (Js (P:=l.prog) (w:=w) (base:=base) D41.fn T c__law_masks c__law_all_from);have c__law_lies_above:=D42.call (EF (P:=l.prog) (w:=w) (base:=base) D42.fn T);have c__law_right:=D43.call (He (P:=l.prog) (w:=w) (base:=base) D43.fn T c_layers_of c__law_threads c__law_lies_above c__law_due c_hangs (D20.call (CA (P:=l.prog) (w:=w) (base:=base) D20 T 4)) (D31.call (Dv (P:=l.prog) (w:=w) (base:=base) D31 T 4)));exact QR D44.fn T c__law_weave c__law_right c_layers_of c__law_due (D20.call (CA (P:=l.prog) (w:=w) (base:=base) D20 T 4)) m_Cloth
    ⟩
theorem walk {l:PySem.W.OpenLaw} {q:Program} {loose:List Str} {XP:(Str->Option Value)->Heap->Prop} {YP:World->Heap->Prop} {d:DefRec} {K:Params->PySem.W.Frag} (hn:l.most=some 63) (hdf:d.params.defaults=[])
    (hY:∀ (w:World) (h:Heap),YP w h->(K w.params).In h)
    (F:∀ (w:World) (mg:Str->Option Value) (fa:Addr) (h:Heap),(K w.params).In h->h.Ns mainGlobals mg->mg d.name=some (.ref fa)->
      ∃ fd:FuncData,(∀ (s:Shared) (v:Value),BindsTo s fd ⟨[v],[]⟩ [("_law_script",v)])/\∀ base:Heap,(K w.params).In base->base.Ns mainGlobals mg->FnOk l.prog w (K w.params) mg base CX0 9 fa fd ["_law_script"] (Ky (K w.params))):
    PySem.W.WalkO q loose XP YP l.row.toRowW d [] (λ f vs=>PySem.call f vs):=
  L2.walk_of (n:=63) (k:=9) (x:="_law_script") (CX:=λ _=>CX0) (sp:=λ w=>Ky (K w.params)) hn (by decide) hdf ⟨rfl,by decide,by decide⟩ hY F (λ _ _ a ns hl _ hS=>⟨a,ns,rfl,hS,hl,λ _=>rfl⟩) λ _ _ _ _ _ z=>z
end K23
open PySem PySem.W PyProof.Rows
set_option maxRecDepth 100000 in
set_option maxHeartbeats 0 in
theorem PySem.Challenge.cw_loomwright_k23_whole_layers_holds : PySem.Challenge.rw_loomwright_k23_whole_layers.Holds := by
  w_on
  refine PySem.W.holds_law (by first | k_qdec | decide +kernel) λ said=> ?_;refine PySem.W.holds_open (q:=K23.view) (loose:=[]) (Xt:=K23.Xt) (XP:=PySem.W.XL K23.view []) (Yf:=(PySem.W.kHook K23.frag K23.addrs K23.addrs_eq).obs) (Ya:=(PySem.W.kHook K23.frag K23.addrs K23.addrs_eq).val) (YP:=(PySem.W.kHook K23.frag K23.addrs K23.addrs_eq).says) (N:=K23.fuel) K23.left (PySem.W.kHook K23.frag K23.addrs K23.addrs_eq).of (PySem.W.kHook K23.frag K23.addrs K23.addrs_eq).keeps (λ s e=>PySem.W.xl_of s (Bool.and_eq_true_iff.mp e).1) PySem.W.XL.keeps (by rfl) (by rfl) (by rfl) (λ s e=>PySem.W.recFacts_of (Bool.and_eq_true_iff.mp e).2) (by rfl) (by first | assumption | decide +kernel) (by first | k_qdec | decide +kernel) ⟨rfl,rfl,rfl,rfl,rfl,by decide +kernel⟩ ?hw ?hc
  (case hw=>w_witness2)
  k_fill
  refine K23.walk (l:=PySem.Challenge.rw_loomwright_k23_whole_layers) rfl rfl (λ w h Y=>PySem.W.kIn_of Y) ?F
  case F=>
    intro w mg fa h KX G hmg;refine' K23.all_mk KX G hmg ?T ?_ ?_ ?_ ?_ ?_ ?_ ?_ ?_ ?_ ?_ ?_ ?_ ?_ ?_ ?_ ?_ ?_ ?_ ?_ ?_ ?_ ?_ ?_ ?_ ?_ ?_ ?_ ?_ ?_ ?_ ?_ ?_ ?_ ?_ ?_ ?_ ?_ ?_ ?_ ?_ ?_ ?_ ?_ ?_ ?_ ?_ ?_ ?_ ?_ ?_ ?_
    case T=>
      intros
      constructor
      all_goals try dsimp only
      all_goals try ((with_reducible refine' PySem.W.mg_of KX G ?_);k_is)
      all_goals first
        | ((with_reducible refine' L2.own_cons (PySem.W.mg_none_of KX G ?_) ?_) <;> (repeat' first | (with_reducible exact L2.own_nil) | (with_reducible refine' L2.own_cons (PySem.W.mg_none_of KX G ?_) ?_) | k_is))
        | ((with_reducible first | refine' L2.ci_mk (PySem.W.mg_of KX G ?_) | refine' L2.cs_mk (PySem.W.mg_of KX G ?_)) <;> first | k_is | skip)
        | with_reducible assumption
        | (refine' ⟨⟨?_,?_,?_,?_⟩,?_,?_,?_,?_⟩ <;> k_is)
        | ((with_reducible refine' L2.exc_mk ?_ ?_ ?_ ?_ ?_ ?_ ?_ ?_) <;> k_is)
        | (refine' ⟨?_,?_,?_⟩ <;> first | k_is | kernel_rfl)
        | (unfold L2.NoAttr;k_is)
        | k_is | k_exc | kts_exm | kit_is
    all_goals first
      | (refine' L2.def_mk (PySem.W.mg_of KX G ?_) (L2.fun_mk ?_ ?_ ?_) ?_ <;> first | k_is | exact L2.arg1 λ _=>rfl | exact L2.arg2 λ _ _=>rfl | exact L2.arg3 λ _ _ _=>rfl | exact L2.arg4 λ _ _ _ _=>rfl | exact L2.arg5 λ _ _ _ _ _=>rfl | exact L2.arg6 λ _ _ _ _ _ _=>rfl | exact L2.arg7 λ _ _ _ _ _ _ _=>rfl | exact L2.arg8 λ _ _ _ _ _ _ _ _=>rfl | exact L2.arg9 λ _ _ _ _ _ _ _ _ _=>rfl | skip)
      | (refine' L2.fnA_mk (L2.fun_mk ?_ ?_ ?_) ?_ <;> first | k_is | exact L2.arg1 λ _=>rfl | exact L2.arg2 λ _ _=>rfl | exact L2.arg3 λ _ _ _=>rfl | exact L2.arg4 λ _ _ _ _=>rfl | exact L2.arg5 λ _ _ _ _ _=>rfl | exact L2.arg6 λ _ _ _ _ _ _=>rfl | exact L2.arg7 λ _ _ _ _ _ _ _=>rfl | exact L2.arg8 λ _ _ _ _ _ _ _ _=>rfl | exact L2.arg9 λ _ _ _ _ _ _ _ _ _=>rfl | skip)
      | (refine' ⟨?_,?_,?_,?_⟩;all_goals first | k_is | kernel_rfl | skip)
      | (refine' ⟨?_,?_,?_⟩;all_goals first | k_is | kernel_rfl | skip)
      | k_is
      | exact λ s u=> .of_eq rfl
      | rfl | kernel_rfl | exact List.mem_cons_self | decide | skip
