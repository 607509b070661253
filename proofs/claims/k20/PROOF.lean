import PyProof.Rows.All
import Wide.All
import OpenK.AllK
import Wide.FinOn
import Lean
import PyProof.EqAt
import PyProof.EqKinds
import PyProof.TupleCall
import PyProof.StrLawsChain
import KE.KIntText
import PyProof.EnumFor
import PyProof.EnumMake
import PyProof.ZipIter
import PyProof.LayNew
import KE.KTurns
import PyProof.Rows.Range3
import KE.KRevSl
import KE.KDictList
import PyProof.Draws
import PyProof.Rows.RuleM_int
import PyProof.Rows.BitMore
import PyProof.NeKinds
import KE.KRevIter
import PyProof.JoinWalk
import KE.KTryMore
import PyProof.ExcArgs
import OpenK.KOwn
import PyProof.ExcBaseAll.ValueError
import KE.KLam
import KE.KNestM
import PyProof.AttrMissHeap
import KE.KDictOf
import PySem.Challenge.RW_loomwright_k20_repeats_and_sorts
set_option Elab.async false
set_option linter.all false
set_option maxRecDepth 100000
set_option genSizeOf false
set_option bootstrap.genMatcherCode false
set_option compiler.extract_closed false
set_option maxHeartbeats 4000000
noncomputable section
namespace L2
open PySem
def A3 (s:Stmt) (j:Nat):Stmt:=match s with
  | .ClassDef _ _ _ body _ _ _ _ _ _ _=>body.getD j (.Pass ⟨0,0,0,0⟩)
  | _=> .Pass ⟨0,0,0,0⟩
def EU (s:Stmt):Arguments:=match s with
  | .FunctionDef _ a _ _ _ _ _ _ _ _=>a
  | _=>{ posonlyargs:=[],args:=[],vararg:=none,kwonlyargs:=[],kw_defaults:=[],kwarg:=none,defaults:=[] }
def DJ (s:Stmt):List Stmt:=match s with
  | .FunctionDef _ _ b _ _ _ _ _ _ _=>b
  | _=>[]
def Aj (s:Stmt):Scope:=match s with
  | .FunctionDef _ _ _ _ _ _ sc _ _ _=>sc
  | _=>{ kind:= .function,names:=[],isGenerator:=false,isCoroutine:=false }
end L2
namespace K20
open PySem
def top (i:Nat):Stmt:=PySem.Challenge.pw_loomwright_k20_repeats_and_sorts.main.body.getD i (.Pass ⟨0,0,0,0⟩)
end K20
namespace HX
open PySem PySem.W PySem.Calls PyProof.Rows
def topT (tb:String->Option Builtin) (p:Program) (w:World) (n₀:Nat) (ann:Option Value):Nat->SharedT->Thread->Option SharedT
  | 0,_,_=>none
  | n+1,s,t=>match through t with
    | true=>some s
    | false=>match stepOk n₀ ann t with
      | false=>none
      | true=>match stepT (denote tb) p w s t with
        | some (s',t')=>topT tb p w n₀ ann n s' t'
        | none=>none
theorem topT_of {tb:String->Option Builtin} {p:Program} {w:World} {n₀:Nat} {ann:Option Value}:∀ {n:Nat} {s s':SharedT} {t:Thread},topT tb p w n₀ ann n s t=some s'->topRun tb p w n₀ ann n s.abs t=some s'.abs
  | 0,_,_,_,h=>by cases h
  | n+1,s,s',t,h=>by
    unfold topT at h;unfold topRun;cases ht:through t with
    | true=>rw [ht] at h;cases h;rfl
    | false=>
      rw [ht] at h;cases hk:stepOk n₀ ann t with
      | false=>rw [hk] at h;cases h
      | true=>
        rw [hk] at h;cases hs:stepT (denote tb) p w s t with
        | none=>rw [hs] at h;cases h
        | some x=>
          obtain ⟨s2,t2⟩:=x;rw [hs] at h;dsimp only;rw [stepT_spec hs];exact topT_of h
def ofL:List Obj->Nat->BT->BT
  | [],_,t=>t
  | o::r,i,t=>ofL r (i+1) (t.ins i o)
def bootT (P:Params):BT:=ofL (boot_heap P).objs.toList 0 .nil
theorem left_run {p q:Program} {loose:List Str} {Xt:Shared->Bool} {α:Type} {Yf:Shared->α} {Ya:World->α} {N:Nat} {g0:Bool}
    (e:opening p=plainProg p.main.scope.names) (hN:Nat.ble 600 N=true) (f:∀ s,fenceModules? p s=some s)
    (hb:∀ P:Params,(absHeap (bootT P) 11 {},boot_drawn,(boot_heap P).isNs mainGlobals,(boot_heap P).objs.size,(boot_heap P).nsMap mainGlobals "__annotations__")=(boot_heap P,boot_drawn,true,11,some (.ref 6)))
    (run:∀ (w:World) (os:OsState),∃ s:Shared,topRun treeTable p w 11 (some (.ref 6)) N (⟨bootT w.params,11,{},Array.mk [],boot_drawn,boot_toks,os⟩:SharedT).abs (topStub p)=some s/\((staticsOk (importedModules p.main.body) (boot_heap w.params) s.heap&&namesBound p s.heap&&gensDone s&&laidKept (boot_heap w.params) s.heap),openSeen q loose (importedModules p.main.body) Xt g0 s,Yf s)=(true,openGood q loose,Ya w)):LeftO p q loose Xt Yf Ya N g0:=λ w=>by
  obtain ⟨⟨h,gs,d,k,os⟩,e1,e'⟩:=Option.map_eq_some_iff.mp (boot_open (p:=p) (N:=N) e hN f w);obtain ⟨rfl,rfl,rfl,rfl⟩:h=boot_heap w.params/\gs=Array.mk []/\d=boot_drawn/\k=boot_toks:=by simpa using e'
  have hb':=hb w.params;simp only [Prod.mk.injEq] at hb';obtain ⟨b1,_,b2,b3,b4⟩:=hb';obtain ⟨s,r,l⟩:=run w os;obtain ⟨l1,l2,l3⟩:_/\_/\_:=by simpa only [Prod.mk.injEq] using l
  have b0:(⟨bootT w.params,11,{},Array.mk [],boot_drawn,boot_toks,os⟩:SharedT).abs=⟨boot_heap w.params,Array.mk [],boot_drawn,boot_toks,os⟩:=by
    show (⟨absHeap (bootT w.params) 11 {},_,_,_,_⟩:Shared)=_;rw [b1]
  rw [b0] at r;have t:topFrom treeTable p w N ⟨boot_heap w.params,Array.mk [],boot_drawn,boot_toks,os⟩=some s:=by
    unfold topFrom;dsimp only;rw [b2,b3,b4];show Option.bind (topRun treeTable p w 11 (some (.ref 6)) N ⟨boot_heap w.params,Array.mk [],boot_drawn,boot_toks,os⟩ (topStub p)) _=_;rw [r];show (match staticsOk (importedModules p.main.body) (boot_heap w.params) s.heap&&namesBound p s.heap&&gensDone s&&laidKept (boot_heap w.params) s.heap with | true=>_ | false=>_)=_;rw [l1]
  unfold openEnds;rw [e1];show (topFrom treeTable p w N _).map _=_;rw [t];exact congrArg some (Prod.ext l2 l3)
theorem three {α β γ:Type} {a a':α} {b b':β} {c c':γ} (h:(a,c)=(a',c')) (k:b=b'):(a,b,c)=(a',b',c'):=by
  cases h;cases k;rfl
theorem hb (P:Params):(absHeap (bootT P) 11 {},boot_drawn,(boot_heap P).isNs mainGlobals,(boot_heap P).objs.size,(boot_heap P).nsMap mainGlobals "__annotations__")=(boot_heap P,boot_drawn,true,11,some (.ref 6)):=by kernel_rfl
end HX
namespace K20
open PySem L2 PySem.W PySem.Calls PyProof.Rows
abbrev Ob:=Params->Obj
abbrev dE (P:Params) (s:Str) (t:Tok) (v:Value):DictEntry:=⟨PyData.keyHash P s, .str s t,v⟩
abbrev dR (P:Params) (s:Str) (t:Tok) (a:Addr):DictEntry:=⟨PyData.keyHash P s, .str s t, .ref a⟩
abbrev tu (xs:Array Value):Obj:=⟨.type "tuple",none, .seq xs 0, #[]⟩
abbrev di (es:Array DictEntry) (n:Nat):Obj:=⟨.type "dict",none, .dict es n, #[]⟩
abbrev fo (n q:Str) (st:Stmt) (m:Str) (t:Tok) (c:Addr):Obj:=⟨.type "function",none, .func (fnOf n q (EU st) (DJ st) (Aj st) .none .none .none (.str m t) none (.ref c) .none), #[]⟩
abbrev co (n q:Str) (t:Tok) (l ac nl:Int) (a:Addr) (b:Bool) (r:Addr) (c d e:Value) (k:Int) (t4:Tok):Obj:=⟨.type "code",none, .fields #[.str n t, .str q (t+1), .str "/claim/cut.py" (t+2), .int l 0, .int ac 0, .int 0 0, .int 0 0, .int nl 0, .ref a, .bool b, .int 181 0, .ref r, .none,c,d,e, .int k 0, .int l 0, .str "/claim/cut.py" t4], #[]⟩
def o3:Ob:=λ P=>di #[dE P "__name__" 165 (.str "law_loomwright_k20_repeats_and_sorts" 471),dE P "__doc__" 166 .none,dE P "__package__" 167 .none,dE P "__loader__" 168 (.builtin "__main__.__loader__#opaque"),dE P "__spec__" 169 .none,dR P "__annotations__" 170 6,dR P "__builtins__" 171 4,dE P "__file__" 173 (.str "/claim/cut.py" 172),dE P "__cached__" 174 .none,dR P "_wall" 193 21,dE P "MOST_ENDS" 195 (.int 60 194),dE P "MOST_PICKS" 197 (.int 60 196),dR P "LoomError" 217 31,dR P "BadCloth" 233 44,dR P "bit_of" 242 53,dR P "mask_of" 251 60,dR P "mask_to" 258 67,dR P "has_number" 266 74,dR P "numbers_of" 272 79,dR P "is_whole" 281 86,dR P "is_among" 290 93,dR P "need_cloth" 298 98,dR P "Cloth" 373 155,dR P "columns_of" 381 164,dE P "LEAST_TWILL" 385 (.int 3 384),dE P "LEAST_SATIN" 387 (.int 5 386),dR P "least_told_over" 396 171,dR P "least_repeat" 403 178,dR P "turned_right" 412 185,dR P "is_step" 418 190,dR P "step_of" 426 197,dR P "repeat_cloth" 432 202,dR P "is_plain" 439 209,dR P "is_twill" 447 216,dR P "has_lone_ends" 453 221,dR P "is_satin" 462 228,dR P "sort_of" 470 235,dR P "_law_mixed" 481 242,dR P "_law_cell_at" 489 249,dR P "_law_alike" 495 254,dR P "_law_turned" 504 261,dR P "_law_told_over" 510 266,dR P "_law_laid" 516 271,dR P "_law_steps" 528 278,dR P "_law_weave" 534 283,dR P "_law_columns" 540 288,dR P "_law_gaps" 546 293,dR P "_law_least" 554 300,dR P "_law_step" 560 305,dR P "_law_sort" 566 310,dR P "_law_right" 576 317,dR P "law" 587 324] 52
def o20:Ob:=λ P=>co "_wall" "_wall" 187 1 1 3 15 true 16 (.ref 17) (.ref 18) (.ref 19) 191 192
def o21:Ob:=λ P=>fo "_wall" "_wall" (top 0) "__main__" 164 20
def o22:Ob:=λ P=>tu #[(.type "ValueError")]
def o29:Ob:=λ P=>tu #[]
def o30:Ob:=λ P=>di #[dE P "__module__" 207 (.str "loomwright.errors" 198),dE P "__firstlineno__" 211 (.int 7 210),dR P "__static_attributes__" 212 29,dR P "__weakref__" 214 32,dE P "__doc__" 215 .none] 3
def o31:Ob:=λ P=>⟨(.type "type"),none,(.cls ⟨"LoomError",[(.type "ValueError")],[(.ref 31),(.type "ValueError"),(.type "Exception"),(.type "BaseException"),(.type "object")],30,"LoomError",true,[],[(.ref 44)],false,none,false⟩), #[(some (.ref 22)),none,(some (.str "LoomError" 200)),(some (.str "LoomError" 208)),(some (.builtin "ValueError.__new__")),(some (.bool true))]⟩
def o32:Ob:=λ P=>⟨(.type "getset_descriptor"),none,(.fields #[(.str "__weakref__" 213),(.ref 31),(.builtin "ExceptionGroup.__weakref__"), .none]), #[]⟩
def o35:Ob:=λ P=>tu #[(.ref 31)]
def o42:Ob:=λ P=>tu #[]
def o43:Ob:=λ P=>di #[dE P "__module__" 225 (.str "loomwright.errors" 198),dE P "__firstlineno__" 229 (.int 9 228),dR P "__static_attributes__" 230 42,dE P "__doc__" 231 .none] 2
def o44:Ob:=λ P=>⟨(.type "type"),none,(.cls ⟨"BadCloth",[(.ref 31)],[(.ref 44),(.ref 31),(.type "ValueError"),(.type "Exception"),(.type "BaseException"),(.type "object")],43,"BadCloth",true,[],[],false,none,false⟩), #[(some (.ref 35)),none,(some (.str "BadCloth" 218)),(some (.str "BadCloth" 226)),(some (.builtin "ValueError.__new__")),(some (.bool true))]⟩
def o52:Ob:=λ P=>co "bit_of" "bit_of" 236 12 1 3 47 true 48 (.ref 49) (.ref 50) (.ref 51) 240 241
def o53:Ob:=λ P=>fo "bit_of" "bit_of" (top 7) "loomwright.masks" 234 52
def o59:Ob:=λ P=>co "mask_of" "mask_of" 243 14 1 3 54 true 55 (.ref 56) (.ref 57) (.ref 58) 249 250
def o60:Ob:=λ P=>fo "mask_of" "mask_of" (top 8) "loomwright.masks" 234 59
def o66:Ob:=λ P=>co "mask_to" "mask_to" 252 19 1 3 61 true 62 (.ref 63) (.ref 64) (.ref 65) 256 257
def o67:Ob:=λ P=>fo "mask_to" "mask_to" (top 9) "loomwright.masks" 234 66
def o73:Ob:=λ P=>co "has_number" "has_number" 259 21 2 3 68 true 69 (.ref 70) (.ref 71) (.ref 72) 264 265
def o74:Ob:=λ P=>fo "has_number" "has_number" (top 10) "loomwright.masks" 234 73
def o78:Ob:=λ P=>co "numbers_of" "numbers_of" 267 23 1 3 75 true 76 .none .none (.ref 77) 270 271
def o79:Ob:=λ P=>fo "numbers_of" "numbers_of" (top 11) "loomwright.masks" 234 78
def o85:Ob:=λ P=>co "is_whole" "is_whole" 275 26 1 3 80 true 81 (.ref 82) (.ref 83) (.ref 84) 279 280
def o86:Ob:=λ P=>fo "is_whole" "is_whole" (top 13) "loomwright.words" 273 85
def o92:Ob:=λ P=>co "is_among" "is_among" 282 28 3 3 87 true 88 (.ref 89) (.ref 90) (.ref 91) 288 289
def o93:Ob:=λ P=>fo "is_among" "is_among" (top 14) "loomwright.words" 273 92
def o97:Ob:=λ P=>co "need_cloth" "need_cloth" 293 31 2 3 94 true 95 .none .none (.ref 96) 296 297
def o98:Ob:=λ P=>fo "need_cloth" "need_cloth" (top 16) "loomwright.cloth" 291 97
def Qi:Ob:=λ P=>co "__init__" "Cloth.__init__" 311 40 3 3 106 true 107 (.ref 108) (.ref 109) (.ref 110) 317 318
def Pd:Ob:=λ P=>fo "__init__" "Cloth.__init__" (A3 (top 17) 0) "loomwright.cloth" 291 111
def PD:Ob:=λ P=>co "told" "Cloth.told" 320 45 1 3 113 true 114 (.ref 115) (.ref 116) (.ref 117) 324 325
def Pj:Ob:=λ P=>fo "told" "Cloth.told" (A3 (top 17) 1) "loomwright.cloth" 291 118
def PU:Ob:=λ P=>co "ends" "Cloth.ends" 327 48 1 3 120 true 121 (.ref 122) (.ref 123) (.ref 124) 331 332
def Pb:Ob:=λ P=>fo "ends" "Cloth.ends" (A3 (top 17) 2) "loomwright.cloth" 291 125
def Pl:Ob:=λ P=>co "picks" "Cloth.picks" 334 51 1 3 127 true 128 (.ref 129) (.ref 130) (.ref 131) 338 339
def PX:Ob:=λ P=>fo "picks" "Cloth.picks" (A3 (top 17) 3) "loomwright.cloth" 291 132
def Qv:Ob:=λ P=>co "row_at" "Cloth.row_at" 341 54 2 3 134 true 135 (.ref 136) (.ref 137) (.ref 138) 346 347
def Qf:Ob:=λ P=>fo "row_at" "Cloth.row_at" (A3 (top 17) 4) "loomwright.cloth" 291 139
def P1:Ob:=λ P=>co "column_at" "Cloth.column_at" 349 57 2 3 141 true 142 .none .none (.ref 143) 352 353
def PJ:Ob:=λ P=>fo "column_at" "Cloth.column_at" (A3 (top 17) 5) "loomwright.cloth" 291 144
def Qw:Ob:=λ P=>co "is_up" "Cloth.is_up" 355 60 3 3 146 true 147 (.ref 148) (.ref 149) (.ref 150) 361 362
def QI:Ob:=λ P=>fo "is_up" "Cloth.is_up" (A3 (top 17) 6) "loomwright.cloth" 291 151
def Qu:Ob:=λ P=>tu #[(.str "rows" 364),(.str "width" 365)]
def Qp:Ob:=λ P=>di #[dE P "__module__" 306 (.str "loomwright.cloth" 291),dE P "__firstlineno__" 310 (.int 38 309),dR P "__init__" 319 112,dR P "told" 326 119,dR P "ends" 333 126,dR P "picks" 340 133,dR P "row_at" 348 140,dR P "column_at" 354 145,dR P "is_up" 363 152,dR P "__static_attributes__" 366 153,dR P "__dict__" 368 156,dR P "__weakref__" 370 157,dE P "__doc__" 371 .none] 4
def Qx:Ob:=λ P=>⟨(.type "type"),none,(.cls ⟨"Cloth",[(.type "object")],[(.ref 155),(.type "object")],154,"Cloth",true,[],[],false,none,false⟩), #[none,none,(some (.str "Cloth" 299)),(some (.str "Cloth" 307)),(some (.builtin "object.__new__")),(some (.bool true))]⟩
def PP:Ob:=λ P=>⟨(.type "getset_descriptor"),none,(.fields #[(.str "__dict__" 367),(.ref 155),(.builtin "function.__dict__"),(.builtin "function.__dict__#set")]), #[]⟩
def Pn:Ob:=λ P=>⟨(.type "getset_descriptor"),none,(.fields #[(.str "__weakref__" 369),(.ref 155),(.builtin "ExceptionGroup.__weakref__"), .none]), #[]⟩
def Qd:Ob:=λ P=>co "columns_of" "columns_of" 376 63 1 3 160 true 161 .none .none (.ref 162) 379 380
def Pu:Ob:=λ P=>fo "columns_of" "columns_of" (top 19) "loomwright.readoff" 374 163
def Pf:Ob:=λ P=>co "least_told_over" "least_told_over" 388 68 1 3 165 true 166 (.ref 167) (.ref 168) (.ref 169) 394 395
def QG:Ob:=λ P=>fo "least_told_over" "least_told_over" (top 23) "loomwright.repeats" 382 170
def Px:Ob:=λ P=>co "least_repeat" "least_repeat" 397 74 1 3 172 true 173 (.ref 174) (.ref 175) (.ref 176) 401 402
def Ql:Ob:=λ P=>fo "least_repeat" "least_repeat" (top 24) "loomwright.repeats" 382 177
def Qn:Ob:=λ P=>co "turned_right" "turned_right" 404 76 3 3 179 true 180 (.ref 181) (.ref 182) (.ref 183) 410 411
def Pm:Ob:=λ P=>fo "turned_right" "turned_right" (top 25) "loomwright.repeats" 382 184
def Pw:Ob:=λ P=>co "is_step" "is_step" 413 78 2 3 186 true 187 .none .none (.ref 188) 416 417
def QD:Ob:=λ P=>fo "is_step" "is_step" (top 26) "loomwright.repeats" 382 189
def PF:Ob:=λ P=>co "step_of" "step_of" 419 82 1 3 191 true 192 (.ref 193) (.ref 194) (.ref 195) 424 425
def Qs:Ob:=λ P=>fo "step_of" "step_of" (top 27) "loomwright.repeats" 382 196
def QJ:Ob:=λ P=>co "repeat_cloth" "repeat_cloth" 427 87 1 3 198 true 199 .none .none (.ref 200) 430 431
def QB:Ob:=λ P=>fo "repeat_cloth" "repeat_cloth" (top 28) "loomwright.repeats" 382 201
def Qe:Ob:=λ P=>co "is_plain" "is_plain" 433 90 1 3 203 true 204 (.ref 205) (.ref 206) (.ref 207) 437 438
def Qz:Ob:=λ P=>fo "is_plain" "is_plain" (top 29) "loomwright.repeats" 382 208
def Qm:Ob:=λ P=>co "is_twill" "is_twill" 440 92 1 3 210 true 211 (.ref 212) (.ref 213) (.ref 214) 445 446
def PK:Ob:=λ P=>fo "is_twill" "is_twill" (top 30) "loomwright.repeats" 382 215
def QF:Ob:=λ P=>co "has_lone_ends" "has_lone_ends" 448 95 1 3 217 true 218 .none .none (.ref 219) 451 452
def Qy:Ob:=λ P=>fo "has_lone_ends" "has_lone_ends" (top 31) "loomwright.repeats" 382 220
def QE:Ob:=λ P=>co "is_satin" "is_satin" 454 98 1 3 222 true 223 (.ref 224) (.ref 225) (.ref 226) 460 461
def PZ:Ob:=λ P=>fo "is_satin" "is_satin" (top 32) "loomwright.repeats" 382 227
def Pi:Ob:=λ P=>co "sort_of" "sort_of" 463 104 1 3 229 true 230 (.ref 231) (.ref 232) (.ref 233) 468 469
def QH:Ob:=λ P=>fo "sort_of" "sort_of" (top 33) "loomwright.repeats" 382 234
def Py:Ob:=λ P=>co "_law_mixed" "_law_mixed" 473 114 2 3 236 true 237 (.ref 238) (.ref 239) (.ref 240) 479 480
def P2:Ob:=λ P=>fo "_law_mixed" "_law_mixed" (top 35) "law_loomwright_k20_repeats_and_sorts" 471 241
def QK:Ob:=λ P=>co "_law_cell_at" "_law_cell_at" 482 117 2 3 243 true 244 (.ref 245) (.ref 246) (.ref 247) 487 488
def Pq:Ob:=λ P=>fo "_law_cell_at" "_law_cell_at" (top 36) "law_loomwright_k20_repeats_and_sorts" 471 248
def Pk:Ob:=λ P=>co "_law_alike" "_law_alike" 490 119 2 3 250 true 251 .none .none (.ref 252) 493 494
def Ps:Ob:=λ P=>fo "_law_alike" "_law_alike" (top 37) "law_loomwright_k20_repeats_and_sorts" 471 253
def Pp:Ob:=λ P=>co "_law_turned" "_law_turned" 496 125 3 3 255 true 256 (.ref 257) (.ref 258) (.ref 259) 502 503
def P5:Ob:=λ P=>fo "_law_turned" "_law_turned" (top 38) "law_loomwright_k20_repeats_and_sorts" 471 260
def PV:Ob:=λ P=>co "_law_told_over" "_law_told_over" 505 127 3 3 262 true 263 .none .none (.ref 264) 508 509
def P4:Ob:=λ P=>fo "_law_told_over" "_law_told_over" (top 39) "law_loomwright_k20_repeats_and_sorts" 471 265
def P3:Ob:=λ P=>co "_law_laid" "_law_laid" 511 132 4 3 267 true 268 .none .none (.ref 269) 514 515
def P9:Ob:=λ P=>fo "_law_laid" "_law_laid" (top 40) "law_loomwright_k20_repeats_and_sorts" 471 270
def Pt:Ob:=λ P=>co "_law_steps" "_law_steps" 517 145 3 3 272 true 273 (.ref 274) (.ref 275) (.ref 276) 526 527
def Pe:Ob:=λ P=>fo "_law_steps" "_law_steps" (top 41) "law_loomwright_k20_repeats_and_sorts" 471 277
def Pz:Ob:=λ P=>co "_law_weave" "_law_weave" 529 152 2 3 279 true 280 .none .none (.ref 281) 532 533
def Qk:Ob:=λ P=>fo "_law_weave" "_law_weave" (top 42) "law_loomwright_k20_repeats_and_sorts" 471 282
def Pg:Ob:=λ P=>co "_law_columns" "_law_columns" 535 167 2 3 284 true 285 .none .none (.ref 286) 538 539
def Qg:Ob:=λ P=>fo "_law_columns" "_law_columns" (top 43) "law_loomwright_k20_repeats_and_sorts" 471 287
def Qt:Ob:=λ P=>co "_law_gaps" "_law_gaps" 541 169 2 3 289 true 290 .none .none (.ref 291) 544 545
def PM:Ob:=λ P=>fo "_law_gaps" "_law_gaps" (top 44) "law_loomwright_k20_repeats_and_sorts" 471 292
def Qr:Ob:=λ P=>co "_law_least" "_law_least" 547 171 1 3 294 true 295 (.ref 296) (.ref 297) (.ref 298) 552 553
def P7:Ob:=λ P=>fo "_law_least" "_law_least" (top 45) "law_loomwright_k20_repeats_and_sorts" 471 299
def PL:Ob:=λ P=>co "_law_step" "_law_step" 555 176 2 3 301 true 302 .none .none (.ref 303) 558 559
def P6:Ob:=λ P=>fo "_law_step" "_law_step" (top 46) "law_loomwright_k20_repeats_and_sorts" 471 304
def Po:Ob:=λ P=>co "_law_sort" "_law_sort" 561 183 2 3 306 true 307 .none .none (.ref 308) 564 565
def Ph:Ob:=λ P=>fo "_law_sort" "_law_sort" (top 47) "law_loomwright_k20_repeats_and_sorts" 471 309
def Qo:Ob:=λ P=>co "_law_right" "_law_right" 567 199 3 3 311 true 312 (.ref 313) (.ref 314) (.ref 315) 574 575
def Pc:Ob:=λ P=>fo "_law_right" "_law_right" (top 48) "law_loomwright_k20_repeats_and_sorts" 471 316
def Qb:Ob:=λ P=>co "law" "law" 577 204 1 3 318 true 319 (.ref 320) (.ref 321) (.ref 322) 585 586
def Pr:Ob:=λ P=>fo "law" "law" (top 49) "law_loomwright_k20_repeats_and_sorts" 471 323
def frag (P:Params):Frag:=(nat_lit 2,boot_o_2 P)::(nat_lit 3,o3 P)::(nat_lit 20,o20 P)::(nat_lit 21,o21 P)::(nat_lit 22,o22 P)::(nat_lit 29,o29 P)::(nat_lit 30,o30 P)::(nat_lit 31,o31 P)::(nat_lit 32,o32 P)::(nat_lit 35,o35 P)::(nat_lit 42,o42 P)::(nat_lit 43,o43 P)::(nat_lit 44,o44 P)::(nat_lit 52,o52 P)::(nat_lit 53,o53 P)::(nat_lit 59,o59 P)::(nat_lit 60,o60 P)::(nat_lit 66,o66 P)::(nat_lit 67,o67 P)::(nat_lit 73,o73 P)::(nat_lit 74,o74 P)::(nat_lit 78,o78 P)::(nat_lit 79,o79 P)::(nat_lit 85,o85 P)::(nat_lit 86,o86 P)::(nat_lit 92,o92 P)::(nat_lit 93,o93 P)::(nat_lit 97,o97 P)::(nat_lit 98,o98 P)::(nat_lit 111,Qi P)::(nat_lit 112,Pd P)::(nat_lit 118,PD P)::(nat_lit 119,Pj P)::(nat_lit 125,PU P)::(nat_lit 126,Pb P)::(nat_lit 132,Pl P)::(nat_lit 133,PX P)::(nat_lit 139,Qv P)::(nat_lit 140,Qf P)::(nat_lit 144,P1 P)::(nat_lit 145,PJ P)::(nat_lit 151,Qw P)::(nat_lit 152,QI P)::(nat_lit 153,Qu P)::(nat_lit 154,Qp P)::(nat_lit 155,Qx P)::(nat_lit 156,PP P)::(nat_lit 157,Pn P)::(nat_lit 163,Qd P)::(nat_lit 164,Pu P)::(nat_lit 170,Pf P)::(nat_lit 171,QG P)::(nat_lit 177,Px P)::(nat_lit 178,Ql P)::(nat_lit 184,Qn P)::(nat_lit 185,Pm P)::(nat_lit 189,Pw P)::(nat_lit 190,QD P)::(nat_lit 196,PF P)::(nat_lit 197,Qs P)::(nat_lit 201,QJ P)::(nat_lit 202,QB P)::(nat_lit 208,Qe P)::(nat_lit 209,Qz P)::(nat_lit 215,Qm P)::(nat_lit 216,PK P)::(nat_lit 220,QF P)::(nat_lit 221,Qy P)::(nat_lit 227,QE P)::(nat_lit 228,PZ P)::(nat_lit 234,Pi P)::(nat_lit 235,QH P)::(nat_lit 241,Py P)::(nat_lit 242,P2 P)::(nat_lit 248,QK P)::(nat_lit 249,Pq P)::(nat_lit 253,Pk P)::(nat_lit 254,Ps P)::(nat_lit 260,Pp P)::(nat_lit 261,P5 P)::(nat_lit 265,PV P)::(nat_lit 266,P4 P)::(nat_lit 270,P3 P)::(nat_lit 271,P9 P)::(nat_lit 277,Pt P)::(nat_lit 278,Pe P)::(nat_lit 282,Pz P)::(nat_lit 283,Qk P)::(nat_lit 287,Pg P)::(nat_lit 288,Qg P)::(nat_lit 292,Qt P)::(nat_lit 293,PM P)::(nat_lit 299,Qr P)::(nat_lit 300,P7 P)::(nat_lit 304,PL P)::(nat_lit 305,P6 P)::(nat_lit 309,Po P)::(nat_lit 310,Ph P)::(nat_lit 316,Qo P)::(nat_lit 317,Pc P)::(nat_lit 323,Qb P)::(nat_lit 324,Pr P)::[]
def addrs:List Addr:=[2,3,20,21,22,29,30,31,32,35,42,43,44,52,53,59,60,66,67,73,74,78,79,85,86,92,93,97,98,111,112,118,119,125,126,132,133,139,140,144,145,151,152,153,154,155,156,157,163,164,170,171,177,178,184,185,189,190,196,197,201,202,208,209,215,216,220,221,227,228,234,235,241,242,248,249,253,254,260,261,265,266,270,271,277,278,282,283,287,288,292,293,299,300,304,305,309,310,316,317,323,324]
def view:Program:={ PySem.Challenge.pw_loomwright_k20_repeats_and_sorts with main:={ PySem.Challenge.pw_loomwright_k20_repeats_and_sorts.main with body:=[top 0,top 1,top 2,top 4,top 5,top 7,top 8,top 9,top 10,top 11,top 13,top 14,top 16,top 17,top 19,top 21,top 22,top 23,top 24,top 25,top 26,top 27,top 28,top 29,top 30,top 31,top 32,top 33,top 35,top 36,top 37,top 38,top 39,top 40,top 41,top 42,top 43,top 44,top 45,top 46,top 47,top 48,top 49] } }
abbrev Xt:Shared->Bool:=λ s=>xlAt view [] s&&recOk (RowW.records PySem.Challenge.rw_loomwright_k20_repeats_and_sorts.row.toRowW) s
theorem addrs_eq:∀ P:Params,addrs=(frag P).map (·.1):=λ _=>by kernel_rfl
abbrev hook:Hook:=kHook frag addrs addrs_eq
abbrev fuel:Nat:=4010
def _root_.PySem.W.Fast.tw1274428640345488643:Program:=PySem.Challenge.pw_loomwright_k20_repeats_and_sorts
theorem _root_.PySem.W.Fast.te1274428640345488643:PySem.Challenge.pw_loomwright_k20_repeats_and_sorts=PySem.W.Fast.tw1274428640345488643:=rfl
theorem ON:(λ _=>true) (HX.topT treeTable)=true:=by k_qdec
theorem wsaid:PySem.Challenge.rw_loomwright_k20_repeats_and_sorts.wellSaid=true:=by k_qdec
theorem Pa (w:World) (os:OsState):(HX.topT treeTable PySem.Challenge.pw_loomwright_k20_repeats_and_sorts w 11 (some (.ref 6)) fuel ⟨HX.bootT w.params,11,{},Array.mk [],boot_drawn,boot_toks,os⟩ (topStub PySem.Challenge.pw_loomwright_k20_repeats_and_sorts)).map (λ s=>((staticsOk (importedModules PySem.Challenge.pw_loomwright_k20_repeats_and_sorts.main.body) (boot_heap w.params) s.abs.heap&&namesBound PySem.Challenge.pw_loomwright_k20_repeats_and_sorts s.abs.heap&&gensDone s.abs&&laidKept (boot_heap w.params) s.abs.heap),addrs.map s.abs.heap.get?))=some (true,((frag w.params).map λ p=>some p.2)):=by
  have _tw:=ON;rw [PySem.W.Fast.te5923862056798008813,PySem.W.Fast.te14364793385576792824,PySem.W.Fast.te9621378704136392807];kernel_rfl
theorem Qh (w:World) (os:OsState):(HX.topT treeTable PySem.Challenge.pw_loomwright_k20_repeats_and_sorts w 11 (some (.ref 6)) fuel ⟨HX.bootT w.params,11,{},Array.mk [],boot_drawn,boot_toks,os⟩ (topStub PySem.Challenge.pw_loomwright_k20_repeats_and_sorts)).map (λ s=>(openSeen view [] (importedModules PySem.Challenge.pw_loomwright_k20_repeats_and_sorts.main.body) Xt true s.abs))=some (openGood view []):=by
  unfold Xt;rw [PySem.W.Fast.te5923862056798008813,PySem.W.Fast.te4187177175401517315,PySem.W.Fast.te2368527892694137696,PySem.W.Fast.te14364793385576792824,PySem.W.Fast.te9621378704136392807];kernel_rfl
theorem left:LeftO PySem.Challenge.pw_loomwright_k20_repeats_and_sorts view [] Xt hook.obs hook.val fuel:=HX.left_run (by kernel_rfl) (by decide) (λ s=>by kernel_rfl) HX.hb λ w os=>by
  obtain ⟨s,r,l⟩:=Option.map_eq_some_iff.mp (Pa w os);obtain ⟨s2,r2,l2⟩:=Option.map_eq_some_iff.mp (Qh w os);cases r.symm.trans r2;exact ⟨s.abs,HX.topT_of r,HX.three l l2⟩
end K20
namespace L2
open PySem PySem.Spec PyProof.Rows
abbrev Key:=Sum Int Str
def MA:Key->Value->Bool
  | .inl k,v=>Value.isInt k v
  | .inr x,v=>Value.isStrOf x v
def PB (w:World):Key->Int
  | .inl k=>hashInt k
  | .inr x=>hashStr w x
theorem AG:∀ {k:Key} {v:Value},MA k v=true->(∃ i t,k=Sum.inl i/\v=Value.int i t)\/(∃ x t,k=Sum.inr x/\v=Value.str x t)
  | .inl i,v,h=>by
    obtain ⟨t,e⟩:=Value.isInt_shape (k:=i) (v:=v) h;exact .inl ⟨i,t,rfl,e⟩
  | .inr x,v,h=>by
    obtain ⟨t,e⟩:=Value.isStrOf_shape (x:=x) (v:=v) h;exact .inr ⟨x,t,rfl,e⟩
theorem MY (a b:Int):decide ((Sum.inl a:Key)=Sum.inl b)=(a == b):=by
  by_cases e:a=b
  · subst e;simp
  · have h:¬ (Sum.inl a:Key)=Sum.inl b:=λ q=>e (Sum.inl.inj q);rw [decide_eq_false h];exact (beq_eq_false_iff_ne.mpr e).symm
theorem Ny (a b:Str):decide ((Sum.inr a:Key)=Sum.inr b)=decide (a=b):=by
  by_cases e:a=b
  · subst e;simp
  · have h:¬ (Sum.inr a:Key)=Sum.inr b:=λ q=>e (Sum.inr.inj q);rw [decide_eq_false h,decide_eq_false e]
theorem NO (a:Int) (b:Str):decide ((Sum.inl a:Key)=Sum.inr b)=false:=decide_eq_false (λ q=>nomatch q)
theorem Nn (a:Str) (b:Int):decide ((Sum.inr a:Key)=Sum.inl b)=false:=decide_eq_false (λ q=>nomatch q)
def Gy (prog:Program) (w:World):PySem.KeyKind prog w Key where
  is:=MA
  hash:=PB w
  inj:=λ v a b ha hb=>by
    rcases AG ha with ⟨i,t,rfl,rfl⟩ | ⟨x,t,rfl,rfl⟩
    · rcases AG hb with ⟨j,u,rfl,e⟩ | ⟨y,u,rfl,e⟩
      · injection e with e1 _;rw [e1]
      · exact nomatch e
    · rcases AG hb with ⟨j,u,rfl,e⟩ | ⟨y,u,rfl,e⟩
      · exact nomatch e
      · injection e with e1 _;rw [e1]
  byValue:=λ k v h=>by
    rcases AG h with ⟨i,t,rfl,rfl⟩ | ⟨x,t,rfl,rfl⟩ <;> rfl
  pyHash:=λ hv h=>by
    rcases AG hv with ⟨i,t,rfl,rfl⟩ | ⟨x,t,rfl,rfl⟩
    · exact wpAny_pyHash_int h
    · exact wpAny_pyHash_str h
  eqBool:=λ hu hv h=>by
    rcases AG hu with ⟨i,t,rfl,rfl⟩ | ⟨x,t,rfl,rfl⟩
    · rcases AG hv with ⟨j,u,rfl,rfl⟩ | ⟨y,u,rfl,rfl⟩
      · rw [MY] at h;exact wpAny_eqBool_int h
      · rw [NO] at h;exact SeqAt.EqAt.int_str i t y u _ _ _ _ h
    · rcases AG hv with ⟨j,u,rfl,rfl⟩ | ⟨y,u,rfl,rfl⟩
      · rw [Nn] at h;exact SeqAt.EqAt.str_int x t j u _ _ _ _ h
      · rw [Ny] at h;exact wpAny_eqBool_str h
  «strs» := λ k x t v h=>by
    rcases AG h with ⟨i,u,rfl,e⟩ | ⟨y,u,rfl,e⟩
    · exact nomatch e
    · injection e with e1 _;subst e1;cases v <;> rfl
inductive V where
  | non | bl (b:Bool) | int (i:Int) | str (x:Str) | byt (b:Array UInt8) | flt (b:UInt64) | ref (a:Addr) | ty (n:String)
  deriving DecidableEq
def RelV:V->Value->Prop
  | .non,u=>u=Value.none
  | .bl b,u=>u=Value.bool b
  | .int i,u=>∃ t,u=Value.int i t
  | .str x,u=>∃ t,u=Value.str x t
  | .byt b,u=>∃ t,u=Value.bytes b t
  | .flt b,u=>∃ t,u=Value.float b t
  | .ref a,u=>u=Value.ref a
  | .ty n,u=>u=Value.type n
abbrev Vals:List V->List Value->Prop:=Paired RelV
theorem Vals.length {xs:List V} {us:List Value} (r:Vals xs us):xs.length=us.length:=Paired.length r
theorem Vals.get:∀ {xs:List V} {us:List Value} {i:Nat} {x:V},Vals xs us->xs[i]?=some x->∃ u,us[i]?=some u/\RelV x u
  | _,_,_,_, .nil,e=>by simp at e
  | _,_,0,_, .cons r _,e=>by simp at e;subst e;exact ⟨_,rfl,r⟩
  | _,_,i+1,x, .cons _ t,e=>by
    obtain ⟨u,h1,h2⟩:=Vals.get (i:=i) (x:=x) t (by simpa using e);exact ⟨u,by simpa using h1,h2⟩
theorem Vals.append:∀ {xs ys:List V} {us ws:List Value},Vals xs us->Vals ys ws->Vals (xs++ys) (us++ws)
  | _,_,_,_, .nil,s=>s
  | _,_,_,_, .cons r t,s=> .cons r (Vals.append t s)
theorem Vals.take:∀ {xs:List V} {us:List Value} (n:Nat),Vals xs us->Vals (xs.take n) (us.take n)
  | _,_,0,_=> .nil
  | _,_,_+1, .nil=> .nil
  | _,_,n+1, .cons r t=> .cons r (Vals.take n t)
theorem Vals.drop:∀ {xs:List V} {us:List Value} (n:Nat),Vals xs us->Vals (xs.drop n) (us.drop n)
  | _,_,0,r=>r
  | _,_,_+1, .nil=> .nil
  | _,_,n+1, .cons _ t=>Vals.drop n t
def RelO:Option V->Option Value->Prop
  | some v,some u=>RelV v u
  | none,none=>True
  | _,_=>False
def KV {κ:Type}:List (κ × V)->List (κ × Value)->Prop:=Paired λ (p:κ × V) (q:κ × Value)=>p.1=q.1/\RelV p.2 q.2
def kV:Key->V
  | .inl i=> .int i
  | .inr x=> .str x
inductive HO where
  | lst (xs:List V)
  | tup (xs:List V)
  | dK (kvs:List (Key × V)) | dT (kvs:List (List Key × V))
  | set (S:Int->Bool) (n:Nat)
  | ins (C dx:Addr) (fs:List (Str × V))
  | own (x:Addr)
  | xd (fs:List (Str × V))
  | met (f x:Addr)
  | rng (lo hi:Int)
  | frz (o:Obj) (u:HO)
  | tbl (ps:Array Value)
  | ext (φ:Heap->Prop)
abbrev Hp:=Addr->Option HO
def upd (H:Hp) (a:Addr) (o:HO):Hp:=λ b=>if b=a then some o else H b
theorem Ag {H:Hp} {a:Addr} {o:HO}:upd H a o a=some o:=by unfold upd;rw [if_pos rfl]
theorem Av {H:Hp} {a b:Addr} {o:HO} (h:b≠a):upd H a o b=H b:=by unfold upd;rw [if_neg h]
theorem Oh {H:Hp} {a b:Addr} {o u:HO} (h:H a=some o) (h':H b=some u) (d:o≠u):a≠b:=by
  intro e;subst e;rw [h] at h';exact d (Option.some.inj h')
theorem AD {H:Hp} {a b:Addr} {o:HO} (h:H a=some o) (h':H b=none):a≠b:=by
  intro e;subst e;rw [h] at h';cases h'
section
variable (P:Program) (w:World)
def ObjOk (H:Hp) (h:Heap) (a:Addr):HO->Prop
  | .lst xs=>xs.length<=sizeLine/\∃ (its:List Value) (n:Nat),Vals xs its/\h.get? a=some { cls:= .type "list",data:= .seq its.toArray n }
  | .tup xs=>xs.length<=sizeLine/\∃ its:List Value,Vals xs its/\IsTup h a its.toArray
  | .dK kvs=>kvs.length<=sizeLine/\(a == sysModules)=false/\∃ vs,KV kvs vs/\h.DictOf (Gy P w) a vs
  | .dT kvs=>kvs.length<=sizeLine/\(a == sysModules)=false/\∃ xs:List (List Key × Addr × Value),
      Paired (λ (p:List Key × V) (q:List Key × Addr × Value)=>p.1=q.1/\H q.2.1=some (.tup (p.1.map kV))/\RelV p.2 q.2.2) kvs xs/\
      ∃ o es ep,h.get? a=some o/\o.ExactDict/\o.data= .dict es ep/\es.toList=xs.map (entryOfKey (tupleKind (Gy P w)))/\(xs.map (·.1)).Nodup
  | .set S n=>h.SetOf (intKind P w) a S n
  | .ins C dx fs=>H dx=some (.own a)/\fs.length<=1000/\dx≠a/\h.get? a=some (PySem.W.instObj C dx)/\
      ∃ mA,h.Ns1 dx mA/\(∀ f,RelO (fs.lookup f) (mA f))/\PySem.Within mA (fs.map (·.1))
  | .own _=>∃ o,h.get? a=some o
  | .xd fs=>∃ mA,h.Ns1 a mA/\∀ f,RelO (fs.lookup f) (mA f)
  | .rng lo hi=>∃ t u v,h.get? a=some { cls:= .type "range",data:= .fields #[.int lo t, .int hi u, .int 1 v] }
  | .frz o u=>h.get? a=some o/\ObjOk H h a u
  | .tbl ps=>h.get? a=some { cls:= .none,data:= .fields ps }
  | .met f x=>h.get? a=some (PySem.W.methodObj (.ref f) (.ref x))
  | .ext φ=>φ h/\(∃ o,h.get? a=some o)/\∀ h1 h2:Heap,φ h1->(∀ o,h1.get? a=some o->h2.get? a=some o)->φ h2
def HOk (H:Hp) (h:Heap):Prop:=∀ a o,H a=some o->ObjOk P w H h a o
end
section
variable {P:Program} {w:World} {H H':Hp} {h h':Heap} {a:Addr} {o:HO}
theorem ObjOk.lt (x:ObjOk P w H h a o):a<h.objs.size:=by
  cases o with
  | lst xs=>obtain ⟨_,_,_,_,e⟩:=x;exact Heap.lt_size e
  | tup xs=>obtain ⟨_,_,_,p⟩:=x;exact p.lt
  | dK kvs=>obtain ⟨_,_,_,_,o,_,_,e,_⟩:=x;exact Heap.lt_size e
  | dT kvs=>obtain ⟨_,_,_,_,o,_,_,e,_⟩:=x;exact Heap.lt_size e
  | set S n=>obtain ⟨o,_,_,_,e,_⟩:=x;exact Heap.lt_size e
  | ins C dx fs=>obtain ⟨_,_,_,e,_⟩:=x;exact Heap.lt_size e
  | own y=>obtain ⟨_,e⟩:=x;exact Heap.lt_size e
  | xd fs=>obtain ⟨_,⟨_,_,_,e,_⟩,_⟩:=x;exact Heap.lt_size e
  | rng lo hi=>obtain ⟨_,_,_,e⟩:=x;exact Heap.lt_size e
  | frz ob u=>obtain ⟨e,_⟩:=x;exact Heap.lt_size e
  | tbl ps=>exact Heap.lt_size (show h.get? a=some _ from x)
  | met f y=>exact Heap.lt_size (show h.get? a=some _ from x)
  | ext φ=>obtain ⟨_,⟨_,e⟩,_⟩:=x;exact Heap.lt_size e
theorem Paired.mapP {α β:Type} {F G:α->β->Prop}:∀ {l₁:List α} {l₂:List β},Paired F l₁ l₂->(∀ a b,F a b->G a b)->Paired G l₁ l₂
  | _,_, .nil,_=> .nil
  | _,_, .cons r t,f=> .cons (f _ _ r) (Paired.mapP t f)
theorem ObjOk.stay (x:ObjOk P w H h a o) (k:∀ b u,(b=a\/H b=some (.own a))->h.get? b=some u->h'.get? b=some u)
    (ho:∀ b,H b=some (.own a)->H' b=some (.own a)) (ht:∀ b xs,H b=some (.tup xs)->H' b=some (.tup xs)):ObjOk P w H' h' a o:=by
  induction o with
  | lst xs=>obtain ⟨z,its,n,r,e⟩:=x;exact ⟨z,its,n,r,k _ _ (.inl rfl) e⟩
  | tup xs=>obtain ⟨z,its,r,ob,e,c⟩:=x;exact ⟨z,its,r,ob,k _ _ (.inl rfl) e,c⟩
  | dK kvs=>obtain ⟨z,y,vs,r,ob,es,ep,e,c⟩:=x;exact ⟨z,y,vs,r,ob,es,ep,k _ _ (.inl rfl) e,c⟩
  | dT kvs=>
    obtain ⟨z,y,xs,r,ob,es,ep,e,c⟩:=x;exact ⟨z,y,xs,Paired.mapP r λ p q z=>⟨z.1,ht _ _ z.2.1,z.2.2⟩,ob,es,ep,k _ _ (.inl rfl) e,c⟩
  | set S n=>obtain ⟨ob,es,ep,t,e,c⟩:=x;exact ⟨ob,es,ep,t,k _ _ (.inl rfl) e,c⟩
  | ins C dx fs=>
    obtain ⟨d,z,ne,e,mA,⟨od,es,ep,e2,c⟩,r⟩:=x;exact ⟨ho _ d,z,ne,k _ _ (.inl rfl) e,mA,⟨od,es,ep,k _ _ (.inr d) e2,c⟩,r⟩
  | own y=>obtain ⟨ob,e⟩:=x;exact ⟨ob,k _ _ (.inl rfl) e⟩
  | xd fs=>obtain ⟨mA,⟨od,es,ep,e,c⟩,r⟩:=x;exact ⟨mA,⟨od,es,ep,k _ _ (.inl rfl) e,c⟩,r⟩
  | rng lo hi=>obtain ⟨t,u,v,e⟩:=x;exact ⟨t,u,v,k _ _ (.inl rfl) e⟩
  | frz ob u ih=>obtain ⟨e,q⟩:=x;exact ⟨k _ _ (.inl rfl) e,ih q⟩
  | tbl ps=>
    have e:h.get? a=some { cls:= .none,data:= .fields ps }:=x;show h'.get? a=some { cls:= .none,data:= .fields ps };exact k a _ (.inl rfl) e
  | met f y=>
    have e:h.get? a=some (PySem.W.methodObj (.ref f) (.ref y)):=x;show h'.get? a=some (PySem.W.methodObj (.ref f) (.ref y));exact k a _ (.inl rfl) e
  | ext φ=>obtain ⟨p,⟨o,e⟩,st⟩:=x;exact ⟨st _ _ p λ o q=>k _ _ (.inl rfl) q,⟨o,k _ _ (.inl rfl) e⟩,st⟩
theorem HOk.lt (x:HOk P w H h) (e:H a=some o):a<h.objs.size:=(x a o e).lt
theorem HOk.fresh (x:HOk P w H h) (e:h.objs.size<=a):H a=none:=by
  cases q:H a with
  | none=>rfl
  | some u=>exact absurd (Nat.lt_of_lt_of_le (x.lt q) e) (Nat.lt_irrefl _)
theorem HOk.kept (x:HOk P w H h) (k:∀ b u,h.get? b=some u->h'.get? b=some u):HOk P w H h':=λ a o e=>
  (x a o e).stay (λ b u _ q=>k b u q) (λ _ q=>q) λ _ _ q=>q
theorem HOk.laid (x:HOk P w H h) (k:∀ b u,h.get? b=some u->h'.get? b=some u) (hp:h.objs.size<=a) (new:ObjOk P w (upd H a o) h' a o):HOk P w (upd H a o) h':=λ b u e=>by
  have hn:=x.fresh hp;by_cases hb:b=a
  · subst hb;rw [Ag] at e;cases e;exact new
  · rw [Av hb] at e;exact (x b u e).stay (λ c v _ q=>k c v q) (λ c q=>by rw [Av (AD q hn)];exact q) λ c xs q=>by rw [Av (AD q hn)];exact q
end
def Rd (H:Hp) (a:Addr) (u:HO):Prop:=H a=some u\/∃ o,H a=some (.frz o u)
theorem Rd.ok {P:Program} {w:World} {H:Hp} {h:Heap} {a:Addr} {u:HO} (r:Rd H a u) (x:HOk P w H h):ObjOk P w H h a u:=by
  rcases r with r | ⟨o,r⟩
  · exact x a u r
  · obtain ⟨_,q⟩:=x a _ r;exact q
def Mut:Option HO->Prop
  | some (.lst _)=>True
  | some (.dK _)=>True
  | some (.dT _)=>True
  | some (.set _ _)=>True
  | some (.ins _ _ _)=>True
  | some (.ext _)=>True
  | _=>False
section
variable {P:Program} {w:World} {H:Hp} {h h':Heap} {x e:Addr} {o':HO}
theorem HOk.write (ok:HOk P w H h) (mu:Mut (H x)) (he:e=x\/H e=some (.own x)) (k:∀ b u,b≠e->h.get? b=some u->h'.get? b=some u) (heo:∃ u,h'.get? e=some u)
    (new:ObjOk P w (upd H x o') h' x o'):HOk P w (upd H x o') h':=λ b u q=>by
  have nown:∀ c y,H c=some (.own y)->c≠x:=λ c y r z=>by subst z;rw [r] at mu;exact mu
  have ntup:∀ c xs,H c=some (.tup xs)->c≠x:=λ c xs r z=>by subst z;rw [r] at mu;exact mu
  by_cases hb:b=x
  · subst hb;rw [Ag] at q;cases q;exact new
  · rw [Av hb] at q;by_cases hbe:b=e
    · have q':H b=some (.own x):=by
        rcases he with z | z
        · exact absurd (hbe.trans z) hb
        · rw [hbe];exact z
      rw [q] at q';cases q';obtain ⟨v,hv⟩:=heo;exact ⟨v,by rw [hbe];exact hv⟩
    · refine (ok b u q).stay (λ c v hc r=>k c v ?_ r) (λ c r=>by rw [Av (nown c b r)];exact r) λ c xs r=>by rw [Av (ntup c xs r)];exact r
      rcases hc with rfl | hc
      · exact hbe
      · rintro rfl;rcases he with z | z
        · exact nown c b hc z
        · rw [hc] at z;cases z;exact hb rfl
end
structure Un (fs ex:List Addr) (H H':Hp) (h h':Heap):Prop where
  keep:∀ b o,h.get? b=some o->H b=none->b∉fs->b∉ex->h'.get? b=some o
  slot:∀ b o,h.get? b=some o->H b=none->b∈fs->b∉ex->∃ sl,h'.get? b=some { o with slots:=sl }
  free:∀ b o,h.get? b=some o->H b=none->b∉ex->H' b=none
  there:∀ b o,h.get? b=some o->b∉ex->∃ o',h'.get? b=some o'
  tups:∀ b xs,H b=some (.tup xs)->H' b=some (.tup xs)
  frzs:∀ b o u,H b=some (.frz o u)->H' b=some (.frz o u)
  tbls:∀ b ps,H b=some (.tbl ps)->∃ more,H' b=some (.tbl (ps++more))
section
variable {fs fs' ex ex':List Addr} {H H1 H2:Hp} {h h1 h2 h':Heap} {a x e:Addr} {o:HO}
theorem Un.any (u:Un fs ex H H1 h h1) {b:Addr} {ob:Obj} (q:h.get? b=some ob) (n:H b=none) (hx:b∉ex):∃ sl,h1.get? b=some { ob with slots:=sl }:=by
  by_cases hb:b∈fs
  · exact u.slot b ob q n hb hx
  · exact ⟨ob.slots,u.keep b ob q n hb hx⟩
theorem Un.kept (k:∀ b u,h.get? b=some u->h'.get? b=some u):Un fs ex H H h h':=
  ⟨λ b ob q _ _ _=>k b ob q,λ b ob q _ _ _=>⟨ob.slots,k b ob q⟩,λ _ _ _ n _=>n,λ b ob q _=>⟨ob,k b ob q⟩,λ _ _ q=>q,λ _ _ _ q=>q,λ _ ps q=>⟨#[],by rw [q];simp⟩⟩
theorem Un.refl:Un fs ex H H h h:=Un.kept λ _ _ q=>q
theorem Un.laid (k:∀ b u,h.get? b=some u->h'.get? b=some u) (hp:h.objs.size<=a) (hn:H a=none):Un fs ex H (upd H a o) h h' where
  keep:=λ b u q _ _ _=>k b u q
  slot:=λ b u q _ _ _=>⟨u.slots,k b u q⟩
  free:=λ b u q n _=>by rw [Av (Nat.ne_of_lt (Nat.lt_of_lt_of_le (Heap.lt_size q) hp))];exact n
  there:=λ b u q _=>⟨u,k b u q⟩
  tups:=λ b xs q=>by rw [Av (AD q hn)];exact q
  frzs:=λ b u xs q=>by rw [Av (AD q hn)];exact q
  tbls:=λ b ps q=>⟨#[],by rw [Av (AD q hn),q];simp⟩
theorem Un.write (mu:Mut (H x)) (he:e=x\/H e=some (.own x)) (k:∀ b u,b≠e->h.get? b=some u->h'.get? b=some u) (heo:∃ u,h'.get? e=some u):Un fs ex H (upd H x o) h h':=by
  have hx:∀ b,H b=none->b≠x:=λ b n z=>by subst z;rw [n] at mu;exact mu
  have hb:∀ b,H b=none->b≠e:=λ b n z=>by
    subst z;rcases he with r | r
    · exact hx b n r
    · rw [n] at r;cases r
  have hm:∀ b u,H b=some u->¬ Mut (some u)->b≠x:=λ b u q nm z=>by subst z;rw [q] at mu;exact nm mu
  refine ⟨λ b u q n _ _=>k b u (hb b n) q,λ b u q n _ _=>⟨u.slots,k b u (hb b n) q⟩,λ b u q n _=>by rw [Av (hx b n)];exact n,λ b u q _=> ?_,
    λ b xs q=>by rw [Av (hm b _ q λ z=>z)];exact q,λ b u xs q=>by rw [Av (hm b _ q λ z=>z)];exact q,λ b ps q=>⟨#[],by rw [Av (hm b _ q λ z=>z),q];simp⟩⟩
  by_cases hbe:b=e
  · subst hbe;exact heo
  · exact ⟨u,k b u hbe q⟩
end
def trk (h:Heap) (H:Hp):List Addr:=(List.range h.objs.size).filter λ a=>(H a).isSome
def Gn (h:Heap) (H:Hp):Heap:=PySem.W.hideAll h (trk h H)
theorem JE (h:Heap) (H:Hp):(Gn h H).objs.size=h.objs.size:=PySem.W.hideAll_size _ _
theorem KD {h:Heap} {H:Hp} {b:Addr} {o:Obj} (e:h.get? b=some o) (n:H b=none):(Gn h H).get? b=some o:=
  PySem.W.hideAll_get _ e λ hm=>by
    have q:(H b).isSome=true:=(List.mem_filter.mp hm).2;rw [n] at q;simp at q
theorem K9 {h:Heap} {H:Hp} {b:Addr} {o:Obj} (e:(Gn h H).get? b=some o):h.get? b=some o/\H b=none:=by
  have e':h.get? b=some o:=PySem.W.of_hideAll (trk h H) e;refine ⟨e',?_⟩;cases q:H b with
  | none=>rfl
  | some x=>
    have hm:b∈trk h H:=List.mem_filter.mpr ⟨List.mem_range.mpr (Heap.lt_size e'),by simp [q]⟩;have z:(Gn h H).get? b=none:=PySem.W.hideAll_none (trk h H) hm;rw [z] at e;cases e
structure Mod (K:PySem.W.Frag) (mg:Str->Option Value) (base:Heap):Prop where
  kin:K.In base
  glob:base.Ns mainGlobals mg
  blt:∃ mb,base.Ns builtinsNs mb/\∀ x:Str,x≠"__name__"->mb x=bootBuiltins x
  nolimit:base.NoLimit
structure Cx where
  prog:Program
  w:World
  K:PySem.W.Frag
  mg:Str->Option Value
  base:Heap
  A:Around
  N:List Str
  s₀:Shared
  H₀:Hp
  env:Env
  outer:List Env
  stack:List Env
  ex:List Addr
  fn:Str->Bool
  calm:Bool
  pn:List (Addr × Obj)
  xe:Value->Shared->Prop
def frs (l:List Env):List Addr:=l.filterMap (·.frame)
abbrev Cx.fs (X:Cx):List Addr:=frs X.outer
def Vis (sc:Scope) (x:Str):Prop:=sc.names.lookup x=some .local\/sc.names.lookup x=some .cell\/sc.names.lookup x=some .free
def Loc (sc:Scope) (x:Str):Prop:=sc.names.lookup x=some .local\/sc.names.lookup x=some .cell
def Qa (env:Env) (h:Heap) (m:Str->Option Value) (x:Str) (u:Value):Prop:=
  (env.kindOf x=some .local/\m x=some u)\/((env.kindOf x=some .cell\/env.kindOf x=some .free)/\∃ c,env.cells.lookup x=some c/\h.IsCell c (some u))
structure Cx.Ok (X:Cx):Prop where
  mod:Mod X.K X.mg X.base
  kind:X.env.scope.kind= .function
  glob:X.env.globals=mainGlobals
  blt:X.env.builtins=builtinsNs
  above:X.s₀.heap.objs.size<=X.env.locals
  inj:∀ x y c,X.env.cells.lookup x=some c->X.env.cells.lookup y=some c->x=y
  has:∀ x,(X.env.kindOf x=some .cell\/X.env.kindOf x=some .free)->∃ c,X.env.cells.lookup x=some c
  cab:∀ x c,X.fn x=true->X.env.cells.lookup x=some c->X.s₀.heap.objs.size<=c
  hd:X.calm=true->X.A.handled=none
  frames:X.A.frames=some X.stack
  stk:X.stack=X.outer\/(X.stack=X.env::X.outer/\X.env.frame=some X.env.locals)
  exf:∀ b∈X.ex,b≠X.env.locals/\∀ x c,X.env.cells.lookup x=some c->c≠b
  bs:∀ b o,X.base.get? b=some o->X.s₀.heap.get? b=some o/\X.H₀ b=none
  bsz:X.base.objs.size<=X.s₀.heap.objs.size
  noex:∀ b o,X.base.get? b=some o->b∉X.ex
  exfs:∀ b∈X.ex,b∉X.fs
  funs:X.s₀.heap.FunFrames X.base X.outer
  frf:∀ b∈X.fs,X.H₀ b=none
structure Inv (X:Cx) (pins:List (Addr × Obj)) (σ:List (Option V)) (H:Hp) (s:Shared):Prop where
  ok:X.Ok
  os:s.os=X.s₀.os
  bare:AllBare s.gens
  base:Un X.fs X.ex X.H₀ H X.s₀.heap s.heap
  loc:∃ m,s.heap.Ns X.env.locals m/\∀ (i:Nat) (x:Str) (v:V),X.N[i]?=some x->σ[i]?=some (some v)->Vis X.env.scope x->∃ u,RelV v u/\Qa X.env s.heap m x u
  cell:∀ x c,X.env.cells.lookup x=some c->∃ v,s.heap.IsCell c v
  free:H X.env.locals=none
  freeC:∀ x c,X.env.cells.lookup x=some c->H c=none
  pin:∀ p∈X.pn++pins,s.heap.get? p.1=some p.2/\H p.1=none/\p.1≠X.env.locals/\p.1∉X.fs/\∀ v,p.2.data≠ .cell v
  hok:HOk X.prog X.w H s.heap
  len:σ.length=X.N.length
section
variable {X:Cx} {pins:List (Addr × Obj)} {σ:List (Option V)} {H H':Hp} {s:Shared} {h':Heap}
theorem Cx.Ok.nofr (ok:X.Ok) {b:Addr} {o:Obj} (e:X.base.get? b=some o):b∉X.fs:=λ hb=>by
  have:=(ok.funs.mem hb).1;rw [e] at this;cases this
theorem Inv.bs (I:Inv X pins σ H s):∀ b o,X.base.get? b=some o->s.heap.get? b=some o/\H b=none:=λ b o e=>
  ⟨I.base.keep b o (I.ok.bs b o e).1 (I.ok.bs b o e).2 (I.ok.nofr e) (I.ok.noex b o e),I.base.free b o (I.ok.bs b o e).1 (I.ok.bs b o e).2 (I.ok.noex b o e)⟩
theorem Inv.bk (I:Inv X pins σ H s):∀ b o,X.base.get? b=some o->s.heap.get? b=some o:=λ b o e=>(I.bs b o e).1
theorem Inv.mod (I:Inv X pins σ H s):Mod X.K X.mg X.base:=I.ok.mod
theorem Inv.kIn (I:Inv X pins σ H s):X.K.In s.heap:=I.ok.mod.kin.keeps I.bk
theorem Inv.fr (I:Inv X pins σ H s):∃ m,Fr X.base X.env.locals s.heap m:=
  let ⟨m,hn,_⟩:=I.loc
  ⟨m,hn,I.bk,Nat.le_trans I.ok.bsz I.ok.above⟩
theorem Inv.lt (I:Inv X pins σ H s):X.env.locals<s.heap.objs.size:=let ⟨_,hn,_⟩:=I.loc;hn.lt
theorem Inv.sz (I:Inv X pins σ H s):X.s₀.heap.objs.size<=s.heap.objs.size:=Nat.le_trans I.ok.above (Nat.le_of_lt I.lt)
theorem Inv.nofs (I:Inv X pins σ H s) {a:Addr} (h:s.heap.objs.size<=a):a∉X.fs:=λ hb=>by
  obtain ⟨_,o,ho,_⟩:=I.ok.funs.mem hb;exact absurd (Nat.lt_of_lt_of_le (Heap.lt_size ho) (Nat.le_trans I.sz h)) (Nat.lt_irrefl _)
theorem Inv.cne (I:Inv X pins σ H s):∀ x c,X.env.cells.lookup x=some c->c≠X.env.locals:=λ x c e z=>by
  obtain ⟨v,o,ho,hd⟩:=I.cell x c e;obtain ⟨m,⟨o',es,ep,ho',hd',_⟩,_⟩:=I.loc;rw [z,ho'] at ho;cases ho;rw [hd'] at hd;cases hd
theorem Inv.funs (I:Inv X pins σ H s):s.heap.FunFrames X.base X.outer:=by
  have all:∀ (l:List Env),(∀ b∈frs l,b∈X.fs)->X.s₀.heap.FunFrames X.base l->s.heap.FunFrames X.base l:=by
    intro l
    induction l with
    | nil=>intro _ _;trivial
    | cons env r ih=>
      intro hs hl;obtain ⟨hk,⟨L,o,hf,hn,ho,hd⟩,hr⟩:=hl;have hL:L∈X.fs:=hs L (by unfold frs;rw [List.filterMap_cons,hf];exact List.mem_cons_self);obtain ⟨sl,e⟩:=I.base.slot L o ho (I.ok.frf L hL) hL λ z=>I.ok.exfs L z hL;exact ⟨hk,⟨L,_,hf,hn,e,hd⟩,ih (λ b hb=>hs b (by unfold frs;rw [List.filterMap_cons,hf];exact List.mem_cons_of_mem _ hb)) hr⟩
  exact all X.outer (λ _ hb=>hb) I.ok.funs
theorem Inv.stack (I:Inv X pins σ H s):s.heap.FunFrames X.base X.stack:=by
  rcases I.ok.stk with e | ⟨e,hf⟩
  · rw [e];exact I.funs
  · rw [e];obtain ⟨m,hn,_⟩:=I.loc;refine .cons (by rw [I.ok.kind];decide) hf hn ?_ I.funs;exact Heap.get?_none_of_le (Nat.le_trans I.ok.bsz I.ok.above)
theorem Inv.stkSub (I:Inv X pins σ H s):∀ b∈frs X.stack,b∈X.env.locals::X.fs:=λ b hb=>by
  rcases I.ok.stk with e | ⟨e,hf⟩
  · rw [e] at hb;exact List.mem_cons_of_mem _ hb
  · rw [e] at hb;unfold frs at hb;rw [List.filterMap_cons,hf] at hb;exact hb
theorem Inv.stkFree (I:Inv X pins σ H s):∀ b∈frs X.stack,H b=none:=λ b hb=>by
  rcases List.mem_cons.mp (I.stkSub b hb) with e | hb
  · rw [e];exact I.free
  · obtain ⟨_,o,ho,_⟩:=I.ok.funs.mem hb;exact I.base.free b o ho (I.ok.frf b hb) λ z=>I.ok.exfs b z hb
theorem Inv.step {g':Array GenState} {t':Nat} {d':Drawn} {ch:List Addr} (I:Inv X pins σ H s)
    (hch:∀ b∈ch,(b∈X.ex\/X.s₀.heap.objs.size<=b)/\b≠X.env.locals/\(∀ x c,X.env.cells.lookup x=some c->c≠b)/\∀ p∈X.pn++pins,p.1≠b)
    (keep:∀ b o,b≠X.env.locals->b∉X.fs->b∉ch->s.heap.get? b=some o->H b=none->h'.get? b=some o)
    (slot:∀ b o,b≠X.env.locals->b∈X.fs->b∉ch->s.heap.get? b=some o->H b=none->∃ sl,h'.get? b=some { o with slots:=sl }) (free:∀ b o,b∉ch->s.heap.get? b=some o->H b=none->H' b=none)
    (there:∀ b o,b∉ch->s.heap.get? b=some o->∃ o',h'.get? b=some o')
    (tups:∀ b xs,H b=some (.tup xs)->H' b=some (.tup xs)) (frzs:∀ b o u,H b=some (.frz o u)->H' b=some (.frz o u)) (tbls:∀ b ps,H b=some (.tbl ps)->∃ more,H' b=some (.tbl (ps++more)))
    (ns:∀ m,s.heap.Ns X.env.locals m->h'.Ns X.env.locals m) (hok:HOk X.prog X.w H' h') (hg:AllBare g'):
    Inv X pins σ H' { s with heap:=h',gens:=g',drawn:=d',toks:=t' }:=by
  have neL:∀ b o,X.s₀.heap.get? b=some o->b≠X.env.locals:=λ b o e=>Nat.ne_of_lt (Nat.lt_of_lt_of_le (Heap.lt_size e) I.ok.above);have neC:∀ b o,X.s₀.heap.get? b=some o->b∉X.ex->b∉ch:=λ b o e hx hb=>by
    rcases (hch b hb).1 with z | z
    · exact hx z
    · exact absurd (Nat.lt_of_lt_of_le (Heap.lt_size e) z) (Nat.lt_irrefl _)
  have cellK:∀ x c,X.env.cells.lookup x=some c->∀ v,s.heap.IsCell c v->h'.IsCell c v:=λ x c e v ⟨o,ho,hd⟩=>by
    have nch:c∉ch:=λ z=>(hch c z).2.2.1 x c e rfl;by_cases hc:c∈X.fs
    · obtain ⟨sl,q⟩:=slot c o (I.cne x c e) hc nch ho (I.freeC x c e);exact ⟨_,q,hd⟩
    · exact ⟨o,keep c o (I.cne x c e) hc nch ho (I.freeC x c e),hd⟩
  refine ⟨I.ok,I.os,hg,⟨λ b o e n hb hx=> ?_,λ b o e n hb hx=> ?_,λ b o e n hx=> ?_,λ b o e hx=> ?_,λ b xs e=>tups b xs (I.base.tups b xs e),λ b o xs e=>frzs b o xs (I.base.frzs b o xs e),λ b ps e=> ?_⟩,?_,λ x c e=> ?_,?_,λ x c e=> ?_,λ p hp=> ?_,hok,I.len⟩
  · exact keep b o (neL b o e) hb (neC b o e hx) (I.base.keep b o e n hb hx) (I.base.free b o e n hx)
  · obtain ⟨sl,e1⟩:=I.base.slot b o e n hb hx;obtain ⟨sl',e2⟩:=slot b _ (neL b o e) hb (neC b o e hx) e1 (I.base.free b o e n hx);exact ⟨sl',e2⟩
  · obtain ⟨o',e1⟩:=I.base.there b o e hx;exact free b o' (neC b o e hx) e1 (I.base.free b o e n hx)
  · obtain ⟨o',e1⟩:=I.base.there b o e hx;exact there b o' (neC b o e hx) e1
  · obtain ⟨m1,e1⟩:=I.base.tbls b ps e;obtain ⟨m2,e2⟩:=tbls b _ e1;exact ⟨m1++m2,by rw [e2,Array.append_assoc]⟩
  · obtain ⟨m,hn,hl⟩:=I.loc;refine ⟨m,ns m hn,λ i x v e1 e2 e3=> ?_⟩;obtain ⟨u,r,l⟩:=hl i x v e1 e2 e3;refine ⟨u,r,?_⟩;rcases l with l | ⟨k,c,e,z⟩
    · exact .inl l
    · exact .inr ⟨k,c,e,cellK x c e _ z⟩
  · obtain ⟨v,z⟩:=I.cell x c e;exact ⟨v,cellK x c e v z⟩
  · obtain ⟨m,⟨o,_,_,ho,_⟩,_⟩:=I.loc;exact free _ o (λ z=>(hch _ z).2.1 rfl) ho I.free
  · obtain ⟨v,o,ho,hd⟩:=I.cell x c e;exact free c o (λ z=>(hch c z).2.2.1 x c e rfl) ho (I.freeC x c e)
  · obtain ⟨e,n,ne,nf,d⟩:=I.pin p hp;have nch:p.1∉ch:=λ z=>(hch p.1 z).2.2.2 p hp rfl;exact ⟨keep p.1 p.2 ne nf nch e n,free p.1 p.2 nch e n,ne,nf,d⟩
theorem Inv.un {t':Nat} (I:Inv X pins σ H s) (u:Un X.fs [] H H' s.heap h') (hok:HOk X.prog X.w H' h'):Inv X pins σ H' { s with heap:=h',toks:=t' }:=by
  obtain ⟨m,⟨o,es,ep,ho,r⟩,_⟩:=id I.loc;obtain ⟨sl,hL⟩:=u.any ho I.free (by simp);exact I.step (g':=s.gens) (d':=s.drawn) (ch:=[]) (λ _ z=>nomatch z) (λ b o _ hb _ e n=>u.keep b o e n hb (by simp)) (λ b o _ hb _ e n=>u.slot b o e n hb (by simp)) (λ b o _ e n=>u.free b o e n (by simp)) (λ b o _ e=>u.there b o e (by simp)) u.tups u.frzs u.tbls (λ m' hm=>by
    obtain ⟨o',es',ep',ho',r'⟩:=hm;rw [ho] at ho';cases ho';exact ⟨_,es',ep',hL,r'⟩) hok I.bare
theorem Inv.call {g':Array GenState} {t':Nat} {d':Drawn} {ch:List Addr} (I:Inv X pins σ H s) (u:Un (frs X.stack) ch H H' s.heap h') (hok:HOk X.prog X.w H' h') (hg:AllBare g')
    (hch:∀ b∈ch,(b∈X.ex\/X.s₀.heap.objs.size<=b)/\b≠X.env.locals/\(∀ x c,X.env.cells.lookup x=some c->c≠b)/\∀ p∈X.pn++pins,p.1≠b):
    Inv X pins σ H' { s with heap:=h',gens:=g',drawn:=d',toks:=t' }:=by
  obtain ⟨m,⟨o,es,ep,ho,r⟩,_⟩:=id I.loc;obtain ⟨sl,hL⟩:=u.any ho I.free λ z=>(hch _ z).2.1 rfl;exact I.step (ch:=ch) hch (λ b o hL hb hc e n=>u.keep b o e n (λ z=>(List.mem_cons.mp (I.stkSub b z)).elim hL hb) hc) (λ b o _ _ hc e n=>u.any e n hc) (λ b o hc e n=>u.free b o e n hc) (λ b o hc e=>u.there b o e hc) u.tups u.frzs u.tbls (λ m' hm=>by
    obtain ⟨o',es',ep',ho',r'⟩:=hm;rw [ho] at ho';cases ho';exact ⟨_,es',ep',hL,r'⟩) hok hg
theorem Inv.turned {t':Nat} {it:Addr} (I:Inv X pins σ H s) (k:∀ b o,b≠it->s.heap.get? b=some o->h'.get? b=some o) (hn:H it=none) (hL:it≠X.env.locals)
    (h1:it∈X.ex\/X.s₀.heap.objs.size<=it) (h2:∀ x c,X.env.cells.lookup x=some c->c≠it) (h3:∀ p∈X.pn++pins,p.1≠it):Inv X pins σ H { s with heap:=h',toks:=t' }:=by
  have nit:∀ b u,H b=some u->b≠it:=λ b u e z=>by rw [z,hn] at e;cases e
  refine I.step (g':=s.gens) (d':=s.drawn) (ch:=[it]) (λ b hb=> ?_) (λ b o _ _ hc e _=>k b o (λ z=>hc (by simp [z])) e) (λ b o _ _ hc e _=>⟨o.slots,k b o (λ z=>hc (by simp [z])) e⟩) (λ _ _ _ _ n=>n)
    (λ b o hc e=>⟨o,k b o (λ z=>hc (by simp [z])) e⟩) (λ _ _ e=>e) (λ _ _ _ e=>e) (λ b ps e=>⟨#[],by rw [e];simp⟩) (λ m hm=> ?_) (λ b u e=> ?_) I.bare
  · have e:b=it:=by simpa using hb
    subst e;exact ⟨h1,hL,h2,h3⟩
  · obtain ⟨o,es,ep,ho,r⟩:=hm;exact ⟨o,es,ep,k _ o (Ne.symm hL) ho,r⟩
  · refine (I.hok b u e).stay (λ c v hc q=>k c v ?_ q) (λ _ q=>q) λ _ _ q=>q;rcases hc with z | z
    · rw [z];exact nit b u e
    · exact nit c _ z
theorem Inv.tok (I:Inv X pins σ H s) (t:Nat):Inv X pins σ H { s with toks:=t }:=I.un (h':=s.heap) (t':=t) Un.refl I.hok
theorem Inv.kept {t':Nat} (I:Inv X pins σ H s) (k:∀ b u,s.heap.get? b=some u->h'.get? b=some u):Inv X pins σ H { s with heap:=h',toks:=t' }:=I.un (Un.kept k) (I.hok.kept k)
theorem Inv.laid {a:Addr} {o:HO} {t':Nat} (I:Inv X pins σ H s) (k:∀ b u,s.heap.get? b=some u->h'.get? b=some u) (hp:s.heap.objs.size<=a) (new:ObjOk X.prog X.w (upd H a o) h' a o):
    Inv X pins σ (upd H a o) { s with heap:=h',toks:=t' }:=I.un (Un.laid k hp (I.hok.fresh hp)) (I.hok.laid k hp new)
theorem Inv.write {x e:Addr} {o:HO} {t':Nat} (I:Inv X pins σ H s) (mu:Mut (H x)) (he:e=x\/H e=some (.own x)) (k:∀ b u,b≠e->s.heap.get? b=some u->h'.get? b=some u) (heo:∃ u,h'.get? e=some u)
    (new:ObjOk X.prog X.w (upd H x o) h' x o):Inv X pins σ (upd H x o) { s with heap:=h',toks:=t' }:=I.un (Un.write mu he k heo) (I.hok.write mu he k heo new)
theorem Inv.weak {σ':List (Option V)} (I:Inv X pins σ H s) (hl:σ'.length=σ.length) (w:∀ (i:Nat) v,σ'[i]?=some (some v)->σ[i]?=some (some v)):Inv X pins σ' H s:=
  ⟨I.ok,I.os,I.bare,I.base,let ⟨m,hn,hl'⟩:=I.loc;⟨m,hn,λ i x v e1 e2 e3=>hl' i x v e1 (w i v e2) e3⟩,I.cell,I.free,I.freeC,I.pin,I.hok,hl.trans I.len⟩
theorem Inv.pins_of {pins':List (Addr × Obj)} (I:Inv X pins σ H s) (h:∀ p∈pins',s.heap.get? p.1=some p.2/\H p.1=none/\p.1≠X.env.locals/\p.1∉X.fs/\∀ v,p.2.data≠ .cell v):Inv X pins' σ H s:=
  ⟨I.ok,I.os,I.bare,I.base,I.loc,I.cell,I.free,I.freeC,λ p hp=>(List.mem_append.mp hp).elim (λ z=>I.pin p (List.mem_append_left _ z)) (h p),I.hok,I.len⟩
theorem Hc {N:List Str} (hN:N.Nodup) {i j:Nat} {x:Str} (a:N[i]?=some x) (b:N[j]?=some x):i=j:=by
  obtain ⟨h1,e1⟩:=List.getElem?_eq_some_iff.mp a;obtain ⟨h2,e2⟩:=List.getElem?_eq_some_iff.mp b;exact (List.getElem_inj hN).mp (e1.trans e2.symm)
theorem JD {M:Model} {A:Around} {E:Value->Shared->Prop} {i:Nat} {x:Str} {v:V} {u:Value} {Q:Unit->Shared->Prop} (I:Inv X pins σ H s) (hN:X.N.Nodup) (hi:X.N[i]?=some x) (hx:Loc X.env.scope x) (r:RelV v u)
    (h:∀ s',Inv X pins (σ.set i (some v)) H s'->(∃ a,Heap.SameBut a s.heap s'.heap/\(a=X.env.locals\/X.env.cells.lookup x=some a))->Q () s') (hf:X.fn x=true\/X.env.scope.names.lookup x=some .local:=by first | exact .inl rfl | exact .inr rfl | assumption):wpAny M A (storeName X.env x u) Q E s:=by
  obtain ⟨m,hn,hl⟩:=id I.loc;have hcls:(X.env.scope.kind == .class||(X.env.scope.kind == .module&&X.env.locals != X.env.globals))=false:=by rw [I.ok.kind];rfl
  have hiσ:i<σ.length:=by rw [I.len];exact (List.getElem?_eq_some_iff.mp hi).1
  have cne:=I.cne;have tracked:∀ {a:Addr} {h':Heap},(∃ o,s.heap.get? a=some o/\H a=none)->Heap.SameBut a s.heap h'->HOk X.prog X.w H h':=λ {a h'} ha hs b ob e=>by
    obtain ⟨_,_,hfree⟩:=ha;refine (I.hok b ob e).stay (λ c w' hc q=>(hs.2 c ?_).trans q) (λ _ q=>q) λ _ _ q=>q;rintro rfl;rcases hc with rfl | hc
    · rw [hfree] at e;cases e
    · rw [hfree] at hc;cases hc
  rcases hx with hk | hk
  · refine wpAny_storeName_local hk hn (λ h' hn' hs=> ?_) hcls;obtain ⟨oL,_,_,hoL,_⟩:=id hn;refine h _ ⟨I.ok,I.os,I.bare,⟨λ b o e n hb hx=> ?_,λ b o e n hb hx=> ?_,I.base.free,λ b o e hx=> ?_,I.base.tups,I.base.frzs,I.base.tbls⟩,⟨_,hn',λ j y v' e1 e2 e3=> ?_⟩,λ y c e=> ?_,I.free,I.freeC,λ p hp=> ?_,tracked ⟨oL,hoL,I.free⟩ hs,by simpa using I.len⟩ ⟨_,hs, .inl rfl⟩
    · exact (hs.2 b (Nat.ne_of_lt (Nat.lt_of_lt_of_le (Heap.lt_size e) I.ok.above))).trans (I.base.keep b o e n hb hx)
    · obtain ⟨sl,e1⟩:=I.base.slot b o e n hb hx;exact ⟨sl,(hs.2 b (Nat.ne_of_lt (Nat.lt_of_lt_of_le (Heap.lt_size e) I.ok.above))).trans e1⟩
    · obtain ⟨o',e1⟩:=I.base.there b o e hx;exact ⟨o',(hs.2 b (Nat.ne_of_lt (Nat.lt_of_lt_of_le (Heap.lt_size e) I.ok.above))).trans e1⟩
    · by_cases hj:j=i
      · subst hj;rw [hi] at e1;cases e1;rw [List.getElem?_set_self hiσ] at e2;cases e2;exact ⟨u,r, .inl ⟨hk,by simp⟩⟩
      · rw [List.getElem?_set_ne (Ne.symm hj)] at e2;obtain ⟨u',r',q⟩:=hl j y v' e1 e2 e3;refine ⟨u',r',?_⟩;rcases q with ⟨k,e⟩ | ⟨k,c,e,z⟩
        · refine .inl ⟨k,?_⟩;have:y≠x:=λ e=>hj (Hc hN e1 (e▸hi));simp [this,e]
        · exact .inr ⟨k,c,e,z.sameBut hs (cne y c e)⟩
    · obtain ⟨w',z⟩:=I.cell y c e;exact ⟨w',z.sameBut hs (cne y c e)⟩
    · obtain ⟨e,n,ne,nf,d⟩:=I.pin p hp;exact ⟨(hs.2 p.1 ne).trans e,n,ne,nf,d⟩
  · have hfn:X.fn x=true:=by
      rcases hf with z | z
      · exact z
      · rw [z] at hk;cases hk
    obtain ⟨c,hc⟩:=I.ok.has x (.inl hk);obtain ⟨w',z⟩:=I.cell x c hc;refine wpAny_storeName_cell I.ok.kind hk hc z (λ h' hc' hs=> ?_);obtain ⟨oc,hoc,hocd⟩:=id z;refine h { s with heap:=h' } ⟨I.ok,I.os,I.bare,⟨λ b o e n hb hx=> ?_,λ b o e n hb hx=> ?_,I.base.free,λ b o e hx=> ?_,I.base.tups,I.base.frzs,I.base.tbls⟩,⟨m,hn.sameBut hs (Ne.symm (cne x c hc)),λ j y v' e1 e2 e3=> ?_⟩,λ y c' e=> ?_,I.free,I.freeC,λ p hp=> ?_,tracked ⟨oc,hoc,I.freeC x c hc⟩ hs,by simpa using I.len⟩ ⟨c,hs, .inr hc⟩
    · exact (hs.2 b (Nat.ne_of_lt (Nat.lt_of_lt_of_le (Heap.lt_size e) (I.ok.cab x c hfn hc)))).trans (I.base.keep b o e n hb hx)
    · obtain ⟨sl,e1⟩:=I.base.slot b o e n hb hx;exact ⟨sl,(hs.2 b (Nat.ne_of_lt (Nat.lt_of_lt_of_le (Heap.lt_size e) (I.ok.cab x c hfn hc)))).trans e1⟩
    · obtain ⟨o',e1⟩:=I.base.there b o e hx;exact ⟨o',(hs.2 b (Nat.ne_of_lt (Nat.lt_of_lt_of_le (Heap.lt_size e) (I.ok.cab x c hfn hc)))).trans e1⟩
    · by_cases hj:j=i
      · subst hj;rw [hi] at e1;cases e1;rw [List.getElem?_set_self hiσ] at e2;cases e2;exact ⟨u,r, .inr ⟨.inl hk,c,hc,hc'⟩⟩
      · rw [List.getElem?_set_ne (Ne.symm hj)] at e2;obtain ⟨u',r',q⟩:=hl j y v' e1 e2 e3;refine ⟨u',r',?_⟩;rcases q with q | ⟨k,c',e,z'⟩
        · exact .inl q
        · refine .inr ⟨k,c',e,z'.sameBut hs ?_⟩;rintro rfl;exact hj (Hc hN e1 (I.ok.inj _ _ _ e hc▸hi))
    · by_cases hcc:c'=c
      · subst hcc;exact ⟨_,hc'⟩
      · obtain ⟨w2,z2⟩:=I.cell y c' e;exact ⟨w2,z2.sameBut hs hcc⟩
    · obtain ⟨e,n,ne,nf,d⟩:=I.pin p hp;refine ⟨(hs.2 p.1 ?_).trans e,n,ne,nf,d⟩;intro q;rw [q,hoc] at e;have q':oc=p.2:=Option.some.inj e;exact d w' (by rw [<-q'];exact hocd)
theorem B6 {M:Model} {A:Around} {E:Value->Shared->Prop} {i:Nat} {x:Str} {v:V} {u:Value} {Q:Unit->Shared->Prop} (I:Inv X pins σ H s) (hN:X.N.Nodup) (hi:X.N[i]?=some x) (hx:Loc X.env.scope x) (r:RelV v u)
    (h:∀ s',Inv X pins (σ.set i (some v)) H s'->Q () s') (hf:X.fn x=true\/X.env.scope.names.lookup x=some .local:=by first | exact .inl rfl | exact .inr rfl | assumption):wpAny M A (storeName X.env x u) Q E s:=
  JD I hN hi hx r (λ s' I' _=>h s' I') hf
theorem Inv.call' {s':Shared} {ch:List Addr} (I:Inv X pins σ H s) (ho:s'.os=s.os) (u:Un (frs X.stack) ch H H' s.heap s'.heap) (hok:HOk X.prog X.w H' s'.heap) (hg:AllBare s'.gens)
    (hch:∀ b∈ch,(b∈X.ex\/X.s₀.heap.objs.size<=b)/\b≠X.env.locals/\(∀ x c,X.env.cells.lookup x=some c->c≠b)/\∀ p∈X.pn++pins,p.1≠b):Inv X pins σ H' s':=by
  obtain ⟨h',g',d',t',o'⟩:=s';have e:o'=s.os:=ho;subst e;exact I.call (g':=g') (t':=t') (d':=d') u hok hg hch
end
abbrev XK:=Value->Option Addr->Hp->Prop
abbrev St:=List (Option V)
abbrev VK:=V->Hp->Prop
abbrev TE:=St->Hp->VK->Prop
abbrev TT:=St->Hp->(Bool->Hp->Prop)->Prop
abbrev TA:=St->Hp->(List V->Hp->Prop)->Prop
structure Ends where
  nx:St->Hp->Prop
  rt:VK
  bk:St->Hp->Prop:=λ _ _=>False
  ct:St->Hp->Prop:=λ _ _=>False
abbrev TS:=Ends->St->Hp->Prop
def EP (X:Cx) (pins:List (Addr × Obj)) (σ:St) (Q:VK) (u:Value) (s':Shared):Prop:=∃ v H',Inv X pins σ H' s'/\RelV v u/\Q v H'
def TP (X:Cx) (pins:List (Addr × Obj)) (σ:St) (Q:Bool->Hp->Prop) (b:Bool) (s':Shared):Prop:=∃ H',Inv X pins σ H' s'/\Q b H'
def AP (X:Cx) (pins:List (Addr × Obj)) (σ:St) (Q:List V->Hp->Prop) (us:List Value) (s':Shared):Prop:=∃ vs H',Inv X pins σ H' s'/\Vals vs us/\Q vs H'
def SP (X:Cx) (pins:List (Addr × Obj)) (D:Ends) (f:Flow) (s':Shared):Prop:=
  match f with
  | .next=>∃ σ' H',Inv X pins σ' H' s'/\D.nx σ' H'
  | .brk=>∃ σ' H',Inv X pins σ' H' s'/\D.bk σ' H'
  | .cont=>∃ σ' H',Inv X pins σ' H' s'/\D.ct σ' H'
  | .ret u=>∃ v σ' H',Inv X pins σ' H' s'/\RelV v u/\D.rt v H'
def PE (X:Cx) (e:Expr) (t:TE):Prop:=
  ∀ (pins:List (Addr × Obj)) (s:Shared) (σ:St) (H:Hp) (Q:VK),Inv X pins σ H s->t σ H Q->wpAny (model X.prog X.w) X.A (eval e X.env) (EP X pins σ Q) X.xe s
def PT (X:Cx) (e:Expr) (t:TT):Prop:=
  ∀ (pins:List (Addr × Obj)) (s:Shared) (σ:St) (H:Hp) (Q:Bool->Hp->Prop),Inv X pins σ H s->t σ H Q->wpAny (model X.prog X.w) X.A (isTrue e X.env (eval e X.env)) (TP X pins σ Q) X.xe s
def PW (X:Cx) (e:Expr) (t:TT):Prop:=
  ∀ (whole:Sem Value) (pins:List (Addr × Obj)) (s:Shared) (σ:St) (H:Hp) (Q:Bool->Hp->Prop),Inv X pins σ H s->t σ H Q->wpAny (model X.prog X.w) X.A (isTrue e X.env whole) (TP X pins σ Q) X.xe s
theorem PW.pt {X:Cx} {e:Expr} {t:TT} (h:PW X e t):PT X e t:=h _
def PA (X:Cx) (es:List Expr) (t:TA):Prop:=
  ∀ (pos:Pos) (pins:List (Addr × Obj)) (s:Shared) (σ:St) (H:Hp) (Q:List V->Hp->Prop),Inv X pins σ H s->t σ H Q->wpAny (model X.prog X.w) X.A (spliced (backTo pos (starEach es X.env))) (AP X pins σ Q) X.xe s
def PS (X:Cx) (st:Stmt) (t:TS):Prop:=
  ∀ (pins:List (Addr × Obj)) (s:Shared) (σ:St) (H:Hp) (D:Ends),Inv X pins σ H s->t D σ H->wpAny (model X.prog X.w) X.A (exec st X.env) (SP X pins D) X.xe s
def PSs (X:Cx) (st:List Stmt) (t:TS):Prop:=
  ∀ (pins:List (Addr × Obj)) (s:Shared) (σ:St) (H:Hp) (D:Ends),Inv X pins σ H s->t D σ H->wpAny (model X.prog X.w) X.A (execs st X.env) (SP X pins D) X.xe s
theorem thn {α:Type} {t:Sem α} {Q Q':α->Shared->Prop} {M:Model} {A:Around} {E:Value->Shared->Prop} {s:Shared} (h:wpAny M A t Q E s) (hQ:∀ a s,Q a s->Q' a s):wpAny M A t Q' E s:=wpAny_mono h hQ λ _ _ x=>x
section
variable {X:Cx}
theorem bin {a b:Expr} {ta tb:TE} (ha:PE X a ta) (hb:PE X b tb) {pins:List (Addr × Obj)} {s:Shared} {σ:St} {H:Hp} {R:V->V->Hp->Prop} (I:Inv X pins σ H s) (h:ta σ H λ x H1=>tb σ H1 λ y H2=>R x y H2)
    {α:Type} {Q:α->Shared->Prop} {f:Value->Value->Sem α}
    (hf:∀ v u s2 x y H2,Inv X pins σ H2 s2->RelV x v->RelV y u->R x y H2->wpAny (model X.prog X.w) X.A (f v u) Q X.xe s2):
    wpAny (model X.prog X.w) X.A (eval a X.env) (λ v s₁=>wpAny (model X.prog X.w) X.A (eval b X.env) (λ u s₂=>wpAny (model X.prog X.w) X.A (f v u) Q X.xe s₂) X.xe s₁) X.xe s:=by
  refine thn (ha pins s σ H _ I h) λ v s1 ⟨x,H1,I1,r1,q1⟩=> ?_;refine thn (hb pins s1 σ H1 _ I1 q1) λ u s2 ⟨y,H2,I2,r2,q2⟩=> ?_;exact hf v u s2 x y H2 I2 r1 r2 q2
def Nq (i:Nat):TE:=λ σ H Q=>∃ v,σ[i]?=some (some v)/\Q v H
def tC (v:V):TE:=λ _ H Q=>Q v H
theorem MJ {i:Nat} {x:Str} {pos:Pos} (hN:X.N[i]?=some x) (hv:Vis X.env.scope x) (hd:(x == ("__debug__":Str))=false:=by decide) (hcd:(x == ("__classdict__":Str))=false:=by decide):PE X (.Name x pos) (Nq i):=by
  intro pins s σ H Q I h;obtain ⟨v,e,h⟩:=h;obtain ⟨m,hn,hl⟩:=I.loc;obtain ⟨u,r,l⟩:=hl i x v hN e hv;have fin:EP X pins σ Q u s:=⟨v,H,I,r,h⟩;rcases l with ⟨hk,hm⟩ | ⟨hk,c,hc,hcell⟩
  · exact wpAny_Name (wpAny_loadName_local I.ok.kind hk hn hm fin) hd
  · rcases hk with hk | hk
    · exact wpAny_Name (wpAny_loadName_cell I.ok.kind hk hc hcell fin) hd
    · exact wpAny_Name (wpAny_loadName_free I.ok.kind hk hc hcell fin hcd) hd
theorem Ac {i j pos}:PE X (.Constant (.int i) j pos) (tC (.int i)):=λ _ _ _ H _ I h=>wpAny_Constant_int ⟨.int i,H,I.tok _,⟨_,rfl⟩,h⟩
theorem IZ {b j pos}:PE X (.Constant (.bool b) j pos) (tC (.bl b)):=λ _ _ _ H _ I h=>Constant_bool ⟨.bl b,H,I,rfl,h⟩
theorem GE {j pos}:PE X (.Constant .none j pos) (tC .non):=λ _ _ _ H _ I h=>Constant_none ⟨.non,H,I,rfl,h⟩
theorem A7 {x j pos}:PE X (.Constant (.str x) j pos) (tC (.str x)):=λ _ _ _ H _ I h=>Calls.Constant_str ⟨.str x,H,I.tok _,⟨_,rfl⟩,h⟩
def Gl (X:Cx) (x:Str):Prop:=X.env.kindOf x=some .globalImplicit
theorem Gv {E:Value->Shared->Prop} {pins:List (Addr × Obj)} {s:Shared} {σ:St} {H:Hp} {x:Str} {u:Value} {pos:Pos} {Q:Value->Shared->Prop} (I:Inv X pins σ H s) (hg:Gl X x) (hm:X.mg x=some u) (h:Q u s)
    (hd:(x == ("__debug__":Str))=false:=by decide):wpAny (model X.prog X.w) X.A (eval (.Name x pos) X.env) Q E s:=
  Calls.Name_function_global I.ok.kind hg (Calls.loadGlobal_global (by rw [I.ok.glob];exact I.mod.glob.keeps I.bk) hm h) hd
theorem CT {E:Value->Shared->Prop} {pins:List (Addr × Obj)} {s:Shared} {σ:St} {H:Hp} {x:Str} {u:Value} {pos:Pos} {Q:Value->Shared->Prop} (I:Inv X pins σ H s) (hg:Gl X x) (hm:X.mg x=none) (hv:bootBuiltins x=some u) (h:Q u s)
    (hn:x≠"__name__":=by decide) (hd:(x == ("__debug__":Str))=false:=by decide):wpAny (model X.prog X.w) X.A (eval (.Name x pos) X.env) Q E s:=by
  obtain ⟨mb,h1,h2⟩:=I.mod.blt;exact Calls.Name_function_global I.ok.kind hg (Calls.loadGlobal_builtin (by rw [I.ok.glob];exact I.mod.glob.keeps I.bk) hm (by rw [I.ok.blt];exact h1.keeps I.bk) ((h2 x hn).trans hv) h) hd
theorem Me {x:Str} {v:V} {u:Value} {pos:Pos} (hg:Gl X x) (hm:X.mg x=some u) (r:RelV v u) (hd:(x == ("__debug__":Str))=false:=by decide):PE X (.Name x pos) (tC v):=
  λ _ _ _ H _ I h=>Gv I hg hm ⟨v,H,I,r,h⟩ hd
theorem LF {x:Str} {v:V} {u:Value} {pos:Pos} (hg:Gl X x) (hm:X.mg x=none) (hv:bootBuiltins x=some u) (r:RelV v u) (hn:x≠"__name__":=by decide) (hd:(x == ("__debug__":Str))=false:=by decide):PE X (.Name x pos) (tC v):=
  λ _ _ _ H _ I h=>CT I hg hm hv ⟨v,H,I,r,h⟩ hn hd
variable {a b:Expr} {ta tb:TE} {pos:Pos}
def PC (X:Cx) (op:CmpOp) (a b:Expr) (t:TE):Prop:=
  ∀ (pins:List (Addr × Obj)) (s:Shared) (σ:St) (H:Hp) (Q:VK),Inv X pins σ H s->t σ H Q->
    wpAny (model X.prog X.w) X.A (eval a X.env) (λ v s₁=>wpAny (model X.prog X.w) X.A (eval b X.env) (λ u s₂=>wpAny (model X.prog X.w) X.A (compareOp op v u) (EP X pins σ Q) X.xe s₂) X.xe s₁) X.xe s
theorem K2 (b:Expr) {op:CmpOp} (h:op≠ .In) (h2:op≠ .NotIn):behindInMarks op b=false:=by
  have e1:(op == CmpOp.In)=false:=by cases op <;> first | rfl | exact absurd rfl h
  have e2:(op == CmpOp.NotIn)=false:=by cases op <;> first | rfl | exact absurd rfl h2
  cases b <;> simp [behindInMarks,e1,e2]
def tB (t:TE):TT:=λ σ H Q=>t σ H λ x H1=>∃ c,x= .bl c/\Q c H1
theorem QC {op:CmpOp} {t:TE} (h:PC X op a b t) (h1:behindInMarks op b=false:=by first | exact K2 _ (by decide) (by decide) | rfl):PT X (.Compare a [op] [b] pos) (tB t):=by
  intro pins s σ H Q I hw;refine wpAny_isTrue_Compare1 (thn (h pins s σ H _ I hw) λ v s1 h1=>thn h1 λ u s2 h2=>thn h2 λ c s3 ⟨x,H1,I1,r1,q1⟩=> ?_) h1;obtain ⟨d,rfl,q⟩:=q1;cases r1;exact wpAny_truthy_bool ⟨H1,I1,q⟩
theorem AT {e:Expr} {t:TE} (h:PE X e t) (he:∀ whole,isTrue e X.env whole=(do let v <-whole;standAt e.pos;holding [v] (truthy v)):=by intro _;rfl):PT X e (tB t):=by
  intro pins s σ H Q I hw;refine isTrue_plain (thn (h pins s σ H _ I hw) λ v s1 ⟨x,H1,I1,r1,q1⟩=> ?_) (he _);obtain ⟨d,rfl,q⟩:=q1;cases r1;exact wpAny_truthy_bool ⟨H1,I1,q⟩
variable {tA tB':TT} {rest:List Expr}
def OI (t u:TT):TT:=λ σ H Q=>t σ H λ c H1=>if c=true then u σ H1 Q else Q false H1
def tOr (t u:TT):TT:=λ σ H Q=>t σ H λ c H1=>if c=true then Q true H1 else u σ H1 Q
def On (t:TT):TT:=λ σ H Q=>t σ H λ c H1=>Q (!c) H1
theorem EW (ha:PT X a tA):PW X (.BoolOp .And [a] pos) tA:=by
  intro wh pins s σ H Q I h;refine isTrue_and (thn (ha pins s σ H Q I h) λ c s1 e=> ?_);cases c with
  | true=>exact isTrue_and_nil e
  | false=>exact e
theorem BX (ha:PT X a tA):PW X (.BoolOp .Or [a] pos) tA:=by
  intro wh pins s σ H Q I h;refine isTrue_or (thn (ha pins s σ H Q I h) λ c s1 e=> ?_);cases c with
  | false=>exact isTrue_or_nil e
  | true=>exact e
theorem GQ (ha:PT X a tA) (hb:PW X (.BoolOp .And (b::rest) pos) tB'):PW X (.BoolOp .And (a::b::rest) pos) (OI tA tB'):=by
  intro wh pins s σ H Q I h;refine isTrue_and (thn (ha pins s σ H _ I h) λ c s1 ⟨H1,I1,q1⟩=> ?_);cases c with
  | true=>exact hb wh pins s1 σ H1 Q I1 q1
  | false=>exact ⟨H1,I1,q1⟩
theorem CC (ha:PT X a tA) (hb:PW X (.BoolOp .Or (b::rest) pos) tB'):PW X (.BoolOp .Or (a::b::rest) pos) (tOr tA tB'):=by
  intro wh pins s σ H Q I h;refine isTrue_or (thn (ha pins s σ H _ I h) λ c s1 ⟨H1,I1,q1⟩=> ?_);cases c with
  | true=>exact ⟨H1,I1,q1⟩
  | false=>exact hb wh pins s1 σ H1 Q I1 q1
theorem BY (ha:PT X a tA):PT X (.UnaryOp .Not a pos) (On tA):=by
  intro pins s σ H Q I h;exact isTrue_not (ha pins s σ H (λ c H1=>Q (!c) H1) I h)
def MF (ta tb:TE):TE:=λ σ H Q=>ta σ H λ x H1=>∃ c,x= .bl c/\if c=true then tb σ H1 Q else Q (.bl false) H1
def OS (ta tb:TE):TE:=λ σ H Q=>ta σ H λ x H1=>∃ c,x= .bl c/\if c=true then Q (.bl true) H1 else tb σ H1 Q
def Mj (ta:TE):TE:=λ σ H Q=>ta σ H λ x H1=>∃ c,x= .bl c/\Q (.bl (!c)) H1
theorem CL {op} {t:TE} (h:PE X a t):PE X (.BoolOp op [a] pos) t:=λ pins s σ H Q I hw=>BoolOp_one (h pins s σ H Q I hw)
theorem CY (ha:PE X a ta) (hb:PE X (.BoolOp .And (b::rest) pos) tb):PE X (.BoolOp .And (a::b::rest) pos) (MF ta tb):=by
  intro pins s σ H Q I h;refine BoolOp_and (thn (ha pins s σ H _ I h) λ v s1 ⟨x,H1,I1,r1,q1⟩=> ?_);obtain ⟨c,rfl,q1⟩:=q1;cases r1;refine wpAny_truthy_bool ?_;cases c with
  | true=>exact hb pins s1 σ H1 Q I1 q1
  | false=>exact ⟨.bl false,H1,I1,rfl,q1⟩
theorem Ou (ha:PE X a ta) (hb:PE X (.BoolOp .Or (b::rest) pos) tb):PE X (.BoolOp .Or (a::b::rest) pos) (OS ta tb):=by
  intro pins s σ H Q I h;refine BoolOp_or (thn (ha pins s σ H _ I h) λ v s1 ⟨x,H1,I1,r1,q1⟩=> ?_);obtain ⟨c,rfl,q1⟩:=q1;cases r1;refine wpAny_truthy_bool ?_;cases c with
  | false=>exact hb pins s1 σ H1 Q I1 q1
  | true=>exact ⟨.bl true,H1,I1,rfl,q1⟩
theorem ND (ha:PE X a ta):PE X (.UnaryOp .Not a pos) (Mj ta):=by
  intro pins s σ H Q I h;refine UnaryOp_ (thn (ha pins s σ H _ I h) λ v s1 ⟨x,H1,I1,r1,q1⟩=> ?_);obtain ⟨c,rfl,q1⟩:=q1;cases r1;exact not_of (wpAny_truthy_bool ⟨.bl (!c),H1,I1,rfl,q1⟩)
def tIf (t:TT) (ta tb:TE):TE:=λ σ H Q=>t σ H λ c H1=>if c=true then ta σ H1 Q else tb σ H1 Q
theorem E5 {c:Expr} (hc:PT X c tA) (ha:PE X a ta) (hb:PE X b tb):PE X (.IfExp c a b pos) (tIf tA ta tb):=by
  intro pins s σ H Q I h;refine wpAny_IfExp (thn (hc pins s σ H _ I h) λ d s1 ⟨H1,I1,q1⟩=> ?_);cases d with
  | true=>exact ha pins s1 σ H1 Q I1 q1
  | false=>exact hb pins s1 σ H1 Q I1 q1
end
def SqL (K:PySem.W.Frag) (H:Hp) (a:Addr) (xs:List V):Prop:=
  Rd H a (.lst xs)\/
    ∃ (o:Obj) (its:Array Value) (n:Nat),K.lookup a=some o/\o.cls= .type "list"/\o.dict=none/\o.data= .seq its n/\its.size<=sizeLine/\Vals xs its.toList
def SqT (K:PySem.W.Frag) (H:Hp) (a:Addr) (xs:List V):Prop:=
  Rd H a (.tup xs)\/
    ∃ (o:Obj) (its:Array Value) (n:Nat),K.lookup a=some o/\o.cls= .type "tuple"/\o.data= .seq its n/\its.size<=sizeLine/\Vals xs its.toList
def PH:Value->Option V
  | .none=>some .non
  | .bool b=>some (.bl b)
  | .int i _=>some (.int i)
  | .str x _=>some (.str x)
  | .bytes b _=>some (.byt b)
  | .float b _=>some (.flt b)
  | .ref a=>some (.ref a)
  | .type n=>some (.ty n)
  | _=>none
theorem RelV.abs {x:V} {u:Value} (r:RelV x u):PH u=some x:=by
  cases x with
  | non=>cases r;rfl
  | bl _=>cases r;rfl
  | int _=>obtain ⟨t,rfl⟩:=r;rfl
  | str _=>obtain ⟨t,rfl⟩:=r;rfl
  | byt _=>obtain ⟨t,rfl⟩:=r;rfl
  | flt _=>obtain ⟨t,rfl⟩:=r;rfl
  | ref _=>cases r;rfl
  | ty _=>cases r;rfl
theorem RelV.inj {x y:V} {u:Value} (r:RelV x u) (q:RelV y u):x=y:=Option.some.inj (r.abs.symm.trans q.abs)
theorem Vals.inj:∀ {xs ys:List V} {us:List Value},Vals xs us->Vals ys us->xs=ys
  | _,_,_, .nil, .nil=>rfl
  | _,_,_, .cons r t, .cons r' t'=>by rw [r.inj r',Vals.inj t t']
section
variable {X:Cx} {pins:List (Addr × Obj)} {σ:St} {H:Hp} {s:Shared} {a:Addr} {xs ys:List V}
theorem SqL.of {K:PySem.W.Frag} (h:H a=some (.lst xs)):SqL K H a xs:= .inl (.inl h)
theorem SqT.of {K:PySem.W.Frag} (h:H a=some (.tup xs)):SqT K H a xs:= .inl (.inl h)
theorem Inv.list (I:Inv X pins σ H s) (h:SqL X.K H a xs):∃ its:List Value,Vals xs its/\PlainL s.heap a its.toArray/\xs.length<=sizeLine:=by
  rcases h with h | ⟨o,its,n,hk,hc,hd,hs,hz,r⟩
  · obtain ⟨z,its,n,r,e⟩:=h.ok I.hok;exact ⟨its,r,⟨_,n,e,rfl,rfl,rfl⟩,z⟩
  · refine ⟨its.toList,r,⟨o,n,I.kIn a o hk,hc,hd,by simpa using hs⟩,?_⟩;have e:=r.length;simp only [Array.length_toList] at e;omega
theorem Inv.tuple (I:Inv X pins σ H s) (h:SqT X.K H a xs):∃ its:List Value,Vals xs its/\IsTup s.heap a its.toArray/\xs.length<=sizeLine:=by
  rcases h with h | ⟨o,its,n,hk,hc,hs,hz,r⟩
  · obtain ⟨z,its,r,p⟩:=h.ok I.hok;exact ⟨its,r,p,z⟩
  · refine ⟨its.toList,r,⟨o,I.kIn a o hk,hc,n,by simpa using hs⟩,?_⟩;have e:=r.length;simp only [Array.length_toList] at e;omega
theorem Inv.list_inj (I:Inv X pins σ H s) (h:SqL X.K H a xs) (h':SqL X.K H a ys):xs=ys:=by
  obtain ⟨its,r,⟨o,n,e,_,_,d⟩,_⟩:=I.list h;obtain ⟨its',r',⟨o',n',e',_,_,d'⟩,_⟩:=I.list h';rw [e] at e';cases e';rw [d] at d';injection d' with d1 _;have:its=its':=by simpa using congrArg Array.toList d1
  subst this;exact r.inj r'
theorem Inv.tuple_inj (I:Inv X pins σ H s) (h:SqT X.K H a xs) (h':SqT X.K H a ys):xs=ys:=by
  obtain ⟨its,r,⟨o,e,_,n,d⟩,_⟩:=I.tuple h;obtain ⟨its',r',⟨o',e',_,n',d'⟩,_⟩:=I.tuple h';rw [e] at e';cases e';rw [d] at d';injection d' with d1 _;have:its=its':=by simpa using congrArg Array.toList d1
  subst this;exact r.inj r'
end
abbrev Cx.wish (X:Cx) (E:Value->Shared->Prop):Cx:={ X with xe:=E }
abbrev Cx.nox (X:Cx):Cx:=X.wish λ _ _=>False
theorem Cx.Ok.wish {X:Cx} (ok:X.Ok) (E:Value->Shared->Prop):(X.wish E).Ok:=
  ⟨ok.mod,ok.kind,ok.glob,ok.blt,ok.above,ok.inj,ok.has,ok.cab,ok.hd,ok.frames,ok.stk,ok.exf,ok.bs,ok.bsz,ok.noex,ok.exfs,ok.funs,ok.frf⟩
theorem Cx.Ok.unwish {X:Cx} {E:Value->Shared->Prop} (ok:(X.wish E).Ok):X.Ok:=
  ⟨ok.mod,ok.kind,ok.glob,ok.blt,ok.above,ok.inj,ok.has,ok.cab,ok.hd,ok.frames,ok.stk,ok.exf,ok.bs,ok.bsz,ok.noex,ok.exfs,ok.funs,ok.frf⟩
section
variable {X:Cx} {pins:List (Addr × Obj)} {σ:St} {H:Hp} {s:Shared} {E:Value->Shared->Prop}
theorem Inv.wish (I:Inv X pins σ H s) (E:Value->Shared->Prop):Inv (X.wish E) pins σ H s:=⟨I.ok.wish E,I.os,I.bare,I.base,I.loc,I.cell,I.free,I.freeC,I.pin,I.hok,I.len⟩
theorem Inv.unwish (I:Inv (X.wish E) pins σ H s):Inv X pins σ H s:=⟨I.ok.unwish,I.os,I.bare,I.base,I.loc,I.cell,I.free,I.freeC,I.pin,I.hok,I.len⟩
theorem SP.unwish {D:Ends} {f:Flow} {s':Shared} (h:SP (X.wish E) pins D f s'):SP X pins D f s':=by
  cases f with
  | next=>obtain ⟨σ',H',I,q⟩:=h;exact ⟨σ',H',I.unwish,q⟩
  | brk=>obtain ⟨σ',H',I,q⟩:=h;exact ⟨σ',H',I.unwish,q⟩
  | cont=>obtain ⟨σ',H',I,q⟩:=h;exact ⟨σ',H',I.unwish,q⟩
  | ret u=>obtain ⟨v,σ',H',I,r,q⟩:=h;exact ⟨v,σ',H',I.unwish,r,q⟩
theorem PSs.nox {st:List Stmt} {t:TS} (h:PSs X.nox st t):PSs X st t:=λ pins s σ H D I hw=>
  wpAny_mono (h pins s σ H D (I.wish _) hw) (λ _ _ q=>q.unwish) λ _ _ z=>False.elim z
end
section
variable {X:Cx} {st:Stmt} {rest:List Stmt} {t u:TS} {e:Expr} {te:TE} {pos:Pos}
def ME:TS:=λ D σ H=>D.nx σ H
def O9 (t u:TS):TS:=λ D σ H=>t { D with nx:=u D } σ H
theorem Aw:PSs X [] ME:=λ _ _ σ H _ I h=>wpAny_execs_nil ⟨σ,H,I,h⟩
theorem Ae (h1:PS X st t) (h2:PSs X rest u):PSs X (st::rest) (O9 t u):=by
  intro pins s σ H D I h;refine wpAny_execs_cons (thn (h1 pins s σ H { D with nx:=u D } I h) λ f s1 q=> ?_);cases f with
  | next=>
    obtain ⟨σ',H',I',q⟩:=q;exact h2 pins s1 σ' H' D I' q
  | ret v=>exact q
  | brk=>exact q
  | cont=>exact q
theorem Ah (h1:PS X st t):PSs X [st] t:=by
  intro pins s σ H D I h;refine wpAny_execs_cons (thn (h1 pins s σ H D I h) λ f s1 q=> ?_);cases f with
  | next=>exact wpAny_execs_nil q
  | ret v=>exact q
  | brk=>exact q
  | cont=>exact q
theorem Inv.quiet {pins:List (Addr × Obj)} {σ:St} {H:Hp} {s:Shared} (I:Inv X pins σ H s):interactive X.env=false:=by simp [interactive,I.ok.kind]
def My (te:TE):TS:=λ D σ H=>te σ H λ _ H1=>D.nx σ H1
theorem GM (he:PE X e te) (hs:swapsWith e none pos.line X.env=pure false:=by rfl):PS X (.Expr e pos) (My te):=by
  intro pins s σ H D I h;exact wpAny_Expr_any (thn (he pins s σ H _ I h) λ v s1 ⟨x,H1,I1,r1,q1⟩=>⟨σ,H1,I1,q1⟩) I.quiet hs
def Oj (te:TE):TS:=λ D σ H=>te σ H D.rt
theorem Al (he:PE X e te):PS X (.Return (some e) pos) (Oj te):=by
  intro pins s σ H D I h;exact wpAny_Return_some (thn (he pins s σ H _ I h) λ v s1 ⟨x,H1,I1,r1,q1⟩=>⟨x,σ,H1,I1,r1,q1⟩)
def N8 (c:TT) (t u:TS):TS:=λ D σ H=>c σ H λ b H1=>if b=true then t D σ H1 else u D σ H1
theorem AR {c:Expr} {a b:List Stmt} {tc:TT} (hc:PT X c tc) (ha:PSs X a t) (hb:PSs X b u):PS X (.If c a b pos) (N8 tc t u):=by
  intro pins s σ H D I h;refine wpAny_If (thn (hc pins s σ H _ I h) λ d s1 ⟨H1,I1,q1⟩=> ?_);cases d with
  | true=>exact ha pins s1 σ H1 D I1 q1
  | false=>exact hb pins s1 σ H1 D I1 q1
def Nl:TS:=λ _ _ _=>False
theorem Fs:PS X st Nl:=λ _ _ _ _ _ _ h=>h.elim
end
abbrev TG:=V->St->Hp->(St->Hp->Prop)->Prop
abbrev TGs:=List V->St->Hp->(St->Hp->Prop)->Prop
def PG (X:Cx) (target:Expr) (t:TG):Prop:=
  ∀ (pins:List (Addr × Obj)) (s:Shared) (σ:St) (H:Hp) (v:V) (u:Value) (Q:St->Hp->Prop),Inv X pins σ H s->RelV v u->t v σ H Q->
    wpAny (model X.prog X.w) X.A (assign target X.env u) (λ _ s'=>∃ σ' H',Inv X pins σ' H' s'/\Q σ' H') X.xe s
def PGs (X:Cx) (ts:List Expr) (t:TGs):Prop:=
  ∀ (pins:List (Addr × Obj)) (s:Shared) (σ:St) (H:Hp) (vs:List V) (us:List Value) (Q:St->Hp->Prop),Inv X pins σ H s->Vals vs us->t vs σ H Q->
    wpAny (model X.prog X.w) X.A (assignInOrder ((assignEach ts X.env).map (·.2)) us) (λ _ s'=>∃ σ' H',Inv X pins σ' H' s'/\Q σ' H') X.xe s
abbrev TIp:=V->V->Hp->VK->Prop
def PIp (X:Cx) (op:Operator) (t:TIp):Prop:=
  ∀ (pins:List (Addr × Obj)) (s:Shared) (σ:St) (H:Hp) (x y:V) (v u:Value) (Q:VK),Inv X pins σ H s->RelV x v->RelV y u->t x y H Q->
    wpAny (model X.prog X.w) X.A (inplaceOp op v u) (EP X pins σ Q) X.xe s
section
variable {X:Cx} {pos:Pos}
def AA (i:Nat):TG:=λ v σ H Q=>Q (σ.set i (some v)) H
theorem AE {i:Nat} {x:Str} (hN:X.N.Nodup) (hi:X.N[i]?=some x) (hx:Loc X.env.scope x) (hf:X.fn x=true\/X.env.scope.names.lookup x=some .local:=by first | exact .inl rfl | exact .inr rfl | assumption):PG X (.Name x pos) (AA i):=by
  intro pins s σ H v u Q I r h;exact wpAny_assign_Name (B6 I hN hi hx r (λ s' I'=>⟨_,H,I',h⟩) hf)
def FR:TGs:=λ vs σ H Q=>vs=[]/\Q σ H
def Be (t:TG) (u:TGs):TGs:=λ vs σ H Q=>∃ v r,vs=v::r/\t v σ H λ σ' H'=>u r σ' H' Q
theorem DH:PGs X [] FR:=by
  intro pins s σ H vs us Q I r h;obtain ⟨e,h⟩:=h;subst e;cases r;exact assignInOrder_nil ⟨σ,H,I,h⟩
theorem AZ {e:Expr} {es:List Expr} {t:TG} {u:TGs} (h1:PG X e t) (h2:PGs X es u)
    (hs:(assignEach (e::es) X.env).map (·.2)=assign e X.env::(assignEach es X.env).map (·.2):=by rfl):PGs X (e::es) (Be t u):=by
  intro pins s σ H vs us Q I r h;obtain ⟨v,vr,e1,h⟩:=h;subst e1;cases r with
  | cons r rr=>
    rw [hs];refine assignInOrder_cons (thn (h1 pins s σ H _ _ _ I r h) λ _ s1 ⟨σ1,H1,I1,q1⟩=> ?_);exact h2 pins s1 σ1 H1 _ _ Q I1 rr q1
def Fh (K:PySem.W.Frag) (n:Nat) (t:TGs):TG:=λ v σ H Q=>∃ a xs,v= .ref a/\SqT K H a xs/\xs.length=n/\t xs σ H Q
theorem KA {es:List Expr} {k:Nat} {t:TGs} {n:Nat} (hc:X.calm=true) (h:PGs X es t)
    (hn:(assignEach es X.env).length=n:=by rfl) (hst:(assignEach es X.env).findIdx? (·.1)=none:=by rfl):PG X (.Tuple es k pos) (Fh X.K n t):=by
  intro pins s σ H v u Q I r hw;obtain ⟨a,xs,e1,hq,hl,hw⟩:=hw;subst e1;cases r;obtain ⟨its,rv,ht,hz⟩:=I.tuple hq;refine assign_Tuple_tuple (I.ok.hd hc) ht (by simp [hn, <-hl,rv.length]) hst λ h' hx=> ?_;have I1:Inv X pins σ H { s with heap:=h' }:=I.kept (t':=s.toks) λ b o e=>hx b o (Nat.ne_of_lt (Heap.lt_size e)) e;exact h pins _ σ H xs _ Q I1 (by simpa using rv) hw
def Jn (te:TE) (g:TG):TS:=λ D σ H=>te σ H λ x H1=>g x σ H1 D.nx
theorem GF {tg e:Expr} {te:TE} {g:TG} (he:PE X e te) (hg:PG X tg g) (hs:swapsWithSole [tg] e pos.line X.env=pure false:=by rfl) (hw:swappedStores [tg] e X.env=pure none:=by rfl)
    (h1:(assignEach [tg] X.env).map (·.2)=[assign tg X.env]:=by rfl):PS X (.Assign [tg] e pos) (Jn te g):=by
  intro pins s σ H D I h;refine wpAny_Assign_stores (thn (he pins s σ H _ I h) λ v s1 ⟨x,H1,I1,r1,q1⟩=> ?_) hs hw;rw [h1];exact thn (hg pins s1 σ H1 x v _ I1 r1 q1) λ _ s2 q=>q
theorem Ax {i:Nat} {x:Str} {e:Expr} {te:TE} {pos':Pos} (hN:X.N.Nodup) (hi:X.N[i]?=some x) (hx:Loc X.env.scope x) (he:PE X e te) (hs:swapsWith e (some (.Name x pos')) pos.line X.env=pure false:=by rfl) (hf:X.fn x=true\/X.env.scope.names.lookup x=some .local:=by first | exact .inl rfl | exact .inr rfl | assumption):
    PS X (.Assign [.Name x pos'] e pos) (Jn te (AA i)):=by
  intro pins s σ H D I h;refine wpAny_Assign_Name (thn (he pins s σ H _ I h) λ v s1 ⟨y,H1,I1,r1,q1⟩=> ?_) hs;exact B6 I1 hN hi hx r1 (λ s2 I2=>⟨_,H1,I2,q1⟩) hf
def Os (i j:Nat) (ta:TA):TS:=λ D σ H=>ta σ H λ vs H1=>∃ v w,vs=[v,w]/\D.nx ((σ.set i (some v)).set j (some w)) H1
theorem NF {i j:Nat} {x y:Str} {a b:Expr} {ta:TA} {px py pt:Pos} {kt k2 pt2} (hc:X.calm=true) (hN:X.N.Nodup) (hi:X.N[i]?=some x) (hj:X.N[j]?=some y) (hij:i≠j)
    (hx:X.env.scope.names.lookup x=some .local) (hy:X.env.scope.names.lookup y=some .local) (ha:PA X [a,b] ta)
    (hw:swappedStores [.Tuple [.Name x px, .Name y py] kt pt] (.Tuple [a,b] k2 pt2) X.env=pure (some [x,y]))
    (hs:swapsWithSole [.Tuple [.Name x px, .Name y py] kt pt] (.Tuple [a,b] k2 pt2) pos.line X.env=pure false:=by rfl):
    PS X (.Assign [.Tuple [.Name x px, .Name y py] kt pt] (.Tuple [a,b] k2 pt2) pos) (Os i j ta):=by
  intro pins s σ H D I h;rw [exec_Assign_arm];refine wpAny_bind (wpAny_standAt ?_);rw [hs];refine wpAny_bind (wpAny_pure ?_);rw [if_neg (by decide)];refine wpAny_bind (Tuple_ (thn (ha _ pins s σ H _ I h) λ us s1 ⟨vs,H1,I1,r1,q1⟩=> ?_));obtain ⟨v,w,e1,q1⟩:=q1;subst e1;obtain ⟨u1,u2,rfl,rv,rw'⟩:∃ u1 u2,us=[u1,u2]/\RelV v u1/\RelV w u2:=by
    cases r1 with
    | cons p q=>
      cases q with
      | cons p' q'=>
        cases q';exact ⟨_,_,rfl,p,p'⟩
  refine wpAny_newObj_type ?_ (by show 2<=sizeLine;decide);have I2:Inv X pins σ H1 { s1 with heap:=s1.heap.push { cls:= .type "tuple",data:= .seq [u1,u2].toArray } }:=I1.kept (t':=s1.toks) λ b o e=>Heap.get?_push_of_some _ e;rw [hw];refine wpAny_bind (wpAny_pure ?_);show wpAny (model X.prog X.w) X.A (do rule "assign.swapped-stores";let items <-unpackItems (.ref s1.heap.objs.size) 2 none;assignInOrder [λ v=>bindName X.env y v,λ v=>bindName X.env x v] items.reverse;pure Flow.next) _ _ _;refine wpAny_bind (wpAny_rule (wpAny_bind (unpackItems_tuple (items:= #[u1,u2]) (I.ok.hd hc) (IsTup.new s1.heap _) λ h' hx'=> ?_)));have I3:=I2.kept (h':=h') (t':=s1.toks) λ b o e=>hx' b o (Nat.ne_of_lt (Heap.lt_size e)) e;show wpAny _ _ (assignInOrder [λ v=>bindName X.env y v,λ v=>bindName X.env x v] [u2,u1] >>= λ _=>pure Flow.next) _ _ _;refine wpAny_bind (assignInOrder_cons (wpAny_bindName (B6 I3 hN hj (.inl hy) rw' (λ s2 I4=> ?_) (.inr hy))));refine assignInOrder_cons (wpAny_bindName (B6 I4 hN hi (.inl hx) rv (λ s3 I5=>assignInOrder_nil (wpAny_pure ?_)) (.inr hx)));rw [List.set_comm _ _ (Ne.symm hij)] at I5;exact ⟨_,H1,I5,q1⟩
def O0 (i:Nat) (te:TE) (ti:TIp):TS:=λ D σ H=>∃ x,σ[i]?=some (some x)/\te σ H λ y H1=>ti x y H1 λ z H2=>D.nx (σ.set i (some z)) H2
theorem NB {i:Nat} {x:Str} {e:Expr} {te:TE} {op:Operator} {ti:TIp} {pos':Pos} (hN:X.N.Nodup) (hi:X.N[i]?=some x) (hx:Loc X.env.scope x) (he:PE X e te) (ho:PIp X op ti) (hf:X.fn x=true\/X.env.scope.names.lookup x=some .local:=by first | exact .inl rfl | exact .inr rfl | assumption):
    PS X (.AugAssign (.Name x pos') op e pos) (O0 i te ti):=by
  intro pins s σ H D I h;obtain ⟨v,e1,h⟩:=h;obtain ⟨m,hn,hl⟩:=I.loc;have vis:Vis X.env.scope x:=by rcases hx with k | k;exact .inl k;exact .inr (.inl k)
  obtain ⟨u,r,l⟩:=hl i x v hi e1 vis;refine wpAny_AugAssign_Name ?_;have go:wpAny (model X.prog X.w) X.A (eval e X.env) (λ w s₂=>wpAny (model X.prog X.w) X.A (inplaceOp op u w) (λ r s₃=>wpAny (model X.prog X.w) X.A (storeName X.env x r) (λ _=>SP X pins D .next) X.xe s₃) X.xe s₂) X.xe s:=by
    refine thn (he pins s σ H _ I h) λ w s1 ⟨y,H1,I1,r1,q1⟩=> ?_;refine thn (ho pins s1 σ H1 v y u w _ I1 r r1 q1) λ z s2 ⟨zv,H2,I2,r2,q2⟩=> ?_;exact B6 I2 hN hi hx r2 (λ s3 I3=>⟨_,H2,I3,q2⟩) hf
  rcases l with ⟨hk,hm⟩ | ⟨hk,c,hc,hcell⟩
  · exact wpAny_loadName_local I.ok.kind hk hn hm go
  · rcases hk with hk | hk
    · exact wpAny_loadName_cell I.ok.kind hk hc hcell go
    · rcases hx with k | k
      · have:X.env.scope.names.lookup x=some .free:=hk;rw [k] at this;cases this
      · have:X.env.scope.names.lookup x=some .free:=hk;rw [k] at this;cases this
end
section
variable {X:Cx} {pos:Pos}
end
structure It where
  go:Nat->Hp->Prop
  yld:Nat->Hp->V->Hp->Prop
  stop:Nat->Hp->Prop
def BP (X:Cx) (pins:List (Addr × Obj)) (H:Hp) (b:Addr):Prop:=
  H b=none/\b≠X.env.locals/\b∉X.fs/\(b∈X.ex\/X.s₀.heap.objs.size<=b)/\(∀ x c,X.env.cells.lookup x=some c->c≠b)/\∀ p∈X.pn++pins,p.1≠b
theorem Inv.fpOk {X:Cx} {pins:List (Addr × Obj)} {σ:St} {H H':Hp} {s:Shared} {b:Addr} (I:Inv X pins σ H s) (hb:s.heap.objs.size<=b) (hn:H' b=none):BP X pins H' b:=by
  refine ⟨hn,Nat.ne_of_gt (Nat.lt_of_lt_of_le I.lt hb),I.nofs hb, .inr (Nat.le_trans I.sz hb),λ x c e z=> ?_,λ p hp z=> ?_⟩
  · obtain ⟨v,q⟩:=I.cell x c e;exact absurd (Nat.lt_of_lt_of_le q.lt (by rw [z];exact hb)) (Nat.lt_irrefl _)
  · exact absurd (Nat.lt_of_lt_of_le (Heap.lt_size (I.pin p hp).1) (by rw [z];exact hb)) (Nat.lt_irrefl _)
structure Turn (P:Program) (w:World) (K:PySem.W.Frag) (tg:Expr) (J:It) (fp:List Addr) (it:Addr) (tn:Nat->Heap->Prop):Prop where
  mem:it∈fp
  obj:∀ i h,tn i h->∀ b∈fp,∃ o,h.get? b=some o/\∀ v,o.data≠ .cell v
  keep:∀ i h h',tn i h->(∀ b∈fp,∀ o,h.get? b=some o->h'.get? b=some o)->tn i h'
  item:∀ (X:Cx),X.prog=P->X.w=w->X.K=K->X.calm=true->∀ (i:Nat) (pins:List (Addr × Obj)) (s:Shared) (σ:St) (H:Hp) (E:Value->Shared->Prop),Inv X pins σ H s->(∀ b∈fp,BP X pins H b)->tn i s.heap->J.go i H->
    wpAny (model P w) X.A (pyNext (.ref it)) (λ r s1=>∃ u,r=some u/\
      wpAny (model P w) X.A (letOwnedTupleGo tg (.ref it) u) (λ _ s2=>∃ x H',Inv X pins σ H' s2/\RelV x u/\J.yld i H x H'/\tn (i+1) s2.heap/\∀ b∈fp,H' b=none) E s1) E s
  done:∀ (X:Cx),X.prog=P->X.w=w->X.K=K->X.calm=true->∀ (i:Nat) (pins:List (Addr × Obj)) (s:Shared) (σ:St) (H:Hp) (E:Value->Shared->Prop),Inv X pins σ H s->(∀ b∈fp,BP X pins H b)->tn i s.heap->J.stop i H->
    wpAny (model P w) X.A (pyNext (.ref it)) (λ r s1=>r=none/\Inv X pins σ H s1) E s
  self:∀ (A:Around) (i:Nat) (s:Shared) (Q:Value->Shared->Prop) (E:Value->Shared->Prop),tn i s.heap->Q (.ref it) s->wpAny (model P w) A (pyIter (.ref it)) Q E s
abbrev TI:=St->Hp->(It->Hp->Prop)->Prop
def PIE (X:Cx) (pins:List (Addr × Obj)) (σ:St) (tg:Expr) (R:It->Hp->Prop) (itv:Value) (s2:Shared):Prop:=
  ∃ (it:Addr) (fp:List Addr) (tn:Nat->Heap->Prop) (J:It) (H':Hp),itv= .ref it/\Inv X pins σ H' s2/\Turn X.prog X.w X.K tg J fp it tn/\tn 0 s2.heap/\(∀ b∈fp,BP X pins H' b)/\R J H'
def PI (X:Cx) (tg iter:Expr) (wi:TI):Prop:=
  ∀ (pins:List (Addr × Obj)) (s:Shared) (σ:St) (H:Hp) (R:It->Hp->Prop),Inv X pins σ H s->wi σ H R->
    wpAny (model X.prog X.w) X.A (eval iter X.env) (λ v s1=>wpAny (model X.prog X.w) X.A (pyIter v) (PIE X pins σ tg R) X.xe s1) X.xe s
theorem JR {M:Model} {A:Around} {E:Value->Shared->Prop} {s:Shared} {tg:Expr} {it:Addr} {u:Value} {o:Obj} {n:String} {vs:Array Value} {Q:Unit->Shared->Prop} (ho:s.heap.get? it=some o) (hc:o.cls= .type n) (hd:o.data= .fields vs)
    (hn:["enumerate","zip","dict_itemiterator","dict_reverseitemiterator","odict_iterator","itertools.zip_longest","itertools.pairwise"].contains n=false) (hQ:Q () s):wpAny M A (letOwnedTupleGo tg (.ref it) u) Q E s:=by
  unfold letOwnedTupleGo;cases tg <;> first
    | exact wpAny_pure hQ
    | (cases u <;> first
        | exact wpAny_pure hQ
        | (refine wpAny_bind (wpAny_load ho ?_)
           rw [hc,hd];show wpAny M A (if (["enumerate","zip","dict_itemiterator","dict_reverseitemiterator","odict_iterator","itertools.zip_longest","itertools.pairwise"].contains n&&vs[0]? == some (rawInt _))=true then _ else _) Q E s;rw [if_neg (by intro h;rw [hn,Bool.false_and] at h;cases h)];exact wpAny_pure hQ))
def Itl (K:PySem.W.Frag) (a:Addr):It:=
  ⟨λ i H=>∃ xs x,SqL K H a xs/\xs[i]?=some x,λ i H x H'=>H'=H/\∀ xs,SqL K H a xs->xs[i]?=some x,λ i H=>∃ xs,SqL K H a xs/\xs.length<=i⟩
def Itt (K:PySem.W.Frag) (a:Addr):It:=
  ⟨λ i H=>∃ xs x,SqT K H a xs/\xs[i]?=some x,λ i H x H'=>H'=H/\∀ xs,SqT K H a xs->xs[i]?=some x,λ i H=>∃ xs,SqT K H a xs/\xs.length<=i⟩
def Itr (lo:Int) (n:Nat):It:=⟨λ i _=>i<n,λ i H x H'=>H'=H/\x= .int (lo+i),λ i _=>n<=i⟩
theorem F9 {P:Program} {w:World} {K:PySem.W.Frag} {tg:Expr} (a it:Addr):Turn P w K tg (Itl K a) [it] it (λ i h=>h.IsListIter it a i) where
  mem:=by simp
  obj:=λ i h st b hb=>by
    have e:b=it:=by simpa using hb
    subst e;obtain ⟨o,e,c,d⟩:=st;exact ⟨o,e,λ v z=>by rw [d] at z;cases z⟩
  keep:=λ i h h' st k=>st.at λ o e=>k it (by simp) o e
  item:=by
    intro X hP hw hK hc i pins s σ H E I hf st hg;subst hP hw hK;obtain ⟨xs,x,hq,hx⟩:=hg;obtain ⟨its,rv,p,hz⟩:=I.list hq;obtain ⟨u,hu,ru⟩:=rv.get hx;obtain ⟨f0,f1,f2,f3,f4,f5⟩:=hf it (by simp);refine wpAny_pyNext_list_item st p.isList (x:=u) (by simpa using hu) λ h' st' sb=> ?_;have I1:Inv X pins σ H { s with heap:=h' }:=I.turned (t':=s.toks) (λ b o hb e=>(sb.2 b hb).trans e) f0 f1 f3 f4 f5;obtain ⟨o,e,c,d⟩:=id st';exact ⟨u,rfl,JR (s:={ s with heap:=h' }) e c d (by decide) ⟨x,H,I1,ru,⟨rfl,λ ys hy=>by rw [I.list_inj hy hq];exact hx⟩,st',λ b hb=>(hf b hb).1⟩⟩
  done:=by
    intro X hP hw hK hc i pins s σ H E I hf st hg;subst hP hw hK;obtain ⟨xs,hq,hx⟩:=hg;obtain ⟨its,rv,p,hz⟩:=I.list hq;obtain ⟨f0,f1,f2,f3,f4,f5⟩:=hf it (by simp);have hl:=rv.length;exact wpAny_pyNext_list_end (I.ok.hd hc) st p.isList (by simp;omega) λ h' eb=>⟨rfl,I.turned (t':=s.toks) (λ b o hb e=>eb b o hb e) f0 f1 f3 f4 f5⟩
  self:=λ _ _ _ _ _ st h=>wpAny_pyIter_listiter st h
theorem Fe {P:Program} {w:World} {K:PySem.W.Frag} {tg:Expr} (a it:Addr):Turn P w K tg (Itt K a) [it] it (λ i h=>h.IsTupleIter it a i) where
  mem:=by simp
  obj:=λ i h st b hb=>by
    have e:b=it:=by simpa using hb
    subst e;obtain ⟨o,e,c,d⟩:=st;exact ⟨o,e,λ v z=>by rw [d] at z;cases z⟩
  keep:=λ i h h' st k=>st.at λ o e=>k it (by simp) o e
  item:=by
    intro X hP hw hK hc i pins s σ H E I hf st hg;subst hP hw hK;obtain ⟨xs,x,hq,hx⟩:=hg;obtain ⟨its,rv,p,hz⟩:=I.tuple hq;obtain ⟨u,hu,ru⟩:=rv.get hx;obtain ⟨f0,f1,f2,f3,f4,f5⟩:=hf it (by simp);refine wpAny_pyNext_tuple_item st (show s.heap.IsTuple a its.toArray from p) (x:=u) (by simpa using hu) λ h' st' sb=> ?_;have I1:Inv X pins σ H { s with heap:=h' }:=I.turned (t':=s.toks) (λ b o hb e=>(sb.2 b hb).trans e) f0 f1 f3 f4 f5;obtain ⟨o,e,c,d⟩:=id st';exact ⟨u,rfl,JR (s:={ s with heap:=h' }) e c d (by decide) ⟨x,H,I1,ru,⟨rfl,λ ys hy=>by rw [I.tuple_inj hy hq];exact hx⟩,st',λ b hb=>(hf b hb).1⟩⟩
  done:=by
    intro X hP hw hK hc i pins s σ H E I hf st hg;subst hP hw hK;obtain ⟨xs,hq,hx⟩:=hg;obtain ⟨its,rv,p,hz⟩:=I.tuple hq;obtain ⟨f0,f1,f2,f3,f4,f5⟩:=hf it (by simp);have hl:=rv.length;exact wpAny_pyNext_tuple_end (I.ok.hd hc) st (show s.heap.IsTuple a its.toArray from p) (by simp;omega) λ h' eb=>⟨rfl,I.turned (t':=s.toks) (λ b o hb e=>eb b o hb e) f0 f1 f3 f4 f5⟩
  self:=λ _ _ _ _ _ st h=>wpAny_pyIter_tupleiter st h
theorem HI {P:Program} {w:World} {K:PySem.W.Frag} {tg:Expr} (it:Addr) (lo:Int) (n:Nat):Turn P w K tg (Itr lo n) [it] it (λ i h=>IsRangeIter h it (lo+(i:Nat)*1) ((n:Int) - (i:Nat)) 1) where
  mem:=by simp
  obj:=λ i h st b hb=>by
    have e:b=it:=by simpa using hb
    subst e;exact ⟨_,st,λ v z=>by
      have z':Data.fields _=Data.cell v:=z;cases z'⟩
  keep:=λ i h h' st k=>k it (by simp) _ st
  item:=by
    intro X hP hw hK hc i pins s σ H E I hf st hg;subst hP hw hK;obtain ⟨f0,f1,f2,f3,f4,f5⟩:=hf it (by simp);have W:=Walks.range (prog:=X.prog) (w:=X.w) (I.ok.hd hc) it lo 1 n;refine W.item i s _ _ hg st λ v h' tk hv st' kk=> ?_;obtain ⟨t,rfl⟩:=hv;have I1:Inv X pins σ H { s with heap:=h',toks:=tk }:=I.turned (λ b o hb e=>kk b o (by simpa using hb) e) f0 f1 f3 f4 f5;refine ⟨_,rfl,JR (s:={ s with heap:=h',toks:=tk }) (n:="range_iterator") st' rfl rfl (by decide) ⟨.int (lo+i),H,I1,⟨t,?_⟩,⟨rfl,rfl⟩,st',λ b hb=>(hf b hb).1⟩⟩;rw [Int.mul_one]
  done:=by
    intro X hP hw hK hc i pins s σ H E I hf st hg;subst hP hw hK;obtain ⟨f0,f1,f2,f3,f4,f5⟩:=hf it (by simp);exact wpAny_pyNext_range_end (I.ok.hd hc) st (by have:n<=i:=hg;omega) λ h' eb=>⟨rfl,I.turned (t':=s.toks) (λ b o hb e=>eb b o hb e) f0 f1 f3 f4 f5⟩
  self:=λ _ _ _ _ _ st h=>wpAny_pyIter_rangeiter st h
section
variable {X:Cx} {tg:Expr}
def KU (K:PySem.W.Frag) (tl:TE):TI:=λ σ H R=>tl σ H λ x H1=>∃ a,x= .ref a/\(∃ xs,SqL K H1 a xs)/\R (Itl K a) H1
def Nz (K:PySem.W.Frag) (tl:TE):TI:=λ σ H R=>tl σ H λ x H1=>∃ a,x= .ref a/\(∃ xs,SqT K H1 a xs)/\R (Itt K a) H1
theorem Lv {l:Expr} {tl:TE} (hl:PE X l tl):PI X tg l (KU X.K tl):=by
  intro pins s σ H R I h;refine thn (hl pins s σ H _ I h) λ v s1 ⟨x,H1,I1,r1,q1⟩=> ?_;obtain ⟨a,e,⟨xs,hq⟩,q⟩:=q1;subst e;cases r1;obtain ⟨its,rv,p,hz⟩:=I1.list hq;refine wpAny_pyIter_list p.isList ?_;refine ⟨s1.heap.objs.size,[s1.heap.objs.size],_,_,H1,rfl,I1.kept (t':=s1.toks) λ b o e=>Heap.get?_push_of_some _ e,F9 a _,⟨_,Heap.get?_push_size _ rfl,rfl,rfl⟩,λ b hb=> ?_,q⟩;have e:b=s1.heap.objs.size:=by simpa using hb
  subst e;exact I1.fpOk (Nat.le_refl _) (I1.hok.fresh (Nat.le_refl _))
theorem NC {l:Expr} {tl:TE} (hl:PE X l tl):PI X tg l (Nz X.K tl):=by
  intro pins s σ H R I h;refine thn (hl pins s σ H _ I h) λ v s1 ⟨x,H1,I1,r1,q1⟩=> ?_;obtain ⟨a,e,⟨xs,hq⟩,q⟩:=q1;subst e;cases r1;obtain ⟨its,rv,p,hz⟩:=I1.tuple hq;refine wpAny_pyIter_tuple (show s1.heap.IsTuple a its.toArray from p) ?_;refine ⟨s1.heap.objs.size,[s1.heap.objs.size],_,_,H1,rfl,I1.kept (t':=s1.toks) λ b o e=>Heap.get?_push_of_some _ e,Fe a _,⟨_,Heap.get?_push_size _ rfl,rfl,rfl⟩,λ b hb=> ?_,q⟩;have e:b=s1.heap.objs.size:=by simpa using hb
  subst e;exact I1.fpOk (Nat.le_refl _) (I1.hok.fresh (Nat.le_refl _))
theorem Hm {pins:List (Addr × Obj)} {σ:St} {H:Hp} {s:Shared} {R:It->Hp->Prop} {E:Value->Shared->Prop} {lo hi:Int} {t u v:Tok} {tk:Nat} (I:Inv X pins σ H s) (h1: -(2 ^ 62)<=lo) (h2:lo<2 ^ 62) (h3: -(2 ^ 62)<=hi) (h4:hi<2 ^ 62)
    (q:R (Itr lo (hi - lo).toNat) H):wpAny (model X.prog X.w) X.A (pyIter (.ref s.heap.objs.size)) (PIE X pins σ tg R) E { s with heap:=s.heap.push { cls:= .type "range",data:= .fields #[.int lo t, .int hi u, .int 1 v] },toks:=tk }:=by
  refine wpAny_pyIter_range (IsRange.new ..) (small_one h1 h2 h3 h4) ?_;have I1:Inv X pins σ H { s with heap:=s.heap.push { cls:= .type "range",data:= .fields #[.int lo t, .int hi u, .int 1 v] },toks:=tk }:=I.kept λ b o e=>Heap.get?_push_of_some _ e;refine ⟨(s.heap.push { cls:= .type "range",data:= .fields #[.int lo t, .int hi u, .int 1 v] }).objs.size,[(s.heap.push { cls:= .type "range",data:= .fields #[.int lo t, .int hi u, .int 1 v] }).objs.size],_,_,H,rfl,
    I1.kept (t':=tk) λ b o e=>Heap.get?_push_of_some _ e,HI _ lo (hi - lo).toNat,?_,λ b hb=> ?_,q⟩
  · have e1:lo+((0:Nat):Int)*1=lo:=by simp
    have e2:(((hi - lo).toNat:Nat):Int) - ((0:Nat):Int)=Builtin.Range.rangeSize lo hi 1:=by rw [rangeSize_one];split <;> omega
    show IsRangeIter _ _ (lo+((0:Nat):Int)*1) ((((hi - lo).toNat:Nat):Int) - ((0:Nat):Int)) 1;rw [e1,e2];exact Heap.get?_push_size _ rfl
  · have e:b=(s.heap.push { cls:= .type "range",data:= .fields #[.int lo t, .int hi u, .int 1 v] }).objs.size:=by simpa using hb
    subst e;exact I1.fpOk (Nat.le_refl _) (I1.hok.fresh (Nat.le_refl _))
def Mt (ta:TA):TI:=λ σ H R=>ta σ H λ vs H1=>∃ j:Int,vs=[.int j]/\ -(2 ^ 62)<=j/\j<2 ^ 62/\R (Itr 0 j.toNat) H1
def Ms (ta:TA):TI:=λ σ H R=>ta σ H λ vs H1=>∃ i j:Int,vs=[.int i, .int j]/\(-(2 ^ 62)<=i/\i<2 ^ 62/\ -(2 ^ 62)<=j/\j<2 ^ 62)/\R (Itr i (j - i).toNat) H1
theorem AM {a:Expr} {ta:TA} {p pos:Pos} (hg:Gl X "range") (hm:X.mg "range"=none) (ha:PA X [a] ta) (hs:starEach [a] X.env=[(false,eval a X.env)]:=by rfl):PI X tg (.Call (.Name "range" p) [a] [] pos) (Mt ta):=by
  intro pins s σ H R I h;refine Call_ (CT I hg hm boot_range (PyProof.Rows.callWith_type1 (thn (ha pos pins s σ H _ I h) λ us s1 ⟨vs,H1,I1,r1,q1⟩=> ?_) hs rfl));obtain ⟨j,e,q1,q2,q⟩:=q1;subst e;cases r1 with
  | cons r rr=>
    cases rr;obtain ⟨t,rfl⟩:=r;exact call_range_1 (Hm I1 (by omega) (by omega) q1 q2 (by simpa using q))
theorem C6 {a b:Expr} {ta:TA} {p pos:Pos} (hg:Gl X "range") (hm:X.mg "range"=none) (ha:PA X [a,b] ta) (hs:starEach [a,b] X.env=[(false,eval a X.env),(false,eval b X.env)]:=by rfl) (hs2:starEach [b] X.env=[(false,eval b X.env)]:=by rfl):
    PI X tg (.Call (.Name "range" p) [a,b] [] pos) (Ms ta):=by
  intro pins s σ H R I h;refine Call_ (CT I hg hm boot_range (PyProof.Rows.callWith_type1 (thn (ha pos pins s σ H _ I h) λ us s1 ⟨vs,H1,I1,r1,q1⟩=> ?_) (by rw [hs,hs2]) (by rw [hs2];rfl)));obtain ⟨i,j,e,⟨q1,q2,q3,q4⟩,q⟩:=q1;subst e;cases r1 with
  | cons r rr=>
    cases rr with
    | cons r' rr=>
      cases rr;obtain ⟨t,rfl⟩:=r;obtain ⟨t',rfl⟩:=r';exact call_range_2 (Hm I1 q1 q2 q3 q4 q)
def OV (wi:TI) (g:TG) (tb:TS):TS:=λ D σ H=>wi σ H λ J H1=>∃ W:Nat->Nat->St->Hp->Prop,(∃ m,W 0 m σ H1)/\∀ i m σ H,W i m σ H->
  (J.stop i H/\D.nx σ H)\/(J.go i H/\∃ N:St->Hp->Prop,(∀ σ' H',N σ' H'->∃ m',m'<m/\W (i+1) m' σ' H')/\∀ x H',J.yld i H x H'->g x σ H' λ σ2 H2=>tb { D with nx:=N,ct:=N,bk:=D.nx } σ2 H2)
def Ec (fp:List Addr) (h:Heap):List (Addr × Obj):=fp.filterMap λ b=>(h.get? b).map λ o=>(b,o)
theorem Bj {fp:List Addr} {h:Heap} {b:Addr} {o:Obj} (hb:b∈fp) (e:h.get? b=some o):(b,o)∈Ec fp h:=List.mem_filterMap.mpr ⟨b,hb,by rw [e];rfl⟩
theorem Jm {fp:List Addr} {h:Heap} {p:Addr × Obj} (hp:p∈Ec fp h):p.1∈fp/\h.get? p.1=some p.2:=by
  obtain ⟨b,hb,e⟩:=List.mem_filterMap.mp hp;cases q:h.get? b with
  | none=>rw [q] at e;cases e
  | some o=>
    rw [q] at e;have e':(b,o)=p:=Option.some.inj e;subst e';exact ⟨hb,q⟩
theorem Inv.pinned {pins:List (Addr × Obj)} {σ:St} {H:Hp} {s:Shared} {fp:List Addr} (I:Inv X pins σ H s) (hf:∀ b∈fp,BP X pins H b) (ho:∀ b∈fp,∃ o,s.heap.get? b=some o/\∀ v,o.data≠ .cell v):Inv X (pins++Ec fp s.heap) σ H s:=
  I.pins_of λ p hp=>(List.mem_append.mp hp).elim (λ z=>I.pin p (List.mem_append_right _ z)) λ z=>by
    obtain ⟨hb,e⟩:=Jm z;obtain ⟨f0,f1,f2,_⟩:=hf p.1 hb;obtain ⟨o,e',d⟩:=ho p.1 hb;rw [e] at e';cases e';exact ⟨e,f0,f1,f2,d⟩
theorem Inv.unpinned {pins pl:List (Addr × Obj)} {σ:St} {H:Hp} {s:Shared} (I:Inv X (pins++pl) σ H s):Inv X pins σ H s:=I.pins_of λ p hp=>I.pin p (List.mem_append_right _ (List.mem_append_left _ hp))
theorem CO {iter:Expr} {body:List Stmt} {wi:TI} {g:TG} {tb:TS} {pos:Pos} (hp:PassesOwn (model X.prog X.w) X.A X.env X.xe) (hc:X.calm=true) (hi:PI X tg iter wi) (hg:PG X tg g) (hb:PSs X body tb)
    (hs:∀ x,foldedSetIterable iter X.env x=pure x:=by intro _;rfl):PS X (.For tg iter body [] pos) (OV wi g tb):=by
  intro pins s σ H D I h;refine wpAny_For (thn (hi pins s σ H _ I h) λ v s1 h1=>thn h1 λ itv s2 h2=> ?_) hs;obtain ⟨it,fp,tn,J,H2,e,I2,T,st2,f2,W,⟨m0,w0⟩,turn⟩:=h2;subst e;have stat:∀ {H':Hp},(∀ b∈fp,H' b=none)->∀ b∈fp,BP X pins H' b:=λ hn b hb=>⟨hn b hb,(f2 b hb).2⟩;refine codeAny_forLoop_any (λ n s'=>∃ i σ' H',Inv X pins σ' H' s'/\tn i s'.heap/\(∀ b∈fp,H' b=none)/\W i n σ' H') ?_ m0 ⟨0,σ,H2,I2,st2,λ b hb=>(f2 b hb).1,w0⟩;rintro n s3 ⟨i,σ3,H3,I3,st3,fr3,w3⟩;rcases turn i n σ3 H3 w3 with ⟨stop,qn⟩ | ⟨go,N,hN,step⟩
  · refine wpAny_passesOwn hp (thn (T.done X rfl rfl rfl hc i pins s3 σ3 H3 X.xe I3 (stat fr3) st3 stop) λ r s4 ⟨hr,I4⟩=> ?_);subst hr;exact wpAny_execs_nil ⟨σ3,H3,I4,qn⟩
  · refine wpAny_passesOwn hp (thn (T.item X rfl rfl rfl hc i pins s3 σ3 H3 X.xe I3 (stat fr3) st3 go) λ r s4 ⟨u,hr,h4⟩=> ?_);subst hr;refine wpAny_passesOwn hp (thn h4 λ _ s5 ⟨x,H5,I5,r5,y5,st5,fr5⟩=> ?_);have I5':=I5.pinned (stat fr5) (T.obj _ _ st5);refine wpAny_passesOwn hp (thn (hg _ s5 σ3 H5 x u _ I5' r5 (step x H5 y5)) λ _ s6 ⟨σ6,H6,I6,q6⟩=> ?_);refine wpAny_passesOwn hp (thn (hb _ s6 σ6 H6 _ I6 q6) λ f s7 q7=> ?_);have again:∀ {σ7:St} {H7:Hp},Inv X (pins++Ec fp s5.heap) σ7 H7 s7->N σ7 H7->∃ m,m<n/\∃ i σ' H',Inv X pins σ' H' s7/\tn i s7.heap/\(∀ b∈fp,H' b=none)/\W i m σ' H':=λ {σ7 H7} I7 n7=>by
      obtain ⟨m',hm,w7⟩:=hN σ7 H7 n7;refine ⟨m',hm,i+1,σ7,H7,I7.unpinned,T.keep _ _ _ st5 λ b hb o e=>(I7.pin (b,o) (List.mem_append_right _ (List.mem_append_right _ (Bj hb e)))).1,λ b hb=> ?_,w7⟩;obtain ⟨o,e,d⟩:=T.obj _ _ st5 b hb;exact (I7.pin (b,o) (List.mem_append_right _ (List.mem_append_right _ (Bj hb e)))).2.1
    cases f with
    | next=>obtain ⟨σ7,H7,I7,n7⟩:=q7;exact again I7 n7
    | cont=>obtain ⟨σ7,H7,I7,n7⟩:=q7;exact again I7 n7
    | brk=>obtain ⟨σ7,H7,I7,q7⟩:=q7;exact ⟨σ7,H7,I7.unpinned,q7⟩
    | ret v=>obtain ⟨x7,σ7,H7,I7,r7,q7⟩:=q7;exact ⟨x7,σ7,H7,I7.unpinned,r7,q7⟩
end
abbrev R2:=V->V->Hp->VK->Prop
def OpR (X:Cx) (f:Value->Value->Sem Value) (r:R2):Prop:=
  ∀ (pins:List (Addr × Obj)) (s:Shared) (σ:St) (H:Hp) (x y:V) (v u:Value) (Q:VK),Inv X pins σ H s->RelV x v->RelV y u->r x y H Q->
    wpAny (model X.prog X.w) X.A (f v u) (EP X pins σ Q) X.xe s
def UnR (X:Cx) (f:Value->Sem Value) (r:V->Hp->VK->Prop):Prop:=
  ∀ (pins:List (Addr × Obj)) (s:Shared) (σ:St) (H:Hp) (x:V) (v:Value) (Q:VK),Inv X pins σ H s->RelV x v->r x H Q->
    wpAny (model X.prog X.w) X.A (f v) (EP X pins σ Q) X.xe s
def AS (X:Cx) (f:Value) (r:List V->Hp->VK->Prop):Prop:=
  ∀ (pins:List (Addr × Obj)) (s:Shared) (σ:St) (H:Hp) (xs:List V) (us:List Value) (Q:VK),Inv X pins σ H s->Vals xs us->r xs H Q->
    wpAny (model X.prog X.w) X.A (call f us) (EP X pins σ Q) X.xe s
def PQ (X:Cx) (r:V->Hp->(Bool->Hp->Prop)->Prop):Prop:=
  ∀ (pins:List (Addr × Obj)) (s:Shared) (σ:St) (H:Hp) (x:V) (v:Value) (Q:Bool->Hp->Prop),Inv X pins σ H s->RelV x v->r x H Q->
    wpAny (model X.prog X.w) X.A (truthy v) (TP X pins σ Q) X.xe s
def tOp (r:R2) (ta tb:TE):TE:=λ σ H Q=>ta σ H λ x H1=>tb σ H1 λ y H2=>r x y H2 Q
def tUn (r:V->Hp->VK->Prop) (ta:TE):TE:=λ σ H Q=>ta σ H λ x H1=>r x H1 Q
def rI (C:Int->Int->Prop) (g:Int->Int->V):R2:=λ x y H Q=>∃ i j,x= .int i/\y= .int j/\C i j/\Q (g i j) H
def rI0 (g:Int->Int->V):R2:=λ x y H Q=>∃ i j,x= .int i/\y= .int j/\Q (g i j) H
def rU (g:Int->V):V->Hp->VK->Prop:=λ x H Q=>∃ i,x= .int i/\Q (g i) H
section
variable {X:Cx} {a b c:Expr} {ta tb tc:TE} {pos:Pos}
theorem NQ (ha:PE X a ta) (hb:PE X b tb) {pins:List (Addr × Obj)} {s:Shared} {σ:St} {H:Hp} {R:V->V->Hp->Prop} (I:Inv X pins σ H s)
    (h:ta σ H λ x H1=>tb σ H1 λ y H2=>R x y H2) {Q:Value->Shared->Prop} {f:Value->Value->Sem Value}
    (hf:∀ v u s2 x y H2,Inv X pins σ H2 s2->RelV x v->RelV y u->R x y H2->wpAny (model X.prog X.w) X.A (f v u) Q X.xe s2):
    wpAny (model X.prog X.w) X.A (eval a X.env) (λ v s₁=>wpAny (model X.prog X.w) X.A (eval b X.env) (λ u s₂=>wpAny (model X.prog X.w) X.A (f v u) Q X.xe s₂) X.xe s₁) X.xe s:=by
  refine thn (ha pins s σ H _ I h) λ v s1 ⟨x,H1,I1,r1,q1⟩=> ?_;refine thn (hb pins s1 σ H1 _ I1 q1) λ u s2 ⟨y,H2,I2,r2,q2⟩=> ?_;exact hf v u s2 x y H2 I2 r1 r2 q2
theorem Ad {op:Operator} {r:R2} (ho:OpR X (binaryOp op) r) (ha:PE X a ta) (hb:PE X b tb):PE X (.BinOp a op b pos) (tOp r ta tb):=by
  intro pins s σ H Q I h;exact wpAny_BinOp (NQ ha hb I h λ v u s2 x y H2 I2 rx ry q=>ho pins s2 σ H2 x y v u Q I2 rx ry q)
theorem FZ {op:UnaryOp} {r:V->Hp->VK->Prop} (ho:UnR X (unaryOp op) r) (ha:PE X a ta):PE X (.UnaryOp op a pos) (tUn r ta):=by
  intro pins s σ H Q I h;exact UnaryOp_ (thn (ha pins s σ H _ I h) λ v s1 ⟨x,H1,I1,r1,q1⟩=>ho pins s1 σ H1 x v Q I1 r1 q1)
theorem opI {f:Value->Value->Sem Value} {C:Int->Int->Prop} {g:Int->Int->Int}
    (rule:∀ (i j:Int) (t u:Tok) (s:Shared) (Q:Value->Shared->Prop) (E:Value->Shared->Prop),C i j->Q (.int (g i j) s.toks) { s with toks:=s.toks+1 }->wpAny (model X.prog X.w) X.A (f (.int i t) (.int j u)) Q E s):
    OpR X f (rI C λ i j=> .int (g i j)):=by
  intro pins s σ H x y v u Q I rx ry h;obtain ⟨i,j,rfl,rfl,hc,q⟩:=h;obtain ⟨t,rfl⟩:=rx;obtain ⟨t',rfl⟩:=ry;exact rule i j t t' s _ _ hc ⟨.int (g i j),H,I.tok _,⟨_,rfl⟩,q⟩
theorem JS {f:Value->Value->Sem Value} {g:Int->Int->Int}
    (rule:∀ (i j:Int) (t u:Tok) (s:Shared) (Q:Value->Shared->Prop) (E:Value->Shared->Prop),Q (.int (g i j) s.toks) { s with toks:=s.toks+1 }->wpAny (model X.prog X.w) X.A (f (.int i t) (.int j u)) Q E s):
    OpR X f (rI0 λ i j=> .int (g i j)):=by
  intro pins s σ H x y v u Q I rx ry h;obtain ⟨i,j,rfl,rfl,q⟩:=h;obtain ⟨t,rfl⟩:=rx;obtain ⟨t',rfl⟩:=ry;exact rule i j t t' s _ _ ⟨.int (g i j),H,I.tok _,⟨_,rfl⟩,q⟩
theorem Lj {f:Value->Value->Sem Value} {g:Int->Int->Bool}
    (rule:∀ (i j:Int) (t u:Tok) (s:Shared) (Q:Value->Shared->Prop) (E:Value->Shared->Prop),Q (.bool (g i j)) s->wpAny (model X.prog X.w) X.A (f (.int i t) (.int j u)) Q E s):
    OpR X f (rI0 λ i j=> .bl (g i j)):=by
  intro pins s σ H x y v u Q I rx ry h;obtain ⟨i,j,rfl,rfl,q⟩:=h;obtain ⟨t,rfl⟩:=rx;obtain ⟨t',rfl⟩:=ry;exact rule i j t t' s _ _ ⟨.bl (g i j),H,I,rfl,q⟩
def O4 (i j:Int):Prop:=0<=j/\j<=1000000/\i.natAbs<2 ^ 64
def CMul (i j:Int):Prop:=(-(2 ^ 64)<i/\i<2 ^ 64)\/(-(2 ^ 64)<j/\j<2 ^ 64)
theorem CMul.ok {i j:Int} (h:CMul i j):IntMulOk i j:=by
  rcases h with ⟨h1,h2⟩ | ⟨h1,h2⟩
  · exact .of_left (intBits_le_64 h1 h2)
  · exact .of_right (intBits_le_64 h1 h2)
theorem HL (k:Nat):(0:Int)<=2 ^ k:=by
  rw [two_pow_cast];exact Int.natCast_nonneg _
theorem AB:OpR X (binaryOp .Add) (rI0 λ i j=> .int (i+j)):=JS λ _ _ _ _ _ _ _ q=>add_int q
theorem AY:OpR X (binaryOp .Sub) (rI0 λ i j=> .int (i - j)):=JS λ _ _ _ _ _ _ _ q=>sub_int q
theorem BW:OpR X (binaryOp .Mult) (rI CMul λ i j=> .int (i*j)):=opI λ _ _ _ _ _ _ _ hc q=>mul_int q hc.ok
theorem Aq:OpR X (binaryOp .Mod) (rI (λ _ j=>0<j) λ i j=> .int (i%j)):=opI λ i j _ _ _ _ _ hc q=>by
  have h1:(0:Int)<j:=hc;exact mod_int' (by omega) (by rw [Int.fmod_eq_emod_of_nonneg i (by omega)];exact q)
theorem Gx:OpR X (binaryOp .Pow) (rI O4 λ i j=> .int (i ^ j.toNat)):=opI λ _ _ _ _ _ _ _ hc q=>pow_int_small hc.1 hc.2.1 hc.2.2 q
theorem AW:OpR X (binaryOp .LShift) (rI O4 λ i j=> .int (i*2 ^ j.toNat)):=opI λ _ _ _ _ _ _ _ hc q=>lshift_int_small hc.1 hc.2.1 hc.2.2 q
theorem Gu:OpR X (binaryOp .RShift) (rI (λ _ j=>0<=j) λ i j=> .int (i / 2 ^ j.toNat)):=opI λ i j _ _ _ _ _ hc q=>
  rshift_int hc (by rw [Int.fdiv_eq_ediv_of_nonneg i (HL _)];exact q)
theorem DW:OpR X (binaryOp .BitAnd) (rI0 λ i j=> .int (Builtin.bitAnd i j)):=JS λ _ _ _ _ _ _ _ q=>and_int q
theorem Ko:OpR X (binaryOp .BitOr) (rI0 λ i j=> .int (Builtin.bitOr i j)):=JS λ _ _ _ _ _ _ _ q=>or_int q
theorem N6:OpR X (inplaceOp .BitOr) (rI0 λ i j=> .int (Builtin.bitOr i j)):=JS λ _ _ _ _ _ _ _ q=>ior_int q
theorem unI {f:Value->Sem Value} {g:Int->Int}
    (rule:∀ (i:Int) (t:Tok) (s:Shared) (Q:Value->Shared->Prop) (E:Value->Shared->Prop),Q (.int (g i) s.toks) { s with toks:=s.toks+1 }->wpAny (model X.prog X.w) X.A (f (.int i t)) Q E s):
    UnR X f (rU λ i=> .int (g i)):=by
  intro pins s σ H x v Q I rx h;obtain ⟨i,rfl,q⟩:=h;obtain ⟨t,rfl⟩:=rx;exact rule i t s _ _ ⟨.int (g i),H,I.tok _,⟨_,rfl⟩,q⟩
theorem Ea:UnR X (unaryOp .USub) (rU λ i=> .int (-i)):=unI λ _ _ _ _ _ q=>neg_int q
end
def NA:V->V->Bool
  | .non, .non=>true | .non, .int _=>true | .int _, .non=>true | .non, .bl _=>true | .bl _, .non=>true | .non, .str _=>true | .str _, .non=>true
  | .int _, .int _=>true | .bl _, .bl _=>true | .str _, .str _=>true | .byt _, .byt _=>true
  | .int _, .str _=>true | .str _, .int _=>true | .bl _, .str _=>true | .str _, .bl _=>true
  | _,_=>false
def rEq:R2:=λ x y H Q=>NA x y=true/\Q (.bl (decide (x=y))) H
def rNe:R2:=λ x y H Q=>NA x y=true/\Q (.bl (!decide (x=y))) H
theorem IC {i j:Int}:decide (V.int i=V.int j)=(i == j):=by
  rw [Bool.eq_iff_iff];simp
theorem KG {i j:Bool}:decide (V.bl i=V.bl j)=(i == j):=by
  rw [Bool.eq_iff_iff];simp
theorem Iv {i j:Str}:decide (V.str i=V.str j)=(i == j):=by
  rw [Bool.eq_iff_iff];simp
theorem IY {i j:Array UInt8}:decide (V.byt i=V.byt j)=(i.toList == j.toList):=by
  rw [Bool.eq_iff_iff];cases i;cases j;simp
section
variable {X:Cx} {a b c:Expr} {ta tb tc:TE} {pos:Pos}
theorem Au {pins:List (Addr × Obj)} {σ:St} {H:Hp} {s:Shared} {Q:VK} {k k':Bool} (I:Inv X pins σ H s) (q:Q (.bl k) H) (e:k=k'):EP X pins σ Q (.bool k') s:=by
  subst e;exact ⟨.bl k,H,I,rfl,q⟩
theorem Bb:OpR X (compareOp .Eq) rEq:=by
  intro pins s σ H x y v u Q I rx ry h;obtain ⟨hs,q⟩:=h;cases x with
  | non=>
    cases rx;cases y with
    | non=>cases ry;exact PySem.EqNone.eq_none_none (Au I q (by simp))
    | bl j=>cases ry;exact PySem.EqNone.eq_none_bool (Au I q (by simp))
    | int j=>obtain ⟨t',rfl⟩:=ry;exact PySem.EqNone.eq_none_int (Au I q (by simp))
    | str j=>obtain ⟨t',rfl⟩:=ry;exact PySem.EqNone.eq_none_str (Au I q (by simp))
    | _=>exact absurd (show false=true from hs) Bool.false_ne_true
  | bl i=>
    cases rx;cases y with
    | non=>cases ry;exact PySem.EqNone.eq_bool_none (Au I q (by simp))
    | bl j=>cases ry;exact eq_bool (Au I q KG)
    | str j=>obtain ⟨t',rfl⟩:=ry;exact PySem.EqMixed.eq_bool_str (Au I q (by simp))
    | _=>exact absurd (show false=true from hs) Bool.false_ne_true
  | int i=>
    obtain ⟨t,rfl⟩:=rx;cases y with
    | non=>cases ry;exact PySem.EqNone.eq_int_none (Au I q (by simp))
    | int j=>obtain ⟨t',rfl⟩:=ry;exact eq_int (Au I q IC)
    | str j=>obtain ⟨t',rfl⟩:=ry;exact PySem.EqMixed.eq_int_str (Au I q (by simp))
    | _=>exact absurd (show false=true from hs) Bool.false_ne_true
  | str i=>
    obtain ⟨t,rfl⟩:=rx;cases y with
    | non=>cases ry;exact PySem.EqNone.eq_str_none (Au I q (by simp))
    | bl j=>cases ry;exact PySem.EqMixed.eq_str_bool (Au I q (by simp))
    | int j=>obtain ⟨t',rfl⟩:=ry;exact PySem.EqMixed.eq_str_int (Au I q (by simp))
    | str j=>obtain ⟨t',rfl⟩:=ry;exact eq_str (Au I q Iv)
    | _=>exact absurd (show false=true from hs) Bool.false_ne_true
  | byt i=>
    obtain ⟨t,rfl⟩:=rx;cases y with
    | byt j=>obtain ⟨t',rfl⟩:=ry;exact PySem.W.eq_bytes (Au I q IY)
    | _=>exact absurd (show false=true from hs) Bool.false_ne_true
  | _=>cases y <;> exact absurd (show false=true from hs) Bool.false_ne_true
theorem G0:OpR X (compareOp .NotEq) rNe:=by
  intro pins s σ H x y v u Q I rx ry h;obtain ⟨hs,q⟩:=h;cases x with
  | non=>
    cases rx;cases y with
    | non=>cases ry;exact PySem.EqNone.ne_none_none (Au I q (by simp))
    | bl j=>cases ry;exact PySem.EqNone.ne_none_bool (Au I q (by simp))
    | int j=>obtain ⟨t',rfl⟩:=ry;exact PySem.EqNone.ne_none_int (Au I q (by simp))
    | str j=>obtain ⟨t',rfl⟩:=ry;exact PySem.EqNone.ne_none_str (Au I q (by simp))
    | _=>exact absurd (show false=true from hs) Bool.false_ne_true
  | bl i=>
    cases rx;cases y with
    | non=>cases ry;exact PySem.EqNone.ne_bool_none (Au I q (by simp))
    | bl j=>cases ry;exact ne_bool (Au I q (congrArg not KG))
    | str j=>obtain ⟨t',rfl⟩:=ry;exact PySem.EqMixed.ne_bool_str (Au I q (by simp))
    | _=>exact absurd (show false=true from hs) Bool.false_ne_true
  | int i=>
    obtain ⟨t,rfl⟩:=rx;cases y with
    | non=>cases ry;exact PySem.EqNone.ne_int_none (Au I q (by simp))
    | int j=>obtain ⟨t',rfl⟩:=ry;exact ne_int (Au I q (congrArg not IC))
    | str j=>obtain ⟨t',rfl⟩:=ry;exact PySem.EqMixed.ne_int_str (Au I q (by simp))
    | _=>exact absurd (show false=true from hs) Bool.false_ne_true
  | str i=>
    obtain ⟨t,rfl⟩:=rx;cases y with
    | non=>cases ry;exact PySem.EqNone.ne_str_none (Au I q (by simp))
    | bl j=>cases ry;exact PySem.EqMixed.ne_str_bool (Au I q (by simp))
    | int j=>obtain ⟨t',rfl⟩:=ry;exact PySem.EqMixed.ne_str_int (Au I q (by simp))
    | str j=>obtain ⟨t',rfl⟩:=ry;exact ne_str (Au I q (congrArg not Iv))
    | _=>exact absurd (show false=true from hs) Bool.false_ne_true
  | byt i=>
    obtain ⟨t,rfl⟩:=rx;cases y with
    | byt j=>obtain ⟨t',rfl⟩:=ry;exact PySem.W.ne_bytes (Au I q (congrArg not IY))
    | _=>exact absurd (show false=true from hs) Bool.false_ne_true
  | _=>cases y <;> exact absurd (show false=true from hs) Bool.false_ne_true
theorem F3:OpR X (compareOp .Lt) (rI0 λ i j=> .bl (decide (i<j))):=Lj λ _ _ _ _ _ _ _ q=>lt_int q
theorem Mh:OpR X (compareOp .LtE) (rI0 λ i j=> .bl (decide (i<=j))):=Lj λ _ _ _ _ _ _ _ q=>le_int q
theorem O3:OpR X (compareOp .Gt) (rI0 λ i j=> .bl (decide (j<i))):=Lj λ _ _ _ _ _ _ _ q=>gt_int q
theorem OQ:OpR X (compareOp .GtE) (rI0 λ i j=> .bl (decide (j<=i))):=Lj λ _ _ _ _ _ _ _ q=>ge_int q
theorem M7:OpR X (compareOp .Is) (λ x y H Q=>y= .non/\Q (.bl (decide (x= .non))) H):=by
  intro pins s σ H x y v u Q I rx ry h;obtain ⟨rfl,q⟩:=h;cases ry;refine is_none_gen (Au I q ?_);cases x <;> first
    | (cases rx;rfl)
    | (obtain ⟨t,rfl⟩:=rx;rfl)
theorem LQ:OpR X (compareOp .IsNot) (λ x y H Q=>y= .non/\Q (.bl (!decide (x= .non))) H):=by
  intro pins s σ H x y v u Q I rx ry h;obtain ⟨rfl,q⟩:=h;cases ry;refine isnot_none_gen (Au I q ?_);cases x <;> first
    | (cases rx;rfl)
    | (obtain ⟨t,rfl⟩:=rx;rfl)
theorem An (b:Expr) {op:CmpOp} (h:op≠ .In:=by decide) (h2:op≠ .NotIn:=by decide):behindInMarks op b=false:=by
  have e1:(op == CmpOp.In)=false:=by cases op <;> first | rfl | exact absurd rfl h
  have e2:(op == CmpOp.NotIn)=false:=by cases op <;> first | rfl | exact absurd rfl h2
  cases b <;> simp [behindInMarks,e1,e2]
theorem AL {op:CmpOp} {r:R2} (ho:OpR X (compareOp op) r) (ha:PE X a ta) (hb:PE X b tb) (hm:behindInMarks op b=false):PE X (.Compare a [op] [b] pos) (tOp r ta tb):=by
  intro pins s σ H Q I h;exact wpAny_Compare1 (NQ ha hb I h λ v u s2 x y H2 I2 rx ry q=>ho pins s2 σ H2 x y v u Q I2 rx ry q) hm
def Mp (t:TE):TT:=λ σ H Q=>t σ H λ x H'=>∃ k,x= .bl k/\Q k H'
theorem Ap {op:CmpOp} {r:R2} (ho:OpR X (compareOp op) r) (ha:PE X a ta) (hb:PE X b tb) (hm:behindInMarks op b=false):PT X (.Compare a [op] [b] pos) (Mp (tOp r ta tb)):=by
  intro pins s σ H Q I h;refine wpAny_isTrue_Compare1 (thn (ha pins s σ H _ I h) λ v s1 ⟨x,H1,I1,r1,q1⟩=>thn (hb pins s1 σ H1 _ I1 q1) λ u s2 ⟨y,H2,I2,r2,q2⟩=>
    thn (ho pins s2 σ H2 x y v u _ I2 r1 r2 q2) λ c s3 ⟨z,H3,I3,r3,k,e,q3⟩=> ?_) hm
  subst e;cases r3;exact wpAny_truthy_bool ⟨H3,I3,q3⟩
def JZ (r r':R2) (ta tb tc:TE):TE:=λ σ H Q=>ta σ H λ x H1=>tb σ H1 λ y H2=>r x y H2 λ z H3=>∃ k,z= .bl k/\
  (if k=true then tc σ H3 λ w' H4=>r' y w' H4 Q else Q (.bl false) H3)
theorem G2 {op op':CmpOp} {r r':R2} (ho:OpR X (compareOp op) r) (ho':OpR X (compareOp op') r') (ha:PE X a ta) (hb:PE X b tb) (hc:PE X c tc)
    (hm:lastMarks [op,op'] [b,c]=false:=by with_unfolding_all rfl):PE X (.Compare a [op,op'] [b,c] pos) (JZ r r' ta tb tc):=by
  intro pins s σ H Q I h;refine Compare_chain (thn (ha pins s σ H _ I h) λ v s1 ⟨x,H1,I1,r1,q1⟩=>chain_link (thn (hb pins s1 σ H1 _ I1 q1) λ u s2 ⟨y,H2,I2,r2,q2⟩=>
    thn (ho pins s2 σ H2 x y v u _ I2 r1 r2 q2) λ d s3 ⟨z,H3,I3,r3,k,e,q3⟩=> ?_)) hm
  subst e;cases r3;refine wpAny_truthy_bool ?_;cases k with
  | false=>exact ite_ff ⟨.bl false,H3,I3,rfl,q3⟩
  | true=>exact ite_tt (chain_last (thn (hc pins s3 σ H3 _ I3 q3) λ w' s4 ⟨z',H4,I4,r4,q4⟩=>ho' pins s4 σ H4 y z' u w' Q I4 r2 r4 q4))
def PN (K:PySem.W.Frag) (x:V) (H:Hp) (k:Bool):Prop:=
  match x with
  | .non=>k=false
  | .bl b=>k=b
  | .int i=>k=(i != 0)
  | .str y=>y.length<=sizeLine/\k=((y.length:Int) != 0)
  | .byt y=>y.size<=sizeLine/\k=((y.size:Int) != 0)
  | .ref p=>(∃ xs,SqL K H p xs/\k= !xs.isEmpty)\/(∃ xs,SqT K H p xs/\k= !xs.isEmpty)\/∃ kvs,H p=some (.dK kvs)/\k= !kvs.isEmpty
  | _=>False
theorem HK {κ:Type} {kvs:List (κ × V)} {vs:List (κ × Value)} (r:KV kvs vs):(!vs.isEmpty)= !kvs.isEmpty:=by
  cases r <;> rfl
theorem Fp {xs:List V} {its:List Value} (r:Vals xs its):(!its.toArray.isEmpty)= !xs.isEmpty:=by
  cases r <;> simp
theorem GV:(sizeLine:Nat)<2 ^ 63:=by rw [sizeLine_eq];decide
theorem PY:PQ X (λ x H Q=>∃ k,PN X.K x H k/\Q k H):=by
  intro pins s σ H x v Q I rx h;obtain ⟨k,e,q⟩:=h;have hl:=GV;have hs:sizeLine=16777216:=sizeLine_eq;cases x with
  | non=>
    cases rx;have e':k=false:=e;subst e';exact truthy_none ⟨H,I,q⟩
  | bl b=>
    cases rx;have e':k=b:=e;subst e';exact wpAny_truthy_bool ⟨H,I,q⟩
  | int i=>
    obtain ⟨t,rfl⟩:=rx;have e':k=(i != 0):=e;subst e';exact PySem.P.truthy_int ⟨H,I,q⟩
  | str y=>
    obtain ⟨t,rfl⟩:=rx;obtain ⟨hy,e'⟩:y.length<=sizeLine/\k=((y.length:Int) != 0):=e;subst e';exact PySem.P.truthy_str (by omega) ⟨H,I.tok _,q⟩
  | byt y=>
    obtain ⟨t,rfl⟩:=rx;obtain ⟨hy,e'⟩:y.size<=sizeLine/\k=((y.size:Int) != 0):=e;subst e';exact PySem.W.truthy_bytes (by omega) ⟨H,I.tok _,q⟩
  | ref p=>
    cases rx;have e':(∃ xs,SqL X.K H p xs/\k= !xs.isEmpty)\/(∃ xs,SqT X.K H p xs/\k= !xs.isEmpty)\/∃ kvs,H p=some (.dK kvs)/\k= !kvs.isEmpty:=e;rcases e' with ⟨xs,hx,e'⟩ | ⟨xs,hx,e'⟩ | ⟨kvs,hx,e'⟩
    · subst e';obtain ⟨its,r,pl,hz⟩:=I.list hx;have hlen:=r.length;exact wpAny_truthy_list pl.isList (by simp only [List.size_toArray];omega) ⟨H,I.tok _,by rw [Fp r];exact q⟩
    · subst e';obtain ⟨its,r,pl,hz⟩:=I.tuple hx;have hlen:=r.length;exact truthy_tuple pl (by simp only [List.size_toArray];omega) ⟨H,I.tok _,by rw [Fp r];exact q⟩
    · subst e';obtain ⟨hz,hS,vs,r,m⟩:kvs.length<=sizeLine/\(p == sysModules)=false/\∃ vs,KV kvs vs/\s.heap.DictOf (Gy X.prog X.w) p vs:=I.hok p _ hx;have hlen:kvs.length=vs.length:=Paired.length r;exact wpAny_truthy_dict hS m (by omega) ⟨H,I.tok _,by rw [HK r];exact q⟩
  | _=>exact (show False from e).elim
theorem HP:OpR X (binaryOp .Add) (λ x y H Q=>∃ i j,x= .str i/\y= .str j/\i.length+j.length<=sizeLine/\Q (.str (i++j)) H):=by
  intro pins s σ H x y v u Q I rx ry h;obtain ⟨i,j,rfl,rfl,hz,q⟩:=h;obtain ⟨t,rfl⟩:=rx;obtain ⟨t',rfl⟩:=ry;exact add_str (λ t' tk=>⟨.str (i++j),H,I.tok _,⟨_,rfl⟩,q⟩) hz
theorem DO {x:V} {us:List Value} (r:Vals [x] us):∃ u,us=[u]/\RelV x u:=by
  cases r with
  | cons r1 r2=>cases r2;exact ⟨_,rfl,r1⟩
theorem IS {x y:V} {us:List Value} (r:Vals [x,y] us):∃ u w',us=[u,w']/\RelV x u/\RelV y w':=by
  cases r with
  | cons r1 r2=>
    cases r2 with
    | cons r3 r4=>cases r4;exact ⟨_,_,rfl,r1,r3⟩
theorem JG (hc:X.calm=true):AS X (.builtin "max") (λ xs H Q=>∃ i j,xs=[.int i, .int j]/\Q (.int (if j>i then j else i)) H):=by
  intro pins s σ H xs us Q I r h;obtain ⟨i,j,rfl,q⟩:=h;obtain ⟨u,w',rfl,⟨t,rfl⟩,⟨t',rfl⟩⟩:=IS r;refine max_two_ints (I.ok.hd hc) λ h' tk k=>⟨_,H,I.kept k,?_,q⟩;by_cases hj:j>i
  · rw [if_pos hj,if_pos hj];exact ⟨_,rfl⟩
  · rw [if_neg hj,if_neg hj];exact ⟨_,rfl⟩
theorem JB (hc:X.calm=true):AS X (.builtin "min") (λ xs H Q=>∃ i j,xs=[.int i, .int j]/\Q (.int (if j<i then j else i)) H):=by
  intro pins s σ H xs us Q I r h;obtain ⟨i,j,rfl,q⟩:=h;obtain ⟨u,w',rfl,⟨t,rfl⟩,⟨t',rfl⟩⟩:=IS r;refine min_two_ints (I.ok.hd hc) λ h' tk k=>⟨_,H,I.kept k,?_,q⟩;by_cases hj:j<i
  · rw [if_pos hj,if_pos hj];exact ⟨_,rfl⟩
  · rw [if_neg hj,if_neg hj];exact ⟨_,rfl⟩
theorem Jw:AS X (.type "int") (λ xs H Q=>(∃ i,xs=[.int i]/\Q (.int i) H)\/∃ k,xs=[.bl k]/\Q (.int (if k then 1 else 0)) H):=by
  intro pins s σ H xs us Q I r h;rcases h with ⟨i,rfl,q⟩ | ⟨k,rfl,q⟩
  · obtain ⟨u,rfl,t,rfl⟩:=DO r;exact call_int_int ⟨.int i,H,I,⟨_,rfl⟩,q⟩
  · obtain ⟨u,rfl,r1⟩:=DO r;cases r1;exact call_int_bool ⟨.int (if k then 1 else 0),H,I.tok _,⟨_,rfl⟩,q⟩
theorem GR:AS X (.type "str") (λ xs H Q=>∃ i,xs=[.int i]/\i.natAbs.log2<1920/\Q (.str (toString i)) H):=by
  intro pins s σ H xs us Q I r h;obtain ⟨i,rfl,hz,q⟩:=h;obtain ⟨u,rfl,t,rfl⟩:=DO r;exact PySem.P.str_of_int hz ⟨.str _,H,I.tok _,⟨_,rfl⟩,q⟩
def OC (K:PySem.W.Frag) (x:V) (H:Hp) (n:Nat):Prop:=
  match x with
  | .str y=>y.length<=sizeLine/\n=y.length
  | .byt y=>y.size<=sizeLine/\n=y.size
  | .ref p=>(∃ xs,SqL K H p xs/\n=xs.length)\/∃ xs,SqT K H p xs/\n=xs.length
  | _=>False
theorem Kh:AS X (.builtin "len") (λ xs H Q=>∃ x n,xs=[x]/\OC X.K x H n/\Q (.int n) H):=by
  intro pins s σ H xs us Q I r h;obtain ⟨x,n,rfl,e,q⟩:=h;obtain ⟨u,rfl,rx⟩:=DO r;have hl:=GV;have hs:sizeLine=16777216:=sizeLine_eq;cases x with
  | str y=>
    obtain ⟨t,rfl⟩:=rx;obtain ⟨hy,e'⟩:y.length<=sizeLine/\n=y.length:=e;subst e';exact len_str (by omega) ⟨.int _,H,I.tok _,⟨_,rfl⟩,q⟩
  | byt y=>
    obtain ⟨t,rfl⟩:=rx;obtain ⟨hy,e'⟩:y.size<=sizeLine/\n=y.size:=e;subst e';exact PySem.W.len_bytes (by omega) ⟨.int _,H,I.tok _,⟨_,rfl⟩,q⟩
  | ref p=>
    cases rx;have e':(∃ xs,SqL X.K H p xs/\n=xs.length)\/∃ xs,SqT X.K H p xs/\n=xs.length:=e;rcases e' with ⟨xs,hx,e'⟩ | ⟨xs,hx,e'⟩
    · subst e';obtain ⟨its,r',pl,hz⟩:=I.list hx;have hlen:=r'.length;exact Calls.call_len_list pl.isList (by simp only [List.size_toArray];omega) ⟨.int xs.length,H,I.tok _,⟨_,by simp only [List.size_toArray];rw [hlen]⟩,q⟩
    · subst e';obtain ⟨its,r',pl,hz⟩:=I.tuple hx;have hlen:=r'.length;exact len_tuple pl (by simp only [List.size_toArray];omega) ⟨.int xs.length,H,I.tok _,⟨_,by simp only [List.size_toArray];rw [hlen]⟩,q⟩
  | _=>exact (show False from e).elim
end
structure ObjM (h:Heap) (x dx C:Addr) (mA:Str->Option Value):Prop where
  obj:h.get? x=some (PySem.W.instObj C dx)
  ns:h.Ns1 dx mA
  ne:dx≠x
theorem Jf {h:Heap} {dx:Addr} {mA:Str->Option Value} (n:h.Ns1 dx mA):∃ od,h.get? dx=some od/\∀ name,PySem.W.lookIn name od=some (mA name):=by
  obtain ⟨o,es,ep,ho,hd,hk,_,hm⟩:=n;refine ⟨o,ho,λ name=> ?_⟩;have e:=hm name;unfold nsFind findBy at e;rw [<-Array.find?_toList] at e;unfold PySem.W.lookIn;rw [hd];dsimp only;split
  · rename_i y q
    rw [q] at e;exact congrArg some e
  · rename_i q
    rw [q] at e;have a:es.toList.any (·.refKey)=false:=by
      rw [List.any_eq_false];intro y hy;obtain ⟨z,t,hkey⟩:=hk y (Array.mem_toList_iff.mp hy);simp [DictEntry.refKey,hkey]
    have a':¬ es.toList.any (·.refKey)=true:=by rw [a];exact Bool.false_ne_true
    rw [if_neg a'];exact congrArg some e
theorem ObjM.look {h:Heap} {x dx C:Addr} {mA:Str->Option Value} (I:ObjM h x dx C mA):∃ od,PySem.W.InstAt h x (PySem.W.instObj C dx) C (some od)/\∀ name,PySem.W.lookIn name od=some (mA name):=
  let ⟨od,ho,hl⟩:=Jf I.ns
  ⟨od,⟨I.obj,rfl,rfl,ho⟩,hl⟩
section
variable {prog:Program} {w:World} {A:Around} {E:Value->Shared->Prop} {s:Shared} {K:PySem.W.Frag} {x dx C f:Addr} {mA:Str->Option Value} {name:Str} {v:Value}
theorem LS {expr:Bool} {Q:Value->Shared->Prop} (X:K.In s.heap) (I:ObjM s.heap x dx C mA) (hg:PySem.W.plainGet K C name=true) (hh:PySem.W.hasDictIn K C=true)
    (ha:PySem.W.findIn K (.ref C) name=some none) (hv:mA name=some v) (hv':PySem.W.handedIn v=true) (h:Q v { s with toks:=s.toks+1 }):
    wpAny (model prog w) A (getAttr (.ref x) name expr) Q E s:=by
  obtain ⟨od,J,hl⟩:=I.look;exact PySem.W.get_value X J (PySem.W.plainGet_of hg).1 (PySem.W.findObj_own hh ha rfl (by rw [hl,hv])) hv' h
theorem Km {pl:Sem Bool} {Q:Value × List Value->Shared->Prop} (X:K.In s.heap) (I:ObjM s.heap x dx C mA) (hg:PySem.W.plainGet K C name=true)
    (hf:PySem.W.findIn K (.ref C) name=some (some (.ref f))) (ht:PySem.W.isFn K (.ref f)=true) (hv:mA name=none) (h:Q (.ref f,[.ref x]) s):
    wpAny (model prog w) A (getMethod (.ref x) name pl) Q E s:=by
  obtain ⟨od,J,hl⟩:=I.look;exact PySem.W.method_fn X J (PySem.W.plainGet_of hg).1 (PySem.W.plainGet_of hg).2 hf (beq_iff_eq.mp ht) (by show (PySem.W.lookIn name od).map (·.isSome)=some false;rw [hl,hv];rfl) h
theorem Lm {ns:List Str} {Q:Unit->Shared->Prop} (X:K.In s.heap) (I:ObjM s.heap x dx C mA)
    (hs:PySem.W.findIn K (.ref C) "__setattr__"=some (some (.builtin "object.__setattr__"))) (hp:PySem.W.plainOver K C=true) (ht:PySem.W.takerIn K C name=some none) (hh:PySem.W.hasDictIn K C=true)
    (hw:PySem.Within mA ns) (hsz:ns.length<=sizeLine)
    (h:∀ h',ObjM h' x dx C (λ y=>if y=name then some v else mA y)->Heap.SameBut dx s.heap h'->Q () { s with heap:=h',toks:=s.toks+2 }):
    wpAny (model prog w) A (setAttr (.ref x) name v) Q E s:=by
  obtain ⟨od,J,hl⟩:=I.look;refine PySem.W.set_plain X J hs (PySem.W.osa_open (s:={ s with toks:=s.toks+1 }) (r:=none) X J hp ht λ b=> ?_);obtain ⟨cd,hc,hd'⟩:=PySem.W.any_some hh;have hx:s.heap.get? x=some ⟨.ref C,some dx, .plain, #[]⟩:=I.obj;refine wpAny_bind (wpAny_pure (wpAny_bind (wpAny_bind (wpAny_loadPart hx (wpAny_bind (PySem.W.Looks.here (s:={ s with toks:=s.toks+1 }) (PySem.W.looks_clsIn X hc) ?_))))));rw [hd'];refine wpAny_pure (a:=some dx) (wpAny_bind (wpAny_pure (wpAny_bind ?_)));refine wpAny_nsSet1 (s:={ s with toks:=s.toks+1 }) I.ns λ h' hn2 hs2=> ?_;obtain ⟨oD,esD,epD,hoD,hdD,hcD⟩:=hn2.count (PySem.Within.cons name v hw);refine wpAny_bind (wpAny_lookBehind hoD (by rw [hdD];exact pastItsLine_dict (Nat.le_trans hcD (by rw [List.length_cons];omega))) ?_);exact wpAny_pure (h _ ⟨(hs2.2 _ (Ne.symm I.ne)).trans I.obj,hn2,I.ne⟩ hs2)
theorem KR {R:Result->Shared->Prop} {vs:List Value} {kw:List (Str × Value)} (X:K.In s.heap) (hm:PySem.W.makesIn K C=true)
    (hi:PySem.W.findIn K (.ref C) "__init__"=some (some (.ref f))) (hf:PySem.W.typeIn K (.ref f)=some (.type "function"))
    (h:codeAny (model prog w) (A.under (.builtin "type.__call__" ⟨.ref C::vs,kw⟩)) (.call (.ref f) ⟨.ref (s.heap.objs.size+1)::vs,kw⟩) (PySem.W.InitBack (s.heap.objs.size+1) R)
      { s with heap:=(s.heap.push PySem.W.emptyDict).push (PySem.W.instObj C s.heap.objs.size) }):
    codeAny (model prog w) A (.call (.ref C) ⟨vs,kw⟩) R s:=by
  obtain ⟨hh,g,d,t,os⟩:=s;exact PySem.W.make_core (PySem.W.makes_of X hm) (PySem.W.looks_findIn X hi) (λ self=>PySem.W.bind_fn X self hf) (.inl rfl) h
end
def Ce (f:Str) (v:V):List (Str × V)->List (Str × V)
  | []=>[(f,v)]
  | (g,x)::r=>if g=f then (g,v)::r else (g,x)::Ce f v r
theorem EC (f g:Str) (v:V):∀ fs:List (Str × V),(Ce f v fs).lookup g=if g=f then some v else fs.lookup g
  | []=>by
    show List.lookup g [(f,v)]=_;by_cases h:g=f
    · have hb:(g == f)=true:=beq_iff_eq.mpr h;simp only [List.lookup,hb,if_pos h]
    · have hb:(g == f)=false:=beq_eq_false_iff_ne.mpr h;simp only [List.lookup,hb,if_neg h]
  | (k,x)::r=>by
    have ih:=EC f g v r;rw [show Ce f v ((k,x)::r)=(if k=f then (k,v)::r else (k,x)::Ce f v r) from rfl];by_cases hk:k=f
    · rw [if_pos hk];by_cases h:g=k
      · have hb:(g == k)=true:=beq_iff_eq.mpr h;simp only [List.lookup,hb,if_pos (h.trans hk)]
      · have hb:(g == k)=false:=beq_eq_false_iff_ne.mpr h;simp only [List.lookup,hb,if_neg (λ e:g=f=>h (e.trans hk.symm))]
    · rw [if_neg hk];by_cases h:g=k
      · have hb:(g == k)=true:=beq_iff_eq.mpr h;simp only [List.lookup,hb,if_neg (λ e:g=f=>hk (h.symm.trans e))]
      · have hb:(g == k)=false:=beq_eq_false_iff_ne.mpr h;simp only [List.lookup,hb];exact ih
theorem Em (f:Str) (v:V):∀ fs:List (Str × V),f∈(Ce f v fs).map (·.1)/\∀ g,g∈fs.map (·.1)->g∈(Ce f v fs).map (·.1)
  | []=>⟨by simp [Ce],λ g h=>by simp at h⟩
  | (k,x)::r=>by
    obtain ⟨i1,i2⟩:=Em f v r;rw [show Ce f v ((k,x)::r)=(if k=f then (k,v)::r else (k,x)::Ce f v r) from rfl];by_cases hk:k=f
    · rw [if_pos hk];subst hk;exact ⟨by simp,λ g h=>by simpa using h⟩
    · rw [if_neg hk];refine ⟨?_,λ g h=> ?_⟩
      · rw [List.map_cons];exact List.mem_cons_of_mem _ i1
      · rw [List.map_cons] at h ⊢;rcases List.mem_cons.mp h with e | e
        · exact List.mem_cons.mpr (.inl e)
        · exact List.mem_cons_of_mem _ (i2 g e)
theorem EB (f:Str) (v:V):∀ fs:List (Str × V),(Ce f v fs).length<=fs.length+1
  | []=>by simp [Ce]
  | (k,x)::r=>by
    have ih:=EB f v r;rw [show Ce f v ((k,x)::r)=(if k=f then (k,v)::r else (k,x)::Ce f v r) from rfl];by_cases hk:k=f
    · rw [if_pos hk,List.length_cons,List.length_cons];omega
    · rw [if_neg hk,List.length_cons,List.length_cons];omega
theorem RelO.some_of {v:V} {o:Option Value} (r:RelO (some v) o):∃ u,o=some u/\RelV v u:=by
  cases o with
  | none=>exact (show False from r).elim
  | some u=>exact ⟨u,rfl,r⟩
theorem RelO.none_of {o:Option Value} (r:RelO none o):o=none:=by
  cases o with
  | none=>rfl
  | some u=>exact (show False from r).elim
theorem Jd {v:V} {u:Value} (r:RelV v u):PySem.W.handedIn u=true:=by
  cases v with
  | non=>cases (show u=Value.none from r);rfl
  | bl b=>cases (show u=Value.bool b from r);rfl
  | int i=>obtain ⟨t,e⟩:=(show ∃ t,u=Value.int i t from r);cases e;rfl
  | str x=>obtain ⟨t,e⟩:=(show ∃ t,u=Value.str x t from r);cases e;rfl
  | byt b=>obtain ⟨t,e⟩:=(show ∃ t,u=Value.bytes b t from r);cases e;rfl
  | flt b=>obtain ⟨t,e⟩:=(show ∃ t,u=Value.float b t from r);cases e;rfl
  | ref a=>cases (show u=Value.ref a from r);rfl
  | ty n=>cases (show u=Value.type n from r);rfl
section
variable {P:Program} {w:World} {H H':Hp} {h h':Heap} {a C dx:Addr} {fs fs':List (Str × V)}
theorem DI (hok:HOk P w H h) (e:H a=some (.ins C dx fs)):∃ mA,ObjM h a dx C mA/\(∀ f,RelO (fs.lookup f) (mA f))/\PySem.Within mA (fs.map (·.1))/\fs.length<=1000/\H dx=some (.own a):=by
  obtain ⟨d,z,ne,ob,mA,n,r,q⟩:=(show ObjOk P w H h a (.ins C dx fs) from hok a _ e);exact ⟨mA,⟨ob,n,ne⟩,r,q,z,d⟩
end
structure Cls (K:PySem.W.Frag) (C:Addr):Prop where
  pg:PySem.W.plainGet K C Str.empty=true
  hd:PySem.W.hasDictIn K C=true
  po:PySem.W.plainOver K C=true
  sa:PySem.W.findIn K (.ref C) "__setattr__"=some (some (.builtin "object.__setattr__"))
theorem Cls.get {K:PySem.W.Frag} {C:Addr} (c:Cls K C) (f:Str):PySem.W.plainGet K C f=true:=c.pg
def NoAttr (K:PySem.W.Frag) (C:Addr) (f:Str):Prop:=PySem.W.findIn K (.ref C) f=some none
theorem NoAttr.taker {K:PySem.W.Frag} {C:Addr} {f:Str} (n:NoAttr K C f):PySem.W.takerIn K C f=some none:=by
  unfold PySem.W.takerIn;rw [show PySem.W.findIn K (.ref C) f=some none from n];rfl
structure Con (K:PySem.W.Frag) (C:Addr) (f:Str) (v:V) (u:Value):Prop where
  at_:PySem.W.findIn K (.ref C) f=some (some u)
  rel:RelV v u
  get:PySem.W.specialIn K u "__get__"=some none
  cp:PySem.W.copiedNames.contains f=false
structure Meth (K:PySem.W.Frag) (C:Addr) (m:Str) (f:Addr):Prop where
  at_:PySem.W.findIn K (.ref C) m=some (some (.ref f))
  fn:PySem.W.isFn K (.ref f)=true
  kp:PySem.W.keepIn K (.ref f)=true
section
variable {X:Cx} {pins:List (Addr × Obj)} {σ:St} {H:Hp} {s:Shared} {a C dx:Addr} {fs:List (Str × V)} {f:Str} {v:V} {A:Around} {E:Value->Shared->Prop}
theorem Ie {b:Bool} {Q:Value->Shared->Prop} (I:Inv X pins σ H s) (e:H a=some (.ins C dx fs)) (c:Cls X.K C) (n:NoAttr X.K C f) (l:fs.lookup f=some v)
    (h:∀ u s',Inv X pins σ H s'->RelV v u->Q u s'):wpAny (model X.prog X.w) A (getAttr (.ref a) f b) Q E s:=by
  obtain ⟨mA,O,r,_,_,_⟩:=DI I.hok e;obtain ⟨u,hu,ru⟩:=RelO.some_of (v:=v) (o:=mA f) (by rw [<-l];exact r f);exact LS I.kIn O (c.get f) c.hd n hu (Jd ru) (h u _ (I.tok _) ru)
theorem DF {m:Str} {g:Addr} {pl:Sem Bool} {Q:Value × List Value->Shared->Prop} (I:Inv X pins σ H s) (e:H a=some (.ins C dx fs)) (c:Cls X.K C) (k:Meth X.K C m g) (l:fs.lookup m=none)
    (h:Q (.ref g,[.ref a]) s):wpAny (model X.prog X.w) A (getMethod (.ref a) m pl) Q E s:=by
  obtain ⟨mA,O,r,_,_,_⟩:=DI I.hok e;have hn:mA m=none:=RelO.none_of (by rw [<-l];exact r m);exact Km I.kIn O (c.get m) k.at_ k.fn hn h
theorem HZ {y:V} {u:Value} {Q:Unit->Shared->Prop} (I:Inv X pins σ H s) (e:H a=some (.ins C dx fs)) (c:Cls X.K C) (n:NoAttr X.K C f) (hl:fs.length<1000) (ry:RelV y u)
    (h:∀ s',Inv X pins σ (upd H a (.ins C dx (Ce f y fs))) s'->Q () s'):wpAny (model X.prog X.w) A (setAttr (.ref a) f u) Q E s:=by
  obtain ⟨mA,O,r,wi,_,ho⟩:=DI I.hok e;have hz:(fs.map (·.1)).length<=sizeLine:=by rw [List.length_map,sizeLine_eq];omega
  refine Lm I.kIn O c.sa c.po n.taker c.hd wi hz λ h' O' sb=>h _ ?_;have hd:∃ o,h'.get? dx=some o:=let ⟨o,_,_,e',_⟩:=O'.ns;⟨o,e'⟩;refine I.write (x:=a) (e:=dx) (by rw [e];exact True.intro) (.inr ho) (λ b q hb z=>(sb.2 b hb).trans z) hd ?_;refine ⟨by rw [Av O.ne];exact ho,?_,O.ne,O'.obj,_,O'.ns,λ g=> ?_,λ g hg=> ?_⟩
  · have:=EB f y fs;omega
  · show RelO ((Ce f y fs).lookup g) (if g=f then some u else mA g);rw [EC];by_cases q:g=f
    · rw [if_pos q,if_pos q];exact ry
    · rw [if_neg q,if_neg q];exact r g
  · by_cases q:g=f
    · rw [q];exact (Em f y fs).1
    · refine (Em f y fs).2 g (wi g λ z=>hg ?_);show (if g=f then some u else mA g)=none;rw [if_neg q];exact z
theorem Inv.made (I:Inv X pins σ H s):Inv X pins σ (upd (upd H s.heap.objs.size (.own (s.heap.objs.size+1))) (s.heap.objs.size+1) (.ins C s.heap.objs.size []))
    { s with heap:=(s.heap.push PySem.W.emptyDict).push (PySem.W.instObj C s.heap.objs.size) }:=by
  have e1:(s.heap.push PySem.W.emptyDict).get? s.heap.objs.size=some PySem.W.emptyDict:=Heap.get?_push_size s.heap rfl;have e2:((s.heap.push PySem.W.emptyDict).push (PySem.W.instObj C s.heap.objs.size)).get? (s.heap.objs.size+1)=some (PySem.W.instObj C s.heap.objs.size):=by
    have:=Heap.get?_push_size (s.heap.push PySem.W.emptyDict) (o:=PySem.W.instObj C s.heap.objs.size) rfl
    rwa [Heap.size_push] at this
  have e3:(s.heap.push PySem.W.emptyDict).Ns s.heap.objs.size (λ _=>none):=⟨PySem.W.emptyDict, #[],_,e1,rfl,(λ e he=>absurd he (by simp)),λ _=>rfl⟩;have I1:=I.laid (a:=s.heap.objs.size) (o:= .own (s.heap.objs.size+1)) (h':=s.heap.push PySem.W.emptyDict) (t':=s.toks) (λ b u q=>Heap.get?_push_of_some _ q) (Nat.le_refl _) ⟨_,e1⟩;refine I1.laid (a:=s.heap.objs.size+1) (o:= .ins C s.heap.objs.size []) (t':=s.toks) (λ b u q=>Heap.get?_push_of_some _ q) (Nat.le_of_eq (Heap.size_push _ _)) ?_;have ne:s.heap.objs.size≠s.heap.objs.size+1:=Nat.ne_of_lt (Nat.lt_succ_self _);refine ⟨by rw [Av ne,Ag],Nat.zero_le _,ne,e2,λ _=>none,(Heap.Ns1.of_empty e3).at λ o q=>Heap.get?_push_of_some _ q,λ _=>True.intro,λ y hy=>absurd rfl hy⟩
theorem LA {prog:Program} {w:World} {env:Env} {e:Expr} {f:Str} {pos:Pos} {s:Shared} {Q:Value->Shared->Prop} (hb:attributeBase e f env (eval e env)=eval e env)
    (h:wpAny (model prog w) A (eval e env) (λ o s₁=>wpAny (model prog w) A (getAttr o f true) Q E s₁) E s):wpAny (model prog w) A (eval (.Attribute e f pos) env) Q E s:=
  Attribute_any_ h (by rw [arm_eval_Attribute,hb])
end
def Nb (K:PySem.W.Frag) (ta:TE) (f:Str):TE:=λ σ H Q=>ta σ H λ x H1=>∃ a C dx fs v,x= .ref a/\H1 a=some (.ins C dx fs)/\Cls K C/\NoAttr K C f/\fs.lookup f=some v/\Q v H1
def O2 (K:PySem.W.Frag) (ta tv:TE) (f:Str):TS:=λ D σ H=>tv σ H λ y H1=>ta σ H1 λ x H2=>∃ a C dx fs,x= .ref a/\H2 a=some (.ins C dx fs)/\Cls K C/\NoAttr K C f/\fs.length<1000/\
  D.nx σ (upd H2 a (.ins C dx (Ce f y fs)))
section
variable {X:Cx} {o e value:Expr} {f:Str} {pos pos' tpos:Pos} {ta tv:TE}
theorem NN (he:PE X e ta) (hb:attributeBase e f X.env (eval e X.env)=eval e X.env):PE X (.Attribute e f pos) (Nb X.K ta f):=by
  intro pins s σ H Q I h;refine LA hb (thn (he pins s σ H _ I h) λ u s1 ⟨x,H1,I1,rx,a,C,dx,fs,v,ex,ea,c,n,l,q⟩=> ?_);subst ex;obtain rfl:u=Value.ref a:=rx;exact Ie I1 ea c n l λ u' s2 I2 ru=>⟨v,H1,I2,ru,q⟩
theorem K3 (ha:PE X o ta) (hv:PE X value tv) (hs:swapsWith value (some (.Attribute o f pos')) pos.line X.env=pure false):PS X (.Assign [.Attribute o f pos'] value pos) (O2 X.K ta tv f):=by
  intro pins s σ H D I h;refine plainObj_wpAny_Assign_Attribute (thn (hv pins s σ H _ I h) λ u s1 ⟨y,H1,I1,ry,q⟩=>thn (ha pins s1 σ H1 _ I1 q) λ ov s2 ⟨x,H2,I2,rx,a,C,dx,fs,ex,ea,c,n,l,q2⟩=> ?_) hs;subst ex;obtain rfl:ov=Value.ref a:=rx;exact HZ I2 ea c n l ry λ s3 I3=>⟨σ,_,I3,q2⟩
theorem MH {pl:Sem Bool} {m:Str} {apos:Pos} {args:List Expr} {pins:List (Addr × Obj)} {s:Shared} {σ:St} {H:Hp} {Q:Value->Shared->Prop} {te:TE} (he:PE X e te) (I:Inv X pins σ H s)
    (h:te σ H λ x H1=>∃ a C dx fs g,x= .ref a/\H1 a=some (.ins C dx fs)/\Cls X.K C/\Meth X.K C m g/\fs.lookup m=none/\
      ∀ s1,Inv X pins σ H1 s1->wpAny (model X.prog X.w) X.A (callWith pos (.ref g) [.ref a] (backTo pos (starEach args X.env)) (backToKw pos (keywordEach [] X.env))) Q X.xe s1)
    (ht:eval (.Call (.Attribute e m apos) args [] pos) X.env=(do
      let ov <-eval e X.env
      standAt apos.atName
      let (f,first) <-holding [ov] (getMethod ov m pl)
      callWith pos f first (backTo pos (starEach args X.env)) (backToKw pos (keywordEach [] X.env)))):
    wpAny (model X.prog X.w) X.A (eval (.Call (.Attribute e m apos) args [] pos) X.env) Q X.xe s:=by
  refine PySem.W.methodCall_KW (pl:=pl) (thn (he pins s σ H _ I h) λ u s1 ⟨x,H1,I1,rx,a,C,dx,fs,g,ex,ea,c,k,l,q⟩=> ?_) ht;subst ex;obtain rfl:u=Value.ref a:=rx;exact DF I1 ea c k l (q s1 I1)
end
section
variable {X:Cx} {pins:List (Addr × Obj)} {σ:St} {H:Hp} {s:Shared} {A:Around} {E:Value->Shared->Prop} {Q:Value->Shared->Prop} {c:Value} {b:Bool}
inductive TyOf (K:PySem.W.Frag) (H:Hp):V->Value->Prop where
  | non:TyOf K H .non (.type "NoneType")
  | bl (x:Bool):TyOf K H (.bl x) (.type "bool")
  | int (i:Int):TyOf K H (.int i) (.type "int")
  | str (x:Str):TyOf K H (.str x) (.type "str")
  | flt (x:UInt64):TyOf K H (.flt x) (.type "float")
  | lst {a:Addr} {xs:List V} (e:H a=some (.lst xs)):TyOf K H (.ref a) (.type "list")
  | frz {a:Addr} {o:Obj} {xs:List V} (e:H a=some (.frz o (.lst xs))):TyOf K H (.ref a) (.type "list")
  | tup {a:Addr} {xs:List V} (e:H a=some (.tup xs)):TyOf K H (.ref a) (.type "tuple")
  | dK {a:Addr} {kvs:List (Key × V)} (e:H a=some (.dK kvs)):TyOf K H (.ref a) (.type "dict")
  | dT {a:Addr} {kvs:List (List Key × V)} (e:H a=some (.dT kvs)):TyOf K H (.ref a) (.type "dict")
  | ins {a C dx:Addr} {fs:List (Str × V)} (e:H a=some (.ins C dx fs)) (cl:Cls K C) (ha:PySem.W.findIn K (.ref C) "__class__"=some (some (.builtin "object.__class__")))
      (hn:PySem.W.specialIn K (.builtin "object.__class__") "__get__"=some (some (.builtin "getset_descriptor.__get__"))) (htk:PySem.W.takesIn K (.builtin "object.__class__")=some true)
      (hm:PySem.W.mroIn K C (.type "object")=some true):TyOf K H (.ref a) (.ref C)
theorem Jt {x:V} {u t:Value} (I:Inv X pins σ H s) (rx:RelV x u) (ty:TyOf X.K H x t) (e:PySem.W.kitOne X.K t c=some b) (h:∀ tk,Q (.bool b) { s with toks:=tk }):
    wpAny (model X.prog X.w) A (call (.builtin "isinstance") [u,c]) Q E s:=by
  cases ty with
  | non=>cases (show u=Value.none from rx);exact PySem.W.kia_one PySem.W.kitx_none I.kIn True.intro e (λ z=>nomatch z) h
  | bl y=>cases (show u=Value.bool y from rx);exact PySem.W.kia_one PySem.W.kitx_bool I.kIn True.intro e (λ z=>nomatch z) h
  | int i=>obtain ⟨t,q⟩:=(show ∃ t,u=Value.int i t from rx);cases q;exact PySem.W.kia_one PySem.W.kitx_int I.kIn True.intro e (λ z=>nomatch z) h
  | str y=>obtain ⟨t,q⟩:=(show ∃ t,u=Value.str y t from rx);cases q;exact PySem.W.kia_one PySem.W.kitx_str I.kIn True.intro e (λ z=>nomatch z) h
  | flt y=>obtain ⟨t,q⟩:=(show ∃ t,u=Value.float y t from rx);cases q;exact PySem.W.kia_one PySem.W.kitx_float I.kIn True.intro e (λ z=>nomatch z) h
  | @lst a xs ea=>
    cases (show u=Value.ref a from rx);obtain ⟨_,_,n,_,h1⟩:=(show ObjOk X.prog X.w H s.heap a (.lst xs) from I.hok a _ ea);exact PySem.W.kia_one PySem.W.kitx_list I.kIn ⟨_,h1,rfl⟩ e (λ z=>nomatch z) h
  | @frz a ob xs ea=>
    cases (show u=Value.ref a from rx);obtain ⟨_,_,_,n,_,h1⟩:=(show ObjOk X.prog X.w H s.heap a (.frz ob (.lst xs)) from I.hok a _ ea);exact PySem.W.kia_one PySem.W.kitx_list I.kIn ⟨_,h1,rfl⟩ e (λ z=>nomatch z) h
  | @tup a xs ea=>
    cases (show u=Value.ref a from rx);obtain ⟨_,_,_,p⟩:=(show ObjOk X.prog X.w H s.heap a (.tup xs) from I.hok a _ ea);obtain ⟨o,h1,h2,_⟩:=p;exact PySem.W.kia_one PySem.W.kitx_tuple I.kIn ⟨o,h1,h2⟩ e (λ z=>nomatch z) h
  | @dK a kvs ea=>
    cases (show u=Value.ref a from rx);obtain ⟨_,_,vs,_,p⟩:=(show ObjOk X.prog X.w H s.heap a (.dK kvs) from I.hok a _ ea);obtain ⟨o,es,ep,h1,h2,_⟩:=p;exact PySem.W.kia_one PySem.W.kitx_dict I.kIn ⟨o,h1,h2.1⟩ e (λ z=>nomatch z) h
  | @dT a kvs ea=>
    cases (show u=Value.ref a from rx);obtain ⟨_,_,xs,_,o,es,ep,h1,h2,_⟩:=(show ObjOk X.prog X.w H s.heap a (.dT kvs) from I.hok a _ ea);exact PySem.W.kia_one PySem.W.kitx_dict I.kIn ⟨o,h1,h2.1⟩ e (λ z=>nomatch z) h
  | @ins a C dx fs ea cl ha hn htk hm=>
    cases (show u=Value.ref a from rx);obtain ⟨mA,O,_⟩:=DI I.hok ea;obtain ⟨od,J,_⟩:=O.look;exact PySem.W.kia_one (PySem.W.kitx_own (cl.get _) cl.hd ha hn htk hm) I.kIn J e (λ z=>nomatch z) h
end
structure Room (k:Nat) (A:Around):Prop where
  hd:A.handled=none
  dp:A.depth+3*k+5<recursionLimit
  un:A.units+16*k+200<cLine
theorem Room.mono {j k:Nat} {A:Around} (r:Room k A) (h:j<=k):Room j A:=⟨r.hd,by have:=r.dp;omega,by have:=r.un;omega⟩
theorem Room.deeper {k:Nat} {A:Around} (r:Room (k+1) A) (env:Env):Room k (A.deeper env):=
  ⟨r.hd,by have:=r.dp;show A.depth+1+3*k+5<_;omega,by have:=r.un;show A.units+3+16*k+200<_;omega⟩
theorem Ig {A:Around} {C:Addr} {us:List Value} {kw:List (Str × Value)}:(A.under (.builtin "type.__call__" ⟨.ref C::us,kw⟩)).depth=A.depth+1:=by
  first | rfl | simp [Around.under,Code.weight,Code.isCreation,Code.isGuard,Code.isCaller,Code.frames,Code.isFrame,guardIds]
theorem HG {A:Around} {C:Addr} {us:List Value} {kw:List (Str × Value)}:(A.under (.builtin "type.__call__" ⟨.ref C::us,kw⟩)).units=A.units+1:=by
  first | rfl | simp [Around.under,Code.cUnits,Code.frames,Code.isFrame]
theorem Room.make {k:Nat} {A:Around} (r:Room (k+1) A) (C:Addr) (us:List Value) (kw:List (Str × Value)):Room k (A.under (.builtin "type.__call__" ⟨.ref C::us,kw⟩)):=
  ⟨r.hd,by have:=r.dp;rw [Ig];omega,by have:=r.un;rw [HG];omega⟩
theorem Room.depth {k:Nat} {A:Around} (r:Room k A):A.depth<recursionLimit:=by have:=r.dp;omega
theorem Room.units {k:Nat} {A:Around} (r:Room k A):A.units+64<cLine:=by have:=r.un;omega
theorem Room.units0 {k:Nat} {A:Around} (r:Room k A):A.units<cLine:=by have:=r.un;omega
def LW:TA:=λ _ H Q=>Q [] H
def Mr (ta:TE) (tr:TA):TA:=λ σ H Q=>ta σ H λ x H1=>tr σ H1 λ xs H2=>Q (x::xs) H2
section
variable {X:Cx} {e:Expr} {es:List Expr} {te:TE} {t:TA} {pos:Pos}
theorem Ab:PA X [] LW:=λ _ _ _ _ H Q I h=>Calls.spliced_nil ⟨[],H,I, .nil,h⟩
theorem Aa (ha:PE X e te) (hr:PA X es t) (hs:starEach (e::es) X.env=(false,eval e X.env)::starEach es X.env:=by rfl):PA X (e::es) (Mr te t):=by
  intro pos pins s σ H Q I h;rw [hs];show wpAny _ _ (spliced ((false,eval e X.env)::backTo pos (starEach es X.env))) _ _ s;refine Calls.spliced_cons (thn (ha pins s σ H _ I h) λ u s1 ⟨x,H1,I1,r1,q1⟩=> ?_);exact thn (hr pos pins s1 σ H1 _ I1 q1) λ us s2 ⟨xs,H2,I2,r2,q2⟩=>⟨x::xs,H2,I2, .cons r1 r2,q2⟩
def Of (t:TA):TE:=λ σ H Q=>t σ H λ xs H1=>xs.length<=sizeLine/\∀ p,H1 p=none->Q (.ref p) (upd H1 p (.tup xs))
def Oo (t:TA):TE:=λ σ H Q=>t σ H λ xs H1=>xs.length<=sizeLine/\∀ p,H1 p=none->Q (.ref p) (upd H1 p (.lst xs))
theorem Bt {x1} (h:PA X es t):PE X (.Tuple es x1 pos) (Of t):=by
  intro pins s σ H Q I hq;refine wpAny_Tuple_spliced (thn (h pos pins s σ H _ I hq) λ us s1 ⟨xs,H1,I1,r,z,q⟩=>⟨by rw [<-r.length];exact z,?_⟩);have hf:H1 s1.heap.objs.size=none:=I1.hok.fresh (Nat.le_refl _);refine ⟨.ref s1.heap.objs.size,upd H1 s1.heap.objs.size (.tup xs),I1.laid (t':=s1.toks) (λ b u e=>Heap.get?_push_of_some _ e) (Nat.le_refl _) ?_,rfl,q _ hf⟩;exact ⟨z,us,r,⟨_,Heap.get?_push_size _ rfl,rfl,_,rfl⟩⟩
theorem AV (h:PA X es t):PE X (.List es pos) (Oo t):=by
  intro pins s σ H Q I hq;refine wpAny_List_spliced (thn (h pos pins s σ H _ I hq) λ us s1 ⟨xs,H1,I1,r,z,q⟩=>⟨by rw [<-r.length];exact z,?_⟩);have hf:H1 s1.heap.objs.size=none:=I1.hok.fresh (Nat.le_refl _);refine ⟨.ref s1.heap.objs.size,upd H1 s1.heap.objs.size (.lst xs),I1.laid (t':=s1.toks) (λ b u e=>Heap.get?_push_of_some _ e) (Nat.le_refl _) ?_,rfl,q _ hf⟩;exact ⟨z,us,0,r,Heap.get?_push_size _ rfl⟩
end
abbrev Sp:=List V->Hp->VK->XK->Prop
abbrev CXT:=List Env->Hp->Shared->XK->Value->Shared->Prop
structure Env0 (P:Program) (w:World) (K:PySem.W.Frag) (mg:Str->Option Value) (base:Heap) (A:Around) (outer:List Env) (s:Shared) (H:Hp):Prop where
  frames:A.frames=some outer
  mod:Mod K mg base
  bs:∀ b o,base.get? b=some o->s.heap.get? b=some o/\H b=none
  bsz:base.objs.size<=s.heap.objs.size
  funs:s.heap.FunFrames base outer
  frf:∀ b∈frs outer,H b=none
  hok:HOk P w H s.heap
  bare:AllBare s.gens
def CE (outer:List Env) (P:Program) (w:World) (H:Hp) (s:Shared) (Q:VK) (u:Value) (s':Shared):Prop:=
  ∃ v H',s'.os=s.os/\AllBare s'.gens/\Un (frs outer) [] H H' s.heap s'.heap/\HOk P w H' s'.heap/\RelV v u/\Q v H'
def CR (CX:CXT) (outer:List Env) (P:Program) (w:World) (H:Hp) (s:Shared) (Q:VK) (E:XK) (r:Result) (s':Shared):Prop:=
  match r with
  | .ok (.ret u)=>CE outer P w H s Q u s'
  | .ok _=>False
  | .error e=>CX outer H s E e s'
structure FnOk (P:Program) (w:World) (K:PySem.W.Frag) (mg:Str->Option Value) (base:Heap) (CX:CXT) (k:Nat) (f:Addr) (fd:FuncData) (ps:List Str) (sp:Sp):Prop where
  len:∀ vs H Q E,sp vs H Q E->vs.length=ps.length
  run:∀ (A:Around) (outer:List Env) (s:Shared) (H:Hp) (args:Args) (us:List Value) (vs:List V) (Q:VK) (E:XK),Room k A->Env0 P w K mg base A outer s H->BindsTo s fd args (ps.zip us)->Vals vs us->sp vs H Q E->
    codeAny (model P w) A (.call (.ref f) args) (CR CX outer P w H s Q E) s
theorem Env0.make {P:Program} {w:World} {K:PySem.W.Frag} {mg:Str->Option Value} {base:Heap} {A:Around} {outer:List Env} {s:Shared} {H:Hp} (e:Env0 P w K mg base A outer s H) (C:Addr) (us:List Value) (kw:List (Str × Value)):
    Env0 P w K mg base (A.under (.builtin "type.__call__" ⟨.ref C::us,kw⟩)) outer s H:=⟨by first | exact e.frames | (simpa [Around.under,Code.envs,Code.isFrame,pushEnvs] using e.frames),e.mod,e.bs,e.bsz,e.funs,e.frf,e.hok,e.bare⟩
section
variable {X:Cx} {pins:List (Addr × Obj)} {σ:St} {H:Hp} {s s':Shared}
theorem Inv.env0 (I:Inv X pins σ H s):Env0 X.prog X.w X.K X.mg X.base X.A X.stack s H:=
  ⟨I.ok.frames,I.ok.mod,I.bs,Nat.le_trans I.ok.bsz I.sz,I.stack,I.stkFree,I.hok,I.bare⟩
theorem Inv.after {Q:VK} {u:Value} (I:Inv X pins σ H s) (h:CE X.stack X.prog X.w H s Q u s'):EP X pins σ Q u s':=by
  obtain ⟨v,H',os,bare,un,hok,r,q⟩:=h;obtain ⟨hh,g,d,t,os'⟩:=s';obtain rfl:os'=s.os:=os;exact ⟨v,H',I.call (h':=hh) (g':=g) (d':=d) (t':=t) (ch:=[]) un hok bare (λ b z=>absurd z (by simp)),r,q⟩
end
def Iz (sp:Sp) (dvs:List V) (E:XK) (t:TA):TE:=λ σ H Q=>t σ H λ vs H1=>sp (vs++dvs) H1 Q E
def FY (C:Addr) (m:Str) (sp:Sp) (dvs:List V) (E:XK) (ta:TE) (t:TA):TE:=λ σ H Q=>ta σ H λ x H1=>∃ a dx fs,x= .ref a/\H1 a=some (.ins C dx fs)/\fs.lookup m=none/\
  t σ H1 λ vs H2=>sp (x::(vs++dvs)) H2 Q E
def Ik (C:Addr) (sp:Sp) (dvs:List V) (E:XK) (t:TA):TE:=λ σ H Q=>t σ H λ vs H1=>∀ x dx,H1 x=none->H1 dx=none->dx≠x->
  sp (.ref x::(vs++dvs)) (upd (upd H1 dx (.own x)) x (.ins C dx [])) (λ v H2=>v= .non/\Q (.ref x) H2) E
def Binds (K:PySem.W.Frag) (fd:FuncData) (ps:List Str) (ds:List Value):Prop:=
  ∀ (s:Shared) (us:List Value),K.In s.heap->(us++ds).length=ps.length->BindsTo s fd ⟨us,[]⟩ (ps.zip (us++ds))
theorem Binds.all {K:PySem.W.Frag} {fd:FuncData} {ps:List Str} (h:∀ us:List Value,us.length=ps.length->bindArgs fd ⟨us,[]⟩=pure (ps.zip us)):Binds K fd ps []:=λ s us _ hl=>by
  rw [List.append_nil] at hl ⊢;exact .of_eq (h us hl)
def Dv (CX:CXT) (X:Cx) (E:XK):Prop:=∀ (pins:List (Addr × Obj)) (σ:St) (H:Hp) (s:Shared) (e:Value) (s':Shared),Inv X pins σ H s->CX X.stack H s E e s'->X.xe e s'
section
variable {X:Cx} {CX:CXT} {k:Nat} {f C:Addr} {fd:FuncData} {ps:List Str} {sp:Sp} {dvs:List V} {ds:List Value} {E:XK} {x m:Str} {p pos apos:Pos} {e o:Expr} {es:List Expr} {ta:TE} {t:TA}
theorem HR {pins:List (Addr × Obj)} {σ:St} {H:Hp} {s:Shared} {Q:VK} {us:List Value} {vs:List V} (F:FnOk X.prog X.w X.K X.mg X.base CX k f fd ps sp) (hr:Room k X.A) (hb:Binds X.K fd ps ds) (hd:Vals dvs ds) (hx:Dv CX X E)
    (I:Inv X pins σ H s) (r:Vals vs us) (h:sp (vs++dvs) H Q E):wpAny (model X.prog X.w) X.A (call (.ref f) us) (EP X pins σ Q) X.xe s:=by
  have r2:Vals (vs++dvs) (us++ds):=r.append hd;have hl:(us++ds).length=ps.length:=by rw [<-r2.length];exact F.len _ _ _ _ h
  refine wpAny_call (codeAny_mono (F.run X.A X.stack s H ⟨us,[]⟩ (us++ds) (vs++dvs) Q E hr I.env0 (hb s us I.kIn hl) r2 h) λ r s' hq=> ?_);cases r with
  | error e=>exact hx pins σ H s e s' I hq
  | ok fl=>
    cases fl with
    | ret u=>exact I.after hq
    | next=>exact False.elim hq
    | brk=>exact False.elim hq
    | cont=>exact False.elim hq
theorem Ly (F:FnOk X.prog X.w X.K X.mg X.base CX k f fd ps sp) (hr:Room k X.A) (hg:Gl X x) (hm:X.mg x=some (.ref f)) (hk:PySem.W.keepIn X.K (.ref f)=true) (hb:Binds X.K fd ps ds) (hd:Vals dvs ds) (hx:Dv CX X E)
    (ha:PA X (e::es) t) (hdb:(x == ("__debug__":Str))=false:=by decide) (he:starEach (e::es) X.env=(false,eval e X.env)::starEach es X.env:=by rfl) (hpl:(backTo pos (starEach es X.env)).any (·.1)=false:=by rfl):
    PE X (.Call (.Name x p) (e::es) [] pos) (Iz sp dvs E t):=by
  intro pins s σ H Q I h;refine wpAny_Call_Name_kw (Gv I hg hm ?_ hdb);refine PySem.W.callWith_K (h₀:=X.base) I.ok.mod.kin hk (thn (ha pos pins s σ H _ I h) λ us s1 ⟨vs,H1,I1,r,q⟩=>⟨I1.kIn,?_⟩) he hpl;exact HR F hr hb hd hx I1 r q
theorem LP {pl:Sem Bool} (he:PE X o ta) (c:Cls X.K C) (hm:Meth X.K C m f) (F:FnOk X.prog X.w X.K X.mg X.base CX k f fd ps sp) (hr:Room k X.A) (hb:Binds X.K fd ps ds) (hd:Vals dvs ds) (hx:Dv CX X E) (ha:PA X (e::es) t)
    (hst:starEach (e::es) X.env=(false,eval e X.env)::starEach es X.env:=by rfl) (hpl:(backTo pos (starEach es X.env)).any (·.1)=false:=by rfl)
    (ht:eval (.Call (.Attribute o m apos) (e::es) [] pos) X.env=(do
      let ov <-eval o X.env
      standAt apos.atName
      let (f,first) <-holding [ov] (getMethod ov m pl)
      callWith pos f first (backTo pos (starEach (e::es) X.env)) (backToKw pos (keywordEach [] X.env))):=by rfl):
    PE X (.Call (.Attribute o m apos) (e::es) [] pos) (FY C m sp dvs E ta t):=by
  intro pins s σ H Q I h;refine PySem.W.methodCall_KW (pl:=pl) (thn (he pins s σ H _ I h) λ u s1 ⟨x,H1,I1,rx,a,dx,fs,ex,ea,l,q⟩=> ?_) ht;subst ex;obtain rfl:u=Value.ref a:=rx;refine DF I1 ea c hm l ?_;refine PySem.W.callWith_K (first:=[.ref a]) (h₀:=X.base) I.ok.mod.kin hm.kp (thn (ha pos pins s1 σ H1 _ I1 q) λ us s2 ⟨vs,H2,I2,r,q2⟩=>⟨I2.kIn,?_⟩) hst hpl;exact HR (us:= .ref a::us) (vs:= .ref a::vs) F hr hb hd hx I2 (.cons rfl r) q2
theorem K6 {pl:Sem Bool} (he:PE X o ta) (c:Cls X.K C) (hm:Meth X.K C m f) (F:FnOk X.prog X.w X.K X.mg X.base CX k f fd ps sp) (hr:Room k X.A) (hb:Binds X.K fd ps ds) (hd:Vals dvs ds) (hx:Dv CX X E)
    (ht:eval (.Call (.Attribute o m apos) [] [] pos) X.env=(do
      let ov <-eval o X.env
      standAt apos.atName
      let (f,first) <-holding [ov] (getMethod ov m pl)
      callWith pos f first (backTo pos (starEach [] X.env)) (backToKw pos (keywordEach [] X.env))):=by rfl):
    PE X (.Call (.Attribute o m apos) [] [] pos) (FY C m sp dvs E ta LW):=by
  intro pins s σ H Q I h;refine PySem.W.methodCall_KW (pl:=pl) (thn (he pins s σ H _ I h) λ u s1 ⟨x,H1,I1,rx,a,dx,fs,ex,ea,l,q⟩=> ?_) ht;subst ex;obtain rfl:u=Value.ref a:=rx;refine DF I1 ea c hm l ?_;exact PySem.W.callWith_K0 (first:=[.ref a]) I1.kIn hm.kp (HR (us:=[.ref a]) (vs:=[.ref a]) F hr hb hd hx I1 (.cons rfl .nil) q)
structure Mk (K:PySem.W.Frag) (C f:Addr):Prop where
  makes:PySem.W.makesIn K C=true
  init:PySem.W.findIn K (.ref C) "__init__"=some (some (.ref f))
  fn:PySem.W.isFn K (.ref f)=true
  kp:PySem.W.keepIn K (.ref C)=true
theorem JU {pins:List (Addr × Obj)} {σ:St} {H:Hp} {s:Shared} {Q:VK} {us:List Value} {vs:List V} (M:Mk X.K C f) (F:FnOk X.prog X.w X.K X.mg X.base CX k f fd ps sp) (hr:Room (k+1) X.A) (hb:Binds X.K fd ps ds) (hd:Vals dvs ds)
    (hx:Dv CX X E) (I:Inv X pins σ H s) (r:Vals vs us)
    (h:∀ x dx,H x=none->H dx=none->dx≠x->sp (.ref x::(vs++dvs)) (upd (upd H dx (.own x)) x (.ins C dx [])) (λ v H2=>v= .non/\Q (.ref x) H2) E):
    wpAny (model X.prog X.w) X.A (call (.ref C) us) (EP X pins σ Q) X.xe s:=by
  have hq:=h (s.heap.objs.size+1) s.heap.objs.size (I.hok.fresh (Nat.le_succ _)) (I.hok.fresh (Nat.le_refl _)) (Nat.ne_of_lt (Nat.lt_succ_self _));have I2:=Inv.made (C:=C) I;have r2:Vals (V.ref (s.heap.objs.size+1)::(vs++dvs)) (Value.ref (s.heap.objs.size+1)::(us++ds)):= .cons rfl (r.append hd);have hl:(Value.ref (s.heap.objs.size+1)::us++ds).length=ps.length:=by
    have e:=r2.length;rw [F.len _ _ _ _ hq] at e;exact e.symm
  refine wpAny_call (KR (f:=f) I.kIn M.makes M.init (beq_iff_eq.mp M.fn) (codeAny_mono (F.run _ X.stack _ _ ⟨Value.ref (s.heap.objs.size+1)::us,[]⟩ (Value.ref (s.heap.objs.size+1)::(us++ds)) _ _ E (hr.make C us [])
    (I2.env0.make C us []) (hb _ (Value.ref (s.heap.objs.size+1)::us) I2.kIn hl) r2 hq) λ r s' hq'=> ?_))
  cases r with
  | error e=>exact hx pins σ _ _ e s' I2 hq'
  | ok fl=>
    cases fl with
    | ret u=>
      obtain ⟨v,H',I3,rv,ev,q3⟩:=I2.after hq';subst ev;exact ⟨rv,⟨V.ref (s.heap.objs.size+1),H',I3,rfl,q3⟩⟩
    | next=>exact False.elim hq'
    | brk=>exact False.elim hq'
    | cont=>exact False.elim hq'
theorem LR (M:Mk X.K C f) (F:FnOk X.prog X.w X.K X.mg X.base CX k f fd ps sp) (hr:Room (k+1) X.A) (hg:Gl X x) (hm:X.mg x=some (.ref C)) (hb:Binds X.K fd ps ds) (hd:Vals dvs ds) (hx:Dv CX X E)
    (ha:PA X (e::es) t) (hdb:(x == ("__debug__":Str))=false:=by decide) (he:starEach (e::es) X.env=(false,eval e X.env)::starEach es X.env:=by rfl) (hpl:(backTo pos (starEach es X.env)).any (·.1)=false:=by rfl):
    PE X (.Call (.Name x p) (e::es) [] pos) (Ik C sp dvs E t):=by
  intro pins s σ H Q I h;refine wpAny_Call_Name_kw (Gv I hg hm ?_ hdb);refine PySem.W.callWith_K (h₀:=X.base) I.ok.mod.kin M.kp (thn (ha pos pins s σ H _ I h) λ us s1 ⟨vs,H1,I1,r,q⟩=>⟨I1.kIn,?_⟩) he hpl;exact JU M F hr hb hd hx I1 r q
end
section
variable {X:Cx} {CX:CXT} {k:Nat} {f C:Addr} {fd:FuncData} {ps ks:List Str} {sp:Sp} {E:XK} {x m:Str} {p pos apos kpos:Pos} {e o:Expr} {es:List Expr} {kws:List Keyword} {te ta:TE} {t tk:TA} {nm:Option Str}
structure KBinds (K:PySem.W.Frag) (fd:FuncData) (ps ks:List Str) (g:List Value->List Value->List Value) (gV:List V->List V->List V):Prop where
  to:∀ (s:Shared) (us ws:List Value),K.In s.heap->(g us ws).length=ps.length->BindsTo s fd ⟨us,ks.zip ws⟩ (ps.zip (g us ws))
  rel:∀ {vs:List V} {us:List Value} {zs:List V} {ws:List Value},Vals vs us->Vals zs ws->Vals (gV vs zs) (g us ws)
variable {g:List Value->List Value->List Value} {gV:List V->List V->List V}
end
structure FnScope (N P:List Str) (sc:Scope):Prop where
  kind:sc.kind= .function
  co:sc.isCoroutine=false
  gen:sc.isGenerator=false
  nd:N.Nodup
  pre:N.take P.length=P
  par:∀ x∈P,sc.names.lookup x=some .local\/sc.names.lookup x=some .cell
  nofree:∀ y∈sc.names,y.2≠ .free
theorem F1 {kindOf:Str->Option NameKind} {x:Str}:∀ {binds:List (Str × Value)} {m:Str->Option Value},(∀ v,(x,v)∉binds)->bindL kindOf binds m x=m x
  | [],_,_=>rfl
  | (n,v)::r,m,h=>by
    unfold bindL;rw [F1 λ w hw=>h w (List.mem_cons_of_mem _ hw)];split
    · have:x≠n:=by rintro rfl;exact h v List.mem_cons_self
      simp [this]
    · rfl
theorem Ge {kindOf:Str->Option NameKind} {x:Str}:∀ {binds:List (Str × Value)} {m:Str->Option Value},(∀ v,(x,v)∉binds)->bindC kindOf binds m x=m x
  | [],_,_=>rfl
  | (n,v)::r,m,h=>by
    unfold bindC;rw [Ge λ w hw=>h w (List.mem_cons_of_mem _ hw)];split
    · rfl
    · have:x≠n:=by rintro rfl;exact h v List.mem_cons_self
      simp [this]
theorem F2 {kindOf:Str->Option NameKind} {x:Str} {v:Value}:∀ {P:List Str} {vs:List Value} {i:Nat} {m:Str->Option Value},P.Nodup->P[i]?=some x->vs[i]?=some v->kindOf x=some .local->
    bindL kindOf (P.zip vs) m x=some v
  | [],_,_,_,_,h,_,_=>by simp at h
  | _::_,[],_,_,_,_,h,_=>by simp at h
  | p::P,w::vs,0,m,nd,h1,h2,hk=>by
    simp at h1 h2;subst h1;subst h2;show bindL kindOf ((p,w)::P.zip vs) m p=_;unfold bindL;rw [F1 λ v hv=>(List.nodup_cons.mp nd).1 (List.of_mem_zip hv).1,if_pos hk];simp
  | p::P,w::vs,i+1,m,nd,h1,h2,hk=>by
    show bindL kindOf ((p,w)::P.zip vs) m x=_;unfold bindL;exact F2 (i:=i) (List.nodup_cons.mp nd).2 (by simpa using h1) (by simpa using h2) hk
theorem Gi {kindOf:Str->Option NameKind} {x:Str} {v:Value}:∀ {P:List Str} {vs:List Value} {i:Nat} {m:Str->Option Value},P.Nodup->P[i]?=some x->vs[i]?=some v->kindOf x≠some .local->
    bindC kindOf (P.zip vs) m x=some v
  | [],_,_,_,_,h,_,_=>by simp at h
  | _::_,[],_,_,_,_,h,_=>by simp at h
  | p::P,w::vs,0,m,nd,h1,h2,hk=>by
    simp at h1 h2;subst h1;subst h2;show bindC kindOf ((p,w)::P.zip vs) m p=_;unfold bindC;rw [Ge λ v hv=>(List.nodup_cons.mp nd).1 (List.of_mem_zip hv).1,if_neg hk];simp
  | p::P,w::vs,i+1,m,nd,h1,h2,hk=>by
    show bindC kindOf ((p,w)::P.zip vs) m x=_;unfold bindC;exact Gi (i:=i) (List.nodup_cons.mp nd).2 (by simpa using h1) (by simpa using h2) hk
def start (N:List Str) (vs:List V):St:=vs.map some++List.replicate (N.length - vs.length) none
def Jv (CX:CXT) (P:Program) (w:World) (K:PySem.W.Frag) (mg:Str->Option Value) (base:Heap) (N:List Str) (qual:Str) (scope:Scope) (f:Addr) (cd:Value) (A:Around) (outer:List Env) (s:Shared) (H:Hp) (E:XK):Cx where
  prog:=P
  w:=w
  K:=K
  mg:=mg
  base:=base
  A:=A.deeper (envOfC qual scope s.heap.objs.size f cd)
  N:=N
  s₀:=s
  H₀:=H
  env:=envOfC qual scope s.heap.objs.size f cd
  outer:=outer
  stack:=envOfC qual scope s.heap.objs.size f cd::outer
  ex:=[]
  calm:=true
  fn:=λ _=>true
  pn:=[]
  xe:=λ e s'=>wpAny (model P w) (A.deeper (envOfC qual scope s.heap.objs.size f cd)) (leaving (envOfC qual scope s.heap.objs.size f cd) e) (λ _ s''=>CX outer H s E e s'') (λ e' s''=>CX outer H s E e' s'') s'
theorem Hx {sc:Scope} {n:Nat} {x:Str} (h:sc.names.lookup x=some .cell):∃ c,(cellsFrom n sc.names []).lookup x=some c:=by
  have q:=PySem.W.cellsFrom_some sc.names n [] (.inl h);exact Option.isSome_iff_exists.mp q
theorem JF {CX:CXT} {P:Program} {w:World} {K:PySem.W.Frag} {mg:Str->Option Value} {base:Heap} {N ps:List Str} {qual:Str} {scope:Scope} {f:Addr} {cd:Value} {A:Around} {outer:List Env} {s s1:Shared} {H:Hp} {E:XK} {us:List Value} {vs:List V}
    (S:FnScope N ps scope) (hd:A.handled=none) (e0:Env0 P w K mg base A outer s H) (hl:vs.length=ps.length) (r:Vals vs us)
    (x:InCallC s s.heap.objs.size (bindL (envOfC qual scope s.heap.objs.size f cd).kindOf (ps.zip us) λ _=>none) (cellsFrom (s.heap.objs.size+1) scope.names []) (bindC (envOfC qual scope s.heap.objs.size f cd).kindOf (ps.zip us) λ _=>none) s1):
    Inv (Jv CX P w K mg base N qual scope f cd A outer s H E) [] (start N vs) H s1:=by
  have hpl:ps.length<=N.length:=by have:=congrArg List.length S.pre;rw [List.length_take] at this;omega
  obtain ⟨h1,tk,rfl,hk⟩:=x.done;have noA:∀ b:Addr,b∉(Jv CX P w K mg base N qual scope f cd A outer s H E).ex:=λ b z=>absurd (show b∈([]:List Addr) from z) (by simp);refine ⟨⟨e0.mod,S.kind,rfl,rfl,Nat.le_refl _,λ y z c h1 h2=> ?_,λ y hy=> ?_,λ y c _ h=> ?_,λ _=>hd,Around.frames_deeper e0.frames, .inr ⟨rfl,rfl⟩,λ b z=>absurd z (noA b),e0.bs,e0.bsz,λ b _ _=>noA b,λ b z=>absurd z (noA b),e0.funs,e0.frf⟩,
    rfl,e0.bare,Un.kept hk,⟨_,x.toInCall.ns,λ i y v h1 h2 h3=> ?_⟩,λ y c h=>⟨_,x.cell y c h⟩,e0.hok.fresh (Nat.le_refl _),λ y c h=> ?_,λ p hp=>absurd (show p∈([]:List (Addr × Obj)) from hp) (by simp),e0.hok.kept hk,?_⟩
  · exact name_of_addr x.apart (PySem.mem_of_lookup h1) (PySem.mem_of_lookup h2)
  · have hy:scope.names.lookup y=some .cell\/scope.names.lookup y=some .free:=hy;rcases hy with hy | hy
    · exact Hx hy
    · exact absurd rfl (S.nofree _ (PySem.mem_of_lookup hy))
  · exact Nat.le_of_lt (x.above y c (PySem.mem_of_lookup h))
  · have hi:i<vs.length:=by
      unfold start at h2;by_cases hi:i<vs.length
      · exact hi
      · rw [List.getElem?_append_right (by simpa using hi)] at h2;rw [List.getElem?_replicate] at h2;split at h2 <;> cases h2
    have ha:vs[i]?=some v:=by
      unfold start at h2;rw [List.getElem?_append_left (by simpa using hi),List.getElem?_map] at h2;cases e:vs[i]? with
      | none=>rw [e] at h2;cases h2
      | some a=>rw [e] at h2;cases h2;rfl
    obtain ⟨u,hu,rv⟩:=r.get ha;have hp:ps[i]?=some y:=by
      rw [<-S.pre,List.getElem?_take_of_lt (by omega)];exact h1
    have ndP:ps.Nodup:=by rw [<-S.pre];exact S.nd.sublist (List.take_sublist _ _)
    refine ⟨u,rv,?_⟩;rcases S.par y (List.mem_of_getElem? hp) with k | k
    · exact .inl ⟨k,F2 ndP hp hu k⟩
    · obtain ⟨c,e⟩:=Hx (n:=s.heap.objs.size+1) k;refine .inr ⟨.inl k,c,e,?_⟩;have q:=x.cell y c e;rw [Gi ndP hp hu (by show scope.names.lookup y≠_;rw [k];decide)] at q;exact q
  · exact e0.hok.fresh (Nat.le_of_lt (x.above y c (PySem.mem_of_lookup h)))
  · unfold start;show _=N.length;rw [List.length_append,List.length_map,List.length_replicate];omega
theorem OZ {CX:CXT} {P:Program} {w:World} {K:PySem.W.Frag} {mg:Str->Option Value} {base:Heap} {k:Nat} {f:Addr} {name qual:Str} {params:Arguments} {body:List Stmt} {scope:Scope} {dV kV doc pm cdv ct oc:Value} {an od:Option Addr}
    {osl:Array (Option Value)} {N ps:List Str} {sp:Sp} (lk:K.lookup f=some ⟨oc,od, .func (PySem.W.fnOf name qual params body scope dV kV doc pm an cdv ct),osl⟩) (hcd:PySem.W.codeIn K cdv qual=true) (S:FnScope N ps scope)
    (len:∀ vs H Q E,sp vs H Q E->vs.length=ps.length)
    (hbody:∀ (A:Around) (outer:List Env) (s:Shared) (H:Hp) (vs:List V) (Q:VK) (E:XK),Room k (A.deeper (envOfC qual scope s.heap.objs.size f cdv))->sp vs H Q E->
      ∃ t,PSs (Jv CX P w K mg base N qual scope f cdv A outer s H E) body t/\t { nx:=λ _ H'=>Q .non H',rt:=Q } (start N vs) H):
    FnOk P w K mg base CX (k+1) f (PySem.W.fnOf name qual params body scope dV kV doc pm an cdv ct) ps sp:=by
  refine ⟨len,λ A outer s H args us vs Q E hr e0 hb r hsp=> ?_⟩;have hl:=len _ _ _ _ hsp;have KX:K.In s.heap:=e0.mod.kin.keeps λ b o e=>(e0.bs b o e).1;have lim:s.heap.NoLimit:=e0.mod.nolimit.keeps λ b o e=>(e0.bs b o e).1;have hkind:∀ y∈ps.zip us,scope.names.lookup y.1=some .local\/(scope.names.lookup y.1=some .cell/\((cellsFrom (s.heap.objs.size+1) scope.names []).lookup y.1).isSome=true):=λ ⟨n,v⟩ hy=>by
    rcases S.par n (List.of_mem_zip hy).1 with q | q
    · exact .inl q
    · exact .inr ⟨q,PySem.W.cellsFrom_some _ _ _ (.inl q)⟩
  refine codeAny_call_function hr.depth (KX _ _ lk) rfl S.co S.gen rfl (PySem.W.codeRec_of KX hcd) (hb _ _ _ _ ?_);refine wpAny_newFunctionEnv_cells S.kind hkind λ env he s1 x=> ?_;subst he;refine ⟨lim.keeps x.toInCall.keep,codeAny_func ?_⟩;obtain ⟨t,ht,hq⟩:=hbody A outer s H vs Q E (hr.deeper _) hsp;have I:Inv (Jv CX P w K mg base N qual scope f cdv A outer s H E) [] (start N vs) H s1:=JF S hr.hd e0 hl r x;refine wpAny_mono (ht [] s1 (start N vs) H _ I hq) (λ fl s' hs=> ?_) λ e s' hs=>hs;have fin:∀ {σ':St} {H':Hp} {v:V} {u:Value},Inv (Jv CX P w K mg base N qual scope f cdv A outer s H E) [] σ' H' s'->RelV v u->Q v H'->CE outer P w H s Q u s':=
    λ {σ' H' v u} J rv q=>⟨v,H',J.os,J.bare,J.base,J.hok,rv,q⟩
  cases fl with
  | ret u=>
    obtain ⟨v,σ',H',J,rv,q⟩:=hs;exact fin J rv q
  | next=>
    obtain ⟨σ',H',J,q⟩:=hs;exact fin (v:=V.non) (u:=Value.none) J rfl q
  | brk=>
    obtain ⟨_,_,_,q⟩:=hs;exact False.elim q
  | cont=>
    obtain ⟨_,_,_,q⟩:=hs;exact False.elim q
section
variable {X:Cx} {x:Str} {p pos:Pos} {e:Expr} {es:List Expr} {t:TA} {id T:String} {r:List V->Hp->VK->Prop}
def tCB (r:List V->Hp->VK->Prop) (t:TA):TE:=λ σ H Q=>t σ H λ vs H1=>r vs H1 Q
theorem Am (hc:AS X (.builtin id) r) (hg:Gl X x) (hm:X.mg x=none) (hv:bootBuiltins x=some (.builtin id)) (ha:PA X (e::es) t) (hn:x≠"__name__":=by decide) (hdb:(x == ("__debug__":Str))=false:=by decide)
    (he:starEach (e::es) X.env=(false,eval e X.env)::starEach es X.env:=by rfl) (hpl:(backTo pos (starEach es X.env)).any (·.1)=false:=by rfl):PE X (.Call (.Name x p) (e::es) [] pos) (tCB r t):=by
  intro pins s σ H Q I h;refine wpAny_Call_Name_kw (CT I hg hm hv ?_ hn hdb);exact PyProof.Rows.callWith_builtin1 (thn (ha pos pins s σ H _ I h) λ us s1 ⟨vs,H1,I1,r1,q1⟩=>hc pins s1 σ H1 vs us Q I1 r1 q1) he hpl
theorem BB (hc:AS X (.type T) r) (hg:Gl X x) (hm:X.mg x=none) (hv:bootBuiltins x=some (.type T)) (ha:PA X (e::es) t) (hn:x≠"__name__":=by decide) (hdb:(x == ("__debug__":Str))=false:=by decide)
    (he:starEach (e::es) X.env=(false,eval e X.env)::starEach es X.env:=by rfl) (hpl:(backTo pos (starEach es X.env)).any (·.1)=false:=by rfl):PE X (.Call (.Name x p) (e::es) [] pos) (tCB r t):=by
  intro pins s σ H Q I h;refine wpAny_Call_Name_kw (CT I hg hm hv ?_ hn hdb);exact PyProof.Rows.callWith_type1 (thn (ha pos pins s σ H _ I h) λ us s1 ⟨vs,H1,I1,r1,q1⟩=>hc pins s1 σ H1 vs us Q I1 r1 q1) he hpl
end
end L2
namespace HT
open PySem PyProof.Rows
section
open PySem.SeqAt
open PySem.AutoSeq1 (wpAny_loadPart')
open PySem.MeetsSeq PySem.MeetsSeq2 PySem.MeetsSeq3
end
section
variable {prog:Program} {w:World} {A:Around} {E:Value->Shared->Prop} {s:Shared}
theorem cat_tup {t b:Addr} {vs ws:List Value} {Q:Value->Shared->Prop} (ht:IsTup s.heap t vs.toArray) (hb:IsTup s.heap b ws.toArray) (hv:vs≠[])
    (h1:ws=[]->Q (.ref t) s) (h2:ws≠[]->Q (.ref s.heap.objs.size) { s with heap:=s.heap.push { cls:= .type "tuple",data:= .seq (vs++ws).toArray } })
    (hsz:vs.length+ws.length<=sizeLine):wpAny (model prog w) A (binaryOp .Add (.ref t) (.ref b)) Q E s:=by
  obtain ⟨⟨cls,dd,data,sl⟩,ho,hc,n,hd⟩:=id ht;obtain ⟨⟨cls2,dd2,data2,sl2⟩,ho2,hc2,n2,hd2⟩:=id hb;simp only at hc hd hc2 hd2;subst hc hd hc2 hd2;have e:vs.toArray++ws.toArray=(vs++ws).toArray:=by simp
  by_cases hw:ws=[]
  · exact concat_meets ⟨_,ho,rfl⟩ ⟨_,ho2,rfl⟩ noFill_tuple_add seq_tuple_add PySem.F.slot_tuple_add PySem.F.entry_tuple_add (PySem.F.args_tuple_add_2 _ _)
      (tuple_addW1 t b vs.toArray ws.toArray n n2 dd dd2 sl sl2 (by simpa using hv) (by simp [hw])) ⟨ho,ho2,h1 hw⟩
  · refine concat_meets ⟨_,ho,rfl⟩ ⟨_,ho2,rfl⟩ noFill_tuple_add seq_tuple_add PySem.F.slot_tuple_add PySem.F.entry_tuple_add (PySem.F.args_tuple_add_2 _ _)
      (tuple_addW2 t b vs.toArray ws.toArray n n2 dd dd2 sl sl2 (by simpa using hv) (by simpa using hw) (by rw [List.size_toArray,List.size_toArray];exact hsz)) ⟨ho,ho2,?_⟩
    rw [e];exact h2 hw
def sIx (n d:Nat):Option Int->Nat
  | none=>d
  | some v=>if v<0 then (v+(n:Int)).toNat else min v.toNat n
theorem GY (n d k:Nat):sIx n d (some (k:Int))=min k n:=by
  show (if (k:Int)<0 then ((k:Int)+(n:Int)).toNat else min (k:Int).toNat n)=min k n;rw [if_neg (by omega),Int.toNat_natCast]
theorem Nx (n d:Nat) (hd:d<=n) (o:Option Int):sIx n d o<=n:=by
  cases o with
  | none=>exact hd
  | some v=>
    show (if v<0 then (v+(n:Int)).toNat else min v.toNat n)<=n;by_cases hv:v<0
    · rw [if_pos hv];omega
    · rw [if_neg hv];exact Nat.min_le_right _ _
theorem IX (v:Int) (n d:Nat):(if v<0 then max (v+(n:Int)) 0 else min v (n:Int))=((sIx n d (some v):Nat):Int):=by
  show (if v<0 then max (v+(n:Int)) 0 else min v (n:Int))=(((if v<0 then (v+(n:Int)).toNat else min v.toNat n):Nat):Int);by_cases hv:v<0
  · simp only [if_pos hv];omega
  · simp only [if_neg hv];omega
theorem HM (lo hi:Option Int) (n:Nat):Builtin.Slice.sliceAdjust lo hi 1 (n:Int)=(((sIx n 0 lo:Nat):Int),((sIx n n hi:Nat):Int)):=by
  have h1:¬ ((1:Int)<0):=by omega
  unfold Builtin.Slice.sliceAdjust;simp only [h1,if_false];refine Prod.ext ?_ ?_
  · cases lo with
    | none=>rfl
    | some v=>exact IX v n 0
  · cases hi with
    | none=>rfl
    | some v=>exact IX v n n
theorem Ia (i j:Nat):Builtin.Slice.slicePlaces (i:Int) (j:Int) 1=j - i:=by
  unfold Builtin.Slice.slicePlaces;have h1:(1:Int)>0:=by omega
  simp only [h1,if_true,Int.ediv_one];split <;> omega
theorem Fx {v:Value} {o:Option Int} {Q:Option Int->Shared->Prop} (p:IsPart v o) (h:Q o s):wpAny (model prog w) A (Builtin.Slice.slicePartIndex v) Q E s:=by
  cases p with
  | none=>exact slicePart_none h
  | int i t=>exact slicePart_int h
theorem B8 {sl:Addr} {vl vu:Value} {lo hi:Option Int} {n:Nat} {Q:Int × Int × Nat->Shared->Prop} (hs:s.heap.IsSliceOf sl vl vu .none) (pl:IsPart vl lo) (pu:IsPart vu hi)
    (h:Q (((sIx n 0 lo:Nat):Int),1,sIx n n hi - sIx n 0 lo) s):wpAny (model prog w) A (Builtin.Slice.sliceApplied (.ref sl) (pure (n:Int))) Q E s:=by
  obtain ⟨os,hos,hcs,hds⟩:=id hs;unfold Builtin.Slice.sliceApplied Builtin.Slice.sliceFields;refine wpAny_bind (wpAny_bind (wpAny_field hos hds (x:=vl) rfl (wpAny_bind (wpAny_field hos hds (x:=vu) rfl (wpAny_bind (wpAny_field hos hds (x:= .none) rfl (wpAny_pure ?_)))))));refine wpAny_bind (slicePart_none ?_);show wpAny _ _ (if ((1:Int) == 0)=true then _ else _) _ _ s;rw [if_neg (by decide)];refine wpAny_bind (Fx pl (wpAny_bind (Fx pu (wpAny_bind (wpAny_pure ?_)))));show wpAny _ _ (match Builtin.Slice.sliceAdjust lo hi 1 (n:Int) with | (lo,hi)=>pure (lo,(1:Int),Builtin.Slice.slicePlaces lo hi 1)) _ _ s;rw [HM lo hi n];show wpAny _ _ (pure (((sIx n 0 lo:Nat):Int),(1:Int),Builtin.Slice.slicePlaces ((sIx n 0 lo:Nat):Int) ((sIx n n hi:Nat):Int) 1)) _ _ s;rw [Ia];exact wpAny_pure h
theorem Ka (xs:Array Value) (i k:Nat):((List.range k).filterMap λ (m:Nat)=>xs[((i:Int)+(m:Int)*1).toNat]?).toArray=((xs.toList.drop i).take k).toArray:=by
  have e:(λ (m:Nat)=>xs[((i:Int)+(m:Int)*1).toNat]?)=λ m=>xs[i+m]?:=by
    funext m;have:((i:Int)+(m:Int)*1).toNat=i+m:=by omega
    rw [this]
  rw [e];have:=pick_run xs i k;rw [List.filterMap_map] at this;have e2:((λ x=>xs[x]?)∘λ x=>i+x)=λ m=>xs[i+m]?:=rfl;rw [e2] at this;rw [this]
theorem getItem_tuple_cut {t sl:Addr} {items:Array Value} {vl vu:Value} {lo hi:Option Int} {Q:Value->Shared->Prop} (ht:IsTup s.heap t items) (hs:s.heap.IsSliceOf sl vl vu .none) (pl:IsPart vl lo) (pu:IsPart vu hi)
    (hw:¬ (sIx items.size 0 lo=0/\sIx items.size items.size hi=items.size))
    (h:Q (.ref s.heap.objs.size) { s with heap:=s.heap.push { cls:= .type "tuple",data:= .seq ((items.toList.drop (sIx items.size 0 lo)).take (sIx items.size items.size hi - sIx items.size 0 lo)).toArray } })
    (hsz:items.size<=sizeLine):wpAny (model prog w) A (getItem (.ref t) (.ref sl)) Q E s:=by
  have htake:sizeOk (.seq ((items.toList.drop (sIx items.size 0 lo)).take (sIx items.size items.size hi - sIx items.size 0 lo)).toArray):=by
    show ((items.toList.drop (sIx items.size 0 lo)).take (sIx items.size items.size hi - sIx items.size 0 lo)).toArray.size<=sizeLine;rw [List.size_toArray,List.length_take,List.length_drop,Array.length_toList];omega
  have hj:sIx items.size items.size hi<=items.size:=Nx _ _ (Nat.le_refl _) hi;obtain ⟨os,hos,hcs,hds⟩:=id hs;have hTs:s.TypeIs (.ref sl) "slice":=⟨os,hos,hcs⟩;unfold getItem
  try with_reducible refine wpAny_holding ?_
  first | refine wpAny_bind (wpAny_pure ?_) | skip
  refine wpAny_bind (wpAny_sequenceKey ht.typeIs (by decide) ?_);refine wpAny_bind (wpAny_callSpecial?_slot (name:=Str.ofString "__getitem__") ht.typeIs PyProof.Rows.slot_tuple_getitem
    (wpAny_call_entry PyProof.Rows.slot_tuple_getitem ht.typeIs entry_tuple_getitem ?_ (args_tuple_getitem _ _)))
  show wpAny _ _ (Builtin.Tuple.tupleItemsOf (.ref t) >>= _) _ _ s;refine wpAny_bind (tupleItemsOf_ ht ?_);refine wpAny_bind (wpAny_typeOf hTs ?_);rw [if_pos (by decide)];refine wpAny_bind (B8 hs pl pu ?_);have hno:¬ ((((sIx items.size 0 lo:Nat):Int) == 0&&(1:Int) == 1&&(sIx items.size items.size hi - sIx items.size 0 lo) == items.size)=true):=by
    intro q;rw [Bool.and_eq_true,Bool.and_eq_true] at q;have q1:((sIx items.size 0 lo:Nat):Int)=0:=eq_of_beq q.1.1;have q2:sIx items.size items.size hi - sIx items.size 0 lo=items.size:=eq_of_beq q.2;exact hw ⟨by omega,by omega⟩
  show wpAny _ _ (if (((sIx items.size 0 lo:Nat):Int) == 0&&(1:Int) == 1&&(sIx items.size items.size hi - sIx items.size 0 lo) == items.size)=true then _ else _) _ _ s;rw [if_neg hno,Ka]
  first
    | exact wpAny_bind (m:=Builtin.Tuple.tupleExact _) (wpAny_newObj_type (wpAny_pure ⟨_,rfl,wpAny_pure h⟩) htake)
    | exact wpAny_bind (m:=Builtin.Tuple.tupleExact _) (wpAny_newObj_type (wpAny_bind (wpAny_pure (wpAny_pure ⟨_,rfl,wpAny_pure h⟩))) htake)
    | exact wpAny_bind (wpAny_bind (m:=Builtin.Tuple.tupleExact _) (wpAny_newObj_type (wpAny_pure (wpAny_pure ⟨_,rfl,wpAny_pure h⟩)) htake))
    | exact wpAny_bind (wpAny_bind (m:=Builtin.Tuple.tupleExact _) (wpAny_newObj_type (wpAny_pure ⟨_,rfl,wpAny_pure h⟩) htake))
end
end HT
namespace L2
open PySem PySem.Spec PyProof.Rows
abbrev TO:=St->Hp->(Option Int->Hp->Prop)->Prop
def PO (X:Cx) (e:Option Expr) (t:TO):Prop:=
  ∀ (pins:List (Addr × Obj)) (s:Shared) (σ:St) (H:Hp) (Q:Option Int->Hp->Prop),Inv X pins σ H s->t σ H Q->
    wpAny (model X.prog X.w) X.A (evalPart e X.env) (λ u s'=>∃ o H',Inv X pins σ H' s'/\IsPart u o/\Q o H') X.xe s
def Il:TO:=λ _ H Q=>Q none H
def Mu (t:TE):TO:=λ σ H Q=>t σ H λ x H1=>∃ i,x= .int i/\Q (some i) H1
theorem EX {ns:List Int}:∀ {us:List Value},Vals (ns.map V.int) us->IntsAre us ns:=by
  induction ns with
  | nil=>intro us r;rw [List.map_nil] at r;cases r;exact .nil
  | cons n ns ih=>
    intro us r;rw [List.map_cons] at r;cases r with
    | cons r1 r2=>
      obtain ⟨t,e⟩:=r1;subst e;exact .cons n t (ih r2)
section
variable {X:Cx} {e:Expr} {te:TE} {lo hi:Option Expr} {tl th:TO} {pos p2:Pos}
theorem A4:PO X none Il:=by
  intro pins s σ H Q I h;rw [evalPart_none];exact wpAny_pure ⟨none,H,I, .none,h⟩
theorem AQ (h:PE X e te):PO X (some e) (Mu te):=by
  intro pins s σ H Q I hw;rw [evalPart_some];refine thn (h pins s σ H _ I hw) λ u s1 ⟨x,H1,I1,r1,q1⟩=> ?_;obtain ⟨i,rfl,q⟩:=q1;obtain ⟨t,rfl⟩:=r1;exact ⟨some i,H1,I1, .int i t,q⟩
def SlR (X:Cx) (r:V->Option Int->Option Int->Hp->VK->Prop):Prop:=
  ∀ (pins:List (Addr × Obj)) (s:Shared) (σ:St) (H:Hp) (x:V) (v vl vu:Value) (lo hi:Option Int) (sl:Addr) (Q:VK),Inv X pins σ H s->RelV x v->s.heap.IsSliceOf sl vl vu .none->IsPart vl lo->IsPart vu hi->r x lo hi H Q->
    ∃ T id,typeLookup (.type T) "__getitem__"=pure (some (.builtin id))/\s.TypeIs v T/\wpAny (model X.prog X.w) X.A (getItem v (.ref sl)) (EP X pins σ Q) X.xe s
def tSl (r:V->Option Int->Option Int->Hp->VK->Prop) (te:TE) (tl th:TO):TE:=λ σ H Q=>te σ H λ x H1=>tl σ H1 λ l H2=>th σ H2 λ u H3=>r x l u H3 Q
theorem AK {r:V->Option Int->Option Int->Hp->VK->Prop} (hr:SlR X r) (he:PE X e te) (hl:PO X lo tl) (hu:PO X hi th):PE X (.Subscript e (.Slice lo hi none p2) pos) (tSl r te tl th):=by
  intro pins s σ H Q I h;refine Subscript_ (thn (he pins s σ H _ I h) λ v s1 ⟨x,H1,I1,r1,q1⟩=> ?_);refine wpAny_Slice (thn (hl pins s1 σ H1 _ I1 q1) λ vl s2 ⟨l,H2,I2,pl,q2⟩=>thn (hu pins s2 σ H2 _ I2 q2) λ vu s3 ⟨u,H3,I3,pu,q3⟩=> ?_);rw [evalPart_none];refine wpAny_pure ?_;have I4:Inv X pins σ H3 { s3 with heap:=s3.heap.push { cls:= .type "slice",data:= .fields #[vl,vu, .none] } }:=I3.kept (t':=s3.toks) λ b ob q=>Heap.get?_push_of_some _ q;obtain ⟨T,id,hT,ht,hg⟩:=hr pins { s3 with heap:=s3.heap.push { cls:= .type "slice",data:= .fields #[vl,vu, .none] } } σ H3 x v vl vu l u s3.heap.objs.size Q I4 r1 (Heap.IsSliceOf.new ..) pl pu q3;show wpAny (model X.prog X.w) X.A (subscriptTail e (.Slice lo hi none p2) v (.ref s3.heap.objs.size)) (EP X pins σ Q) X.xe { s3 with heap:=s3.heap.push { cls:= .type "slice",data:= .fields #[vl,vu, .none] } };exact tail_any (ops:=[.ref s3.heap.objs.size,v]) ht hT hg (by with_unfolding_all rfl)
def Bq (xs:List V) (lo hi:Option Int):List V:=(xs.drop (HT.sIx xs.length 0 lo)).take (HT.sIx xs.length xs.length hi - HT.sIx xs.length 0 lo)
theorem Ew (xs:List V) (lo hi:Option Int):(Bq xs lo hi).length<=xs.length:=by
  unfold Bq;rw [List.length_take,List.length_drop];omega
def Qc (K:PySem.W.Frag):V->Option Int->Option Int->Hp->VK->Prop:=λ x lo hi H Q=>∃ a xs,x= .ref a/\SqT K H a xs/\
  ¬ (HT.sIx xs.length 0 lo=0/\HT.sIx xs.length xs.length hi=xs.length)/\∀ p,H p=none->Q (.ref p) (upd H p (.tup (Bq xs lo hi)))
theorem KQ:SlR X (Qc X.K):=by
  intro pins s σ H x v vl vu lo hi sl Q I rx hs pl pu h;obtain ⟨a,xs,rfl,hx,hw,q⟩:=h;cases rx;obtain ⟨its,r,ht,hz⟩:=I.tuple hx;have hlen:its.toArray.size=xs.length:=by rw [List.size_toArray];exact r.length.symm
  refine ⟨"tuple",_,PyProof.Rows.slot_tuple_getitem.lookup,ht.typeIs,?_⟩;refine HT.getItem_tuple_cut ht hs pl pu (by rw [hlen];exact hw) ?_ (by rw [hlen];exact hz);rw [hlen];refine ⟨.ref s.heap.objs.size,_,I.laid (t':=s.toks) (o:= .tup (Bq xs lo hi)) (λ b ob q=>Heap.get?_push_of_some _ q) (Nat.le_refl _) ?_,rfl,q _ (I.hok.fresh (Nat.le_refl _))⟩;exact ⟨Nat.le_trans (Ew xs lo hi) hz,_,(r.drop (HT.sIx xs.length 0 lo)).take (HT.sIx xs.length xs.length hi - HT.sIx xs.length 0 lo),IsTup.new _ _⟩
def OA (K:PySem.W.Frag):R2:=λ x y H Q=>∃ a b xs ys,x= .ref a/\y= .ref b/\SqT K H a xs/\SqT K H b ys/\xs≠[]/\xs.length+ys.length<=sizeLine/\
  (ys=[]->Q (.ref a) H)/\(ys≠[]->∀ p,H p=none->Q (.ref p) (upd H p (.tup (xs++ys))))
theorem Vals.nil_iff {xs:List V} {us:List Value} (r:Vals xs us):us=[]↔xs=[]:=by
  cases r with
  | nil=>simp
  | cons _ _=>simp
theorem Lw:OpR X (binaryOp .Add) (OA X.K):=by
  intro pins s σ H x y v u Q I rx ry h;obtain ⟨a,b,xs,ys,rfl,rfl,ha,hb,hx,hz,q1,q2⟩:=h;cases rx;cases ry;obtain ⟨its,r1,p1,_⟩:=I.tuple ha;obtain ⟨its2,r2,p2,_⟩:=I.tuple hb;refine HT.cat_tup p1 p2 (λ z=>hx (r1.nil_iff.mp z)) (λ z=>⟨.ref a,H,I,rfl,q1 (r2.nil_iff.mp z)⟩) (λ z=> ?_) (by rw [<-r1.length, <-r2.length];exact hz);refine ⟨.ref s.heap.objs.size,_,I.laid (t':=s.toks) (o:= .tup (xs++ys)) (λ b ob q=>Heap.get?_push_of_some _ q) (Nat.le_refl _) ?_,rfl,q2 (λ w=>z (r2.nil_iff.mpr w)) _ (I.hok.fresh (Nat.le_refl _))⟩;exact ⟨by rw [List.length_append];exact hz,_,r1.append r2,IsTup.new _ _⟩
end
def ixN (n:Nat) (i:Int):Option Nat:=if 0<=i then (if i<n then some i.toNat else none) else if -(n:Int)<=i then some (i+n).toNat else none
def atI {α:Type} (xs:List α) (i:Int):Option α:=(ixN xs.length i).bind λ j=>xs[j]?
theorem LT {n:Nat} {i:Int} {j:Nat} (h:ixN n i=some j):seqIndex? i n=some j/\j<n/\ -(n:Int)<=i/\i<n:=by
  unfold ixN at h;by_cases h0:0<=i
  · rw [if_pos h0] at h;by_cases h1:i<n
    · rw [if_pos h1] at h;have e:i.toNat=j:=Option.some.inj h;exact ⟨by rw [seqIndex_of h0 h1,e],by omega,by omega,h1⟩
    · rw [if_neg h1] at h;cases h
  · rw [if_neg h0] at h;by_cases h1: -(n:Int)<=i
    · rw [if_pos h1] at h;have e:(i+n).toNat=j:=Option.some.inj h;exact ⟨by rw [seqIndex_neg (by omega) h1,e],by omega,h1,by omega⟩
    · rw [if_neg h1] at h;cases h
theorem IH {α:Type} {xs:List α} {i:Int} {v:α} (h:atI xs i=some v):∃ j,seqIndex? i xs.length=some j/\xs[j]?=some v/\j<xs.length/\ -(xs.length:Int)<=i/\i<xs.length:=by
  unfold atI at h;cases e:ixN xs.length i with
  | none=>rw [e] at h;cases h
  | some j=>
    rw [e] at h;obtain ⟨h1,h2,h3,h4⟩:=LT e;exact ⟨j,h1,h,h2,h3,h4⟩
theorem A6 {α:Type} {xs:List α} {j:Nat} {v:α} (h:xs[j]?=some v):atI xs (j:Int)=some v:=by
  have hj:j<xs.length:=(List.getElem?_eq_some_iff.mp h).1;have e:ixN xs.length (j:Int)=some j:=by
    unfold ixN;rw [if_pos (by omega),if_pos (by omega)];simp
  unfold atI;rw [e];exact h
theorem Ki {α:Type} (xs:List α) (v:α):atI (xs++[v]) (-1)=some v:=by
  have hl:(xs++[v]).length=xs.length+1:=by simp
  have e:ixN (xs++[v]).length (-1)=some xs.length:=by
    unfold ixN;rw [hl,if_neg (by decide),if_pos (by omega)];congr 1;omega
  unfold atI;rw [e];show (xs++[v])[xs.length]?=some v;simp
def LN (b:Expr):Prop:=∀ o i,subscripted b false o i=operate [o,i] (getItem o i)
def IxR (X:Cx) (r:R2):Prop:=
  ∀ (value slice:Expr) (pins:List (Addr × Obj)) (s:Shared) (σ:St) (H:Hp) (x y:V) (v u:Value) (Q:VK),Inv X pins σ H s->RelV x v->RelV y u->r x y H Q->
    subscripted slice false v u=operate [v,u] (getItem v u)->wpAny (model X.prog X.w) X.A (subscriptTail value slice v u) (EP X pins σ Q) X.xe s
def MtR (X:Cx) (id:String) (r:V->List V->Hp->VK->Prop):Prop:=
  ∀ (pins:List (Addr × Obj)) (s:Shared) (σ:St) (H:Hp) (x:V) (xs:List V) (v:Value) (us:List Value) (Q:VK),Inv X pins σ H s->RelV x v->Vals xs us->r x xs H Q->
    wpAny (model X.prog X.w) X.A (call (.builtin id) (v::us)) (EP X pins σ Q) X.xe s
section
variable {X:Cx} {a b:Expr} {ta tb:TE} {pos:Pos}
theorem A9 {r:R2} (hr:IxR X r) (ha:PE X a ta) (hb:PE X b tb) (hs:LN b):PE X (.Subscript a b pos) (tOp r ta tb):=by
  intro pins s σ H Q I h;exact Subscript_ (NQ ha hb I h λ v u s2 x y H2 I2 rx ry q=>hr a b pins s2 σ H2 x y v u Q I2 rx ry q (hs _ _))
def NW (K:PySem.W.Frag):R2:=λ x y H Q=>∃ p xs i v,x= .ref p/\y= .int i/\SqL K H p xs/\atI xs i=some v/\Q v H
def MV (K:PySem.W.Frag):R2:=λ x y H Q=>∃ p xs i v,x= .ref p/\y= .int i/\SqT K H p xs/\atI xs i=some v/\Q v H
theorem LO:IxR X (NW X.K):=by
  intro value slice pins s σ H x y v u Q I rx ry h hs;obtain ⟨p,xs,i,z,rfl,rfl,hq,he,q⟩:=h;cases rx;obtain ⟨t,rfl⟩:=ry;obtain ⟨its,r,pl,hz⟩:=I.list hq;obtain ⟨j,h1,h2,h3,h4,h5⟩:=IH he;obtain ⟨w,ew,rw'⟩:=r.get h2;have hl:=r.length;have hn:=GV;have fin:EP X pins σ Q w s:=⟨z,H,I,rw',q⟩;by_cases h0:0<=i
  · have hj:i.toNat=j:=by
      rw [seqIndex_of h0 h5] at h1;exact Option.some.inj h1
    exact item_listR pl.isList h0 (by omega) (by rw [hj];simpa using ew) fin hs
  · have hj:(i+(its.toArray.size:Int)).toNat=j:=by
      rw [seqIndex_neg (by omega) h4] at h1;rw [List.size_toArray, <-hl];exact Option.some.inj h1
    exact subscriptTail_builtinR (x:=w) pl.isList.typeIs slot_list_getitem.lookup
      (wpAny_getItem_list_neg (Q:=λ r s'=>r=w/\EP X pins σ Q r s') pl.isList (by omega) (by rw [List.size_toArray] <;> omega) (by omega) (by rw [hj];simpa using ew) ⟨rfl,fin⟩) hs
theorem Nf:IxR X (MV X.K):=by
  intro value slice pins s σ H x y v u Q I rx ry h hs;obtain ⟨p,xs,i,z,rfl,rfl,hq,he,q⟩:=h;cases rx;obtain ⟨t,rfl⟩:=ry;obtain ⟨its,r,pl,hz⟩:=I.tuple hq;obtain ⟨j,h1,h2,h3,h4,h5⟩:=IH he;obtain ⟨w,ew,rw'⟩:=r.get h2;have hl:=r.length;have hn:=GV;have fin:EP X pins σ Q w s:=⟨z,H,I,rw',q⟩;exact subscriptTail_builtinR (x:=w) pl.typeIs slot_tuple_getitem.lookup
    (getItem_tuple (j:=j) (Q:=λ r s'=>r=w/\EP X pins σ Q r s') pl (by omega) (by omega) (by rw [List.size_toArray, <-hl];exact h1) (by simpa using ew) ⟨rfl,fin⟩) hs
theorem GP (lo hi:Option Int) (n:Nat):(sliceBounds lo hi none n).1=((HT.sIx n 0 lo:Nat):Int)/\(sliceBounds lo hi none n).2.1=((HT.sIx n n hi:Nat):Int)/\(sliceBounds lo hi none n).2.2=1:=by
  refine ⟨?_,?_,rfl⟩
  · cases lo with
    | none=>simp [sliceBounds,HT.sIx]
    | some i=>
      simp only [sliceBounds,HT.sIx,Option.getD_none,show (1:Int)>0 by decide,if_true];by_cases h:i<0
      · simp only [h,if_true] <;> omega
      · simp only [h,if_false] <;> omega
  · cases hi with
    | none=>simp [sliceBounds,HT.sIx]
    | some i=>
      simp only [sliceBounds,HT.sIx,Option.getD_none,show (1:Int)>0 by decide,if_true];by_cases h:i<0
      · simp only [h,if_true] <;> omega
      · simp only [h,if_false] <;> omega
theorem FL (its:List Value) (lo hi:Option Int):slicePick its.toArray lo hi none=((its.drop (HT.sIx its.length 0 lo)).take (HT.sIx its.length its.length hi - HT.sIx its.length 0 lo)).toArray:=by
  obtain ⟨h1,h2,h3⟩:=GP lo hi its.toArray.size;unfold slicePick;rw [h1,h2,h3];simp only [sliceRange_one,pick_run,List.size_toArray] <;> rfl
def Nm (K:PySem.W.Frag):V->Option Int->Option Int->Hp->VK->Prop:=λ x lo hi H Q=>∃ a xs,x= .ref a/\SqL K H a xs/\∀ p,H p=none->Q (.ref p) (upd H p (.lst (Bq xs lo hi)))
theorem ID:SlR X (Nm X.K):=by
  intro pins s σ H x v vl vu lo hi sl Q I rx hs pl pu h;obtain ⟨a,xs,rfl,hx,q⟩:=h;cases rx;obtain ⟨its,r,ht,hz⟩:=I.list hx;have hlen:=r.length;refine ⟨"list",_,slot_list_getitem.lookup,ht.isList.typeIs,?_⟩;refine wpAny_getItem_list_slice ht.isList hs pl pu .none (by simp) ?_ (by rw [List.size_toArray] <;> omega);rw [FL, <-hlen];refine ⟨.ref s.heap.objs.size,_,I.laid (t':=s.toks) (o:= .lst (Bq xs lo hi)) (λ b ob q=>Heap.get?_push_of_some _ q) (Nat.le_refl _) ?_,rfl,q _ (I.hok.fresh (Nat.le_refl _))⟩;exact ⟨Nat.le_trans (Ew xs lo hi) hz,_,0,(r.drop (HT.sIx xs.length 0 lo)).take (HT.sIx xs.length xs.length hi - HT.sIx xs.length 0 lo),Heap.get?_push_size _ rfl⟩
def Bf:V->Bool
  | .non=>true
  | .bl _=>true
  | .int _=>true
  | .str _=>true
  | _=>false
def eqV:V->V->Bool
  | .non, .non=>true
  | .bl a, .bl b=>a == b
  | .bl a, .int b=>(if a then 1 else 0) == b
  | .int a, .bl b=>a == (if b then 1 else 0)
  | .int a, .int b=>a == b
  | .str a, .str b=>a == b
  | _,_=>false
theorem KB {A:Around} {s:Shared} {y x:V} {u v:Value} (ry:RelV y u) (rx:RelV x v) (fy:Bf y=true) (fx:Bf x=true):SeqAt.EqAt A s u v (eqV y x):=by
  cases y with
  | non=>
    cases ry;cases x with
    | non=>cases rx;exact SeqAt.EqAt.same _
    | bl b=>cases rx;exact SeqAt.EqAt.none_bool b
    | int b=>obtain ⟨t,rfl⟩:=rx;exact SeqAt.EqAt.none_int b t
    | str b=>obtain ⟨t,rfl⟩:=rx;exact SeqAt.EqAt.none_str b t
    | _=>exact absurd (show false=true from fx) Bool.false_ne_true
  | bl a=>
    cases ry;cases x with
    | non=>cases rx;exact SeqAt.EqAt.bool_none a
    | bl b=>cases rx;exact SeqAt.EqAt.bool_bool a b
    | int b=>obtain ⟨t,rfl⟩:=rx;exact SeqAt.EqAt.bool_int a b t
    | str b=>obtain ⟨t,rfl⟩:=rx;exact SeqAt.EqAt.bool_str a b t
    | _=>exact absurd (show false=true from fx) Bool.false_ne_true
  | int a=>
    obtain ⟨t',rfl⟩:=ry;cases x with
    | non=>cases rx;exact SeqAt.EqAt.int_none a t'
    | bl b=>cases rx;exact SeqAt.EqAt.int_bool a t' b
    | int b=>obtain ⟨t,rfl⟩:=rx;exact SeqAt.EqAt.int_int a t' b t
    | str b=>obtain ⟨t,rfl⟩:=rx;exact SeqAt.EqAt.int_str a t' b t
    | _=>exact absurd (show false=true from fx) Bool.false_ne_true
  | str a=>
    obtain ⟨t',rfl⟩:=ry;cases x with
    | non=>cases rx;exact SeqAt.EqAt.str_none a t'
    | bl b=>cases rx;exact SeqAt.EqAt.str_bool a t' b
    | int b=>obtain ⟨t,rfl⟩:=rx;exact SeqAt.EqAt.str_int a t' b t
    | str b=>obtain ⟨t,rfl⟩:=rx;exact SeqAt.EqAt.str_str a t' b t
    | _=>exact absurd (show false=true from fx) Bool.false_ne_true
  | _=>exact absurd (show false=true from fy) Bool.false_ne_true
def eqU (x:V) (u:Value):Bool:=match u with
  | .none=>eqV .non x
  | .bool b=>eqV (.bl b) x
  | .int i _=>eqV (.int i) x
  | .str z _=>eqV (.str z) x
  | _=>false
theorem KZ {x y:V} {u:Value} (r:RelV y u) (f:Bf y=true):eqU x u=eqV y x:=by
  cases y with
  | non=>cases r;rfl
  | bl b=>cases r;rfl
  | int i=>obtain ⟨t,rfl⟩:=r;rfl
  | str z=>obtain ⟨t,rfl⟩:=r;rfl
  | _=>exact absurd (show false=true from f) Bool.false_ne_true
theorem GJ {x:V}:∀ {xs:List V} {us:List Value},Vals xs us->xs.all Bf=true->us.any (eqU x)=xs.any λ y=>eqV y x
  | _,_, .nil,_=>rfl
  | y::xs,u::us, .cons r t,f=>by
    rw [List.all_cons,Bool.and_eq_true] at f;rw [List.any_cons,List.any_cons,KZ r f.1,GJ t f.2]
theorem Fw {A:Around} {s:Shared} {x:V} {v:Value} (rx:RelV x v) (fx:Bf x=true):∀ {xs:List V} {us:List Value},Vals xs us->xs.all Bf=true->∀ u∈us,SeqAt.EqAt A s u v (eqU x u)
  | _,_, .nil,_=>λ u hu=>by cases hu
  | y::xs,u::us, .cons r t,f=>λ u' hu=>by
    rw [List.all_cons,Bool.and_eq_true] at f;rcases List.mem_cons.mp hu with rfl | hu
    · rw [KZ r f.1];exact KB r rx f.1 fx
    · exact Fw rx fx t f.2 u' hu
def inV (x:V) (xs:List V):Bool:=xs.any λ y=>eqV y x
def rIn (K:PySem.W.Frag) (neg:Bool):R2:=λ x y H Q=>∃ p xs,y= .ref p/\(SqL K H p xs\/SqT K H p xs)/\Bf x=true/\xs.all Bf=true/\Q (.bl (if neg then !inV x xs else inV x xs)) H
theorem JI:OpR X (compareOp .In) (rIn X.K false):=by
  intro pins s σ H x y v u Q I rx ry h;obtain ⟨p,xs,rfl,hq,fx,fs,q⟩:=h;cases ry;rcases hq with hq | hq
  · obtain ⟨its,r,pl,hz⟩:=I.list hq;refine SeqAt.in_listAt (eqU x) pl.isList (λ w hw=>Fw rx fx r fs w (by simpa using hw)) ⟨.bl _,H,I,rfl,?_⟩;rw [show its.toArray.any (eqU x)=its.any (eqU x) by simp,GJ r fs];exact q
  · obtain ⟨its,r,pl,hz⟩:=I.tuple hq;refine SeqAt.in_tupleAt (eqU x) pl (λ w hw=>Fw rx fx r fs w (by simpa using hw)) ⟨.bl _,H,I,rfl,?_⟩;rw [show its.toArray.any (eqU x)=its.any (eqU x) by simp,GJ r fs];exact q
theorem GS:AS X (.type "list") (λ xs H Q=>∃ p ys,xs=[.ref p]/\(SqL X.K H p ys\/SqT X.K H p ys)/\∀ l,H l=none->Q (.ref l) (upd H l (.lst ys))):=by
  intro pins s σ H xs us Q I r h;obtain ⟨p,ys,rfl,hq,q⟩:=h;obtain ⟨u,rfl,rx⟩:=DO r;cases rx;have fin:∀ (its:List Value),Vals ys its->ys.length<=sizeLine->∀ (h':Heap) (c':Nat),(∀ b o',s.heap.get? b=some o'->h'.get? b=some o')->
      h'.get? s.heap.objs.size=some { cls:= .type "list",dict:=none,data:= .seq its.toArray c',slots:= #[] }->EP X pins σ Q (.ref s.heap.objs.size) { s with heap:=h' }:=λ its r' hz h' c' kp e=>
    ⟨.ref s.heap.objs.size,_,I.laid (t':=s.toks) kp (Nat.le_refl _) (show ObjOk X.prog X.w _ h' _ (.lst ys) from ⟨hz,its,c',r',e⟩),rfl,q _ (I.hok.fresh (Nat.le_refl _))⟩
  rcases hq with hq | hq
  · obtain ⟨its,r',pl,hz⟩:=I.list hq;have hlen:=r'.length;obtain ⟨o,ho,hc,n,hd⟩:=pl.isList;exact call_list_seq p (.inl rfl) ho hc hd (λ h' c' kp e=>fin its r' hz h' c' kp e) (by simp only [List.size_toArray] <;> omega)
  · obtain ⟨its,r',pl,hz⟩:=I.tuple hq;have hlen:=r'.length;obtain ⟨o,ho,hc,n,hd⟩:=pl;exact call_list_seq p (.inr rfl) ho hc hd (λ h' c' kp e=>fin its r' hz h' c' kp e) (by simp only [List.size_toArray] <;> omega)
theorem FB:AS X (.type "tuple") (λ xs H Q=>∃ p ys,xs=[.ref p]/\((SqL X.K H p ys/\∀ l,H l=none->Q (.ref l) (upd H l (.tup ys)))\/(SqT X.K H p ys/\Q (.ref p) H))):=by
  intro pins s σ H xs us Q I r h;obtain ⟨p,ys,rfl,h⟩:=h;obtain ⟨u,rfl,rx⟩:=DO r;cases rx;rcases h with ⟨hq,q⟩ | ⟨hq,q⟩
  · obtain ⟨its,r',pl,hz⟩:=I.list hq;have hlen:=r'.length;refine call_tuple_list pl.isList (λ h' kp=> ?_) (by simp only [List.size_toArray] <;> omega);have I1:Inv X pins σ H { s with heap:=h' }:=I.kept (t':=s.toks) kp;have I2:Inv X pins σ (upd H h'.objs.size (.tup ys)) { s with heap:=h'.push { cls:= .type "tuple",data:= .seq its.toArray } }:=
      I1.laid (t':=s.toks) (λ b o e=>Heap.get?_push_of_some _ e) (Nat.le_refl _) (show ObjOk X.prog X.w _ _ _ (.tup ys) from ⟨hz,its,r',IsTup.new _ _⟩)
    exact ⟨.ref h'.objs.size,_,I2,rfl,q _ (I1.hok.fresh (Nat.le_refl _))⟩
  · obtain ⟨its,r',pl,hz⟩:=I.tuple hq;exact call_tuple_same pl ⟨.ref p,H,I,rfl,q⟩
def tyV (K:PySem.W.Frag) (T:String) (x:V) (H:Hp):Prop:=match x with
  | .str _=>T="str"
  | .int _=>T="int"
  | .ref p=>(T="list"/\∃ xs,SqL K H p xs)\/(T="tuple"/\∃ o,K.lookup p=some o/\o.cls= .type "tuple"/\o.dict=none)\/
      (T="dict"/\((∃ kvs,H p=some (.dK kvs))\/∃ kvs,H p=some (.dT kvs)))\/(T="set"/\∃ S n,H p=some (.set S n))
  | _=>False
theorem Kk {pins:List (Addr × Obj)} {σ:St} {H:Hp} {s:Shared} {T:String} {x:V} {v:Value} (I:Inv X pins σ H s) (r:RelV x v) (ty:tyV X.K T x H):
    s.TypeIs v T/\∀ a,v= .ref a->∃ ob,s.heap.get? a=some ob/\ob.dict=none:=by
  cases x with
  | str z=>
    obtain ⟨t,rfl⟩:=r;cases (show T="str" from ty);exact ⟨typeIs_str s z t,λ _ e=>nomatch e⟩
  | int i=>
    obtain ⟨t,rfl⟩:=r;cases (show T="int" from ty);exact ⟨typeIs_int s i t,λ _ e=>nomatch e⟩
  | ref p=>
    cases r;rcases ty with ⟨rfl,xs,hq⟩ | ⟨rfl,o,hk,hc,hd⟩ | ⟨rfl,hk⟩ | ⟨rfl,S,n,hk⟩
    · obtain ⟨its,_,pl,_⟩:=I.list hq;refine ⟨pl.isList.typeIs,λ a e=> ?_⟩;cases e;obtain ⟨o,n,e,c,hd,_⟩:=pl;exact ⟨o,e,hd⟩
    · refine ⟨⟨o,I.kIn p o hk,hc⟩,λ a e=> ?_⟩;cases e;exact ⟨o,I.kIn _ o hk,hd⟩
    · have z:∃ o,s.heap.get? p=some o/\o.ExactDict:=by
        rcases hk with ⟨kvs,hk⟩ | ⟨kvs,hk⟩
        · obtain ⟨_,_,_,_,o,_,_,e,ex,_⟩:=I.hok p _ hk;exact ⟨o,e,ex⟩
        · obtain ⟨_,_,_,_,o,_,_,e,ex,_⟩:=I.hok p _ hk;exact ⟨o,e,ex⟩
      obtain ⟨o,e,ex⟩:=z;refine ⟨⟨o,e,ex.1⟩,λ a e2=> ?_⟩;cases e2;exact ⟨o,e,ex.2.1⟩
    · obtain ⟨o,_,_,_,e,ex,_⟩:=I.hok p _ hk;refine ⟨⟨o,e,ex.1⟩,λ a e2=> ?_⟩;cases e2;exact ⟨o,e,ex.2.1⟩
  | _=>exact False.elim ty
def NX (K:PySem.W.Frag) (T:String) (r:V->List V->Hp->VK->Prop) (to:TE):TE:=λ σ H Q=>to σ H λ x H1=>tyV K T x H1/\r x [] H1 Q
def tBM (K:PySem.W.Frag) (T:String) (r:V->List V->Hp->VK->Prop) (to:TE) (t:TA):TE:=λ σ H Q=>to σ H λ x H1=>tyV K T x H1/\t σ H1 λ xs H2=>r x xs H2 Q
variable {o e:Expr} {es:List Expr} {to:TE} {t:TA} {name:Str} {apos cpos:Pos} {T id:String} {r:V->List V->Hp->VK->Prop}
theorem Nr (pa:PlainAttrs T) (slot:Slot T name id) (hty:typeOf (.builtin id)=pure (.type "method_descriptor")) (hm:MtR X id r) (ho:PE X o to)
    (hbase:attributeBase o name X.env (eval o X.env)=eval o X.env:=by rfl) (hline:(apos.endLine == cpos.line)=true:=by rfl):PE X (.Call (.Attribute o name apos) [] [] cpos) (NX X.K T r to):=by
  intro pins s σ H Q I h;refine wpAny_Call_method0_late hbase hline (thn (ho pins s σ H _ I h) λ v s1 ⟨x,H1,I1,r1,ty,q1⟩=> ?_);obtain ⟨h1,h2⟩:=Kk I1 r1 ty;exact ⟨T,id,pa,slot,hty,h1,h2,Calls.callWith_builtin rfl (PySem.evalArgs_none (hm pins s1 σ H1 x [] v [] Q I1 r1 .nil q1))⟩
theorem Oa (pa:PlainAttrs T) (slot:Slot T name id) (hty:typeOf (.builtin id)=pure (.type "method_descriptor")) (hm:MtR X id r) (ho:PE X o to) (ha:PA X (e::es) t)
    (hbase:attributeBase o name X.env (eval o X.env)=eval o X.env:=by rfl)
    (hfew:((backTo cpos (starEach (e::es) X.env)).all (λ x=> !x.1)&&(backToKw cpos (keywordEach [] X.env)).all (λ x=>x.1.isSome)
      && decide ((e::es).length+([]:List Keyword).length+(if ([]:List Keyword).isEmpty then 0 else 1)<30))=true:=by rfl)
    (hline:(apos.endLine == cpos.line)=true:=by rfl) (hs:starEach (e::es) X.env=(false,eval e X.env)::starEach es X.env:=by rfl) (hplain:(backTo cpos (starEach es X.env)).any (·.1)=false:=by rfl):
    PE X (.Call (.Attribute o name apos) (e::es) [] cpos) (tBM X.K T r to t):=by
  intro pins s σ H Q I h;refine wpAny_Call_method_late hbase hfew hline rfl (thn (ho pins s σ H _ I h) λ v s1 ⟨x,H1,I1,r1,ty,q1⟩=> ?_);obtain ⟨h1,h2⟩:=Kk I1 r1 ty;refine ⟨T,id,pa,slot,hty,h1,h2,?_⟩;have hA:=ha cpos pins s1 σ H1 _ I1 q1;rw [hs] at hA ⊢;refine Calls.callWith_builtin (by show (false||(backTo cpos (starEach es X.env)).any (·.1))=false;rw [hplain] <;> rfl) (Calls.evalArgs_plain ?_);exact thn hA λ us s2 ⟨vs,H2,I2,r2,q2⟩=>hm pins s2 σ H2 x vs v us Q I2 r1 r2 q2
end
def MtM (X:Cx) (id:String) (r:V->List V->Hp->VK->Prop):Prop:=
  ∀ (pins:List (Addr × Obj)) (s:Shared) (σ:St) (H:Hp) (x:V) (xs:List V) (v:Value) (us:List Value) (Q:VK),Inv X pins σ H s->RelV x v->Vals xs us->r x xs H Q->
    wpAny (model X.prog X.w) X.A (call (.builtin id) (v::us)) (EP X pins σ Q) X.xe s
theorem Vals.one:∀ {x:V} {us:List Value},Vals [x] us->∃ u,us=[u]/\RelV x u
  | _,_, .cons r .nil=>⟨_,rfl,r⟩
theorem Vals.zero:∀ {us:List Value},Vals [] us->us=[]
  | _, .nil=>rfl
theorem Vals.reverse {xs:List V} {us:List Value} (h:Vals xs us):Vals xs.reverse us.reverse:=by
  induction h with
  | nil=>exact .nil
  | cons r t ih=>rw [List.reverse_cons,List.reverse_cons];exact Vals.append ih (.cons r .nil)
theorem Vals.rep {xs:List V} {us:List Value} (h:Vals xs us):∀ k:Nat,Vals (List.replicate k xs).flatten (List.replicate k us).flatten
  | 0=> .nil
  | k+1=>by
    rw [List.replicate_succ,List.replicate_succ,List.flatten_cons,List.flatten_cons];exact Vals.append h (Vals.rep h k)
theorem F5 (its:List Value):∀ (k:Nat) (acc:List Value),
    List.foldl (λ x1 x2=>x1++x2) acc.toArray (List.replicate k its.toArray)=(acc++(List.replicate k its).flatten).toArray
  | 0,acc=>by simp
  | k+1,acc=>by
    have e:acc.toArray++its.toArray=(acc++its).toArray:=by simp
    have e2:(acc++its)++(List.replicate k its).flatten=acc++(List.replicate (k+1) its).flatten:=by
      rw [List.replicate_succ,List.flatten_cons,List.append_assoc]
    rw [<-e2, <-F5 its k (acc++its), <-e,List.replicate_succ,List.foldl_cons]
section
variable {X:Cx} {pins:List (Addr × Obj)} {σ:St} {H:Hp} {s:Shared} {l b:Addr} {xs ys zs:List V}
theorem Inv.lset {its its':List Value} {n:Nat} {f:Array Value->Array Value} {t':Nat} (I:Inv X pins σ H s) (hH:H l=some (.lst xs))
    (e:s.heap.get? l=some { cls:= .type "list",data:= .seq its.toArray n }) (hf:f its.toArray=its'.toArray) (hv:Vals ys its') (hz:ys.length<=sizeLine):
    Inv X pins σ (upd H l (.lst ys)) { s with heap:=s.heap.update l (Obj.mapSeq f),toks:=t' }:=by
  have q:=PySem.IsL.update e f;rw [hf] at q;refine I.write (x:=l) (e:=l) (by rw [hH];exact trivial) (.inl rfl) (λ b' u hb hu=>(Heap.get?_update_other s.heap (Obj.mapSeq f) (Ne.symm hb)).trans hu) ⟨_,q⟩ ?_;exact ⟨hz,its',_,hv,q⟩
theorem Inv.lnew {its:List Value} {t':Nat} (I:Inv X pins σ H s) (hv:Vals ys its) (hz:ys.length<=sizeLine):
    Inv X pins σ (upd H s.heap.objs.size (.lst ys)) { s with heap:=s.heap.push { cls:= .type "list",data:= .seq its.toArray },toks:=t' }:=
  I.laid (λ _ _ q=>Heap.get?_push_of_some _ q) (Nat.le_refl _) ⟨hz,its,0,hv,Heap.get?_push_size _ rfl⟩
theorem Inv.fresh (I:Inv X pins σ H s):H s.heap.objs.size=none:=I.hok.fresh (Nat.le_refl _)
theorem Inv.lstM (I:Inv X pins σ H s) (hH:H l=some (.lst xs)):xs.length<=sizeLine/\∃ (its:List Value) (n:Nat),Vals xs its/\xs.length=its.length/\s.heap.get? l=some { cls:= .type "list",data:= .seq its.toArray n }:=by
  obtain ⟨z,its,n,r,e⟩:=I.hok l _ hH;exact ⟨z,its,n,r,r.length,e⟩
theorem J9 {n:Nat} (h:n<=sizeLine):Builtin.List.listTooLong n=false:=by
  unfold Builtin.List.listTooLong;exact decide_eq_false (by omega)
end
section
variable {X:Cx}
def rAppend:V->List V->Hp->VK->Prop:=λ x vs H Q=>∃ l xs y,x= .ref l/\vs=[y]/\H l=some (.lst xs)/\xs.length<sizeLine/\Q .non (upd H l (.lst (xs++[y])))
theorem Dc:MtM X "list.append" rAppend:=by
  intro pins s σ H x vs v us Q I rx rv h;obtain ⟨l,xs,y,rfl,rfl,hH,hz,q⟩:=h;cases rx;obtain ⟨u,rfl,ru⟩:=rv.one;obtain ⟨z,its,n,r,hl,e⟩:=I.lstM hH;refine call_meets F.slot_list_append ⟨_,e,rfl⟩ F.entry_list_append (F.args_list_append_2 _ _) (PySem.list_append l its.toArray n u (by rw [List.size_toArray];omega)) ⟨e,?_⟩;refine ⟨.non,_,I.lset (its':=its++[u]) hH e (by simp) (r.append (.cons ru .nil)) ?_,rfl,q⟩;rw [List.length_append,List.length_singleton];omega
def OK:R2:=λ x y H Q=>∃ l k xs,x= .ref l/\y= .int k/\H l=some (.lst xs)/\ -(2 ^ 63)<=k/\k<2 ^ 63/\xs.length*k.toNat<=sizeLine/\
  ∀ p,H p=none->Q (.ref p) (upd H p (.lst (List.replicate k.toNat xs).flatten))
theorem L0 {α:Type} (xs:List α) (k:Nat):(List.replicate k xs).flatten.length=k*xs.length:=by
  induction k with
  | zero=>simp
  | succ k ih=>rw [List.replicate_succ,List.flatten_cons,List.length_append,ih,Nat.succ_mul,Nat.add_comm]
theorem Gj:OpR X (binaryOp .Mult) OK:=by
  intro pins s σ H x y v u Q I rx ry h;obtain ⟨l,k,xs,rfl,rfl,hH,h1,h2,hz,q⟩:=h;cases rx;obtain ⟨t,rfl⟩:=ry;obtain ⟨z,its,n,r,hl,e⟩:=I.lstM hH;have hlen:its.toArray.size*k.toNat<=sizeLine:=by rw [List.size_toArray, <-hl];exact hz
  have hcap:¬ its.toArray.size*k.toNat>(2 ^ 63 - 1) / 8:=by
    have:(sizeLine:Nat)<=(2 ^ 63 - 1) / 8:=by decide
    omega
  have hfit:¬ (!Builtin.List.listFitsIndex k)=true:=by
    rw [fitsIndex_both h1 h2];exact Bool.false_ne_true
  have hlong:¬ Builtin.List.listTooLong (its.toArray.size*k.toNat)=true:=by
    rw [J9 hlen];exact Bool.false_ne_true
  have hnew:List.foldl (λ x1 x2=>x1++x2) #[] (List.replicate (if its.toArray.isEmpty=true then 0 else k.toNat) its.toArray)=(List.replicate k.toNat its).flatten.toArray:=by
    have f0:∀ m:Nat,List.foldl (λ x1 x2=>x1++x2) #[] (List.replicate m its.toArray)=(List.replicate m its).flatten.toArray:=λ m=>by
      have:=F5 its m [];rw [List.nil_append] at this;exact this
    rw [f0];cases its with
    | nil=>simp
    | cons a r'=>rw [if_neg (by simp)]
  refine wpAny_binaryOp_repeat_ref (T:="list") (U:="int") (by decide) ⟨_,e,rfl⟩ (λ s'=>typeIs_int s' k t) noFill_list_mul F.fills_int_mul F.slot_int_rmul repeat_list F.slot_int_index.lookup
    (call_meets F.slot_int_rmul (typeIs_int s k t) F.entry_int_rmul (F.args_int_rmul_2 _ _) (int___rmul___int_list k t l its.toArray n)
      ⟨e,rfl,⟨_,e,rfl⟩,call_meets F.slot_list_mul ⟨_,e,rfl⟩ F.entry_list_mul (F.args_list_mul_2 _ _) (AutoListH.list___mul___list_int_3 l its.toArray n k t hfit hcap hlong) ⟨e,?_⟩⟩)
  rw [hnew];exact ⟨.ref _,_,I.lnew (t':=s.toks) (r.rep k.toNat) (by rw [L0,Nat.mul_comm];exact hz),rfl,q _ I.fresh⟩
end
section
variable {prog:Program} {w:World} {A:Around} {E:Value->Shared->Prop} {s:Shared}
end
section
variable {X:Cx}
end
end L2
namespace Att
open PySem PySem.W PySem.Calls PyProof.Rows
theorem EJ {P:Params} {h:Heap}:∀ (ns:List Int) (vs:List Value),WellAll P h vs (ns.map WData.int)->IntsAre vs ns:=by
  intro ns
  induction ns with
  | nil=>
    intro vs w;rw [List.map_nil] at w;cases w;exact .nil
  | cons n ns ih=>
    intro vs w;rw [List.map_cons] at w;cases w with
    | cons a b=>
      cases a;exact .cons _ _ (ih _ b)
theorem JA {l:OpenLaw} {n:Nat} (hn:l.most=some n) {P:Params} {h:Heap} {args:List WData} {vals:List Value}
    (hpre:l.row.toRowW.claim.pre args=true) (hwl:WellAll P h vals args):
    ∃ a vs ns,vals=[Value.ref a]/\args=[WData.list (ns.map WData.int)]/\h.get? a=some { cls:= .type "list",data:= .seq vs.toArray }/\IntsAre vs ns/\ns.length<=n:=by
  have hsh:WShape.hasAll [] args [.list .int]=true:=(pre_splitW hpre).1;have hc:l.pre.holds [] { args:=args }=true:=(pre_splitW hpre).2;obtain ⟨d,r,rfl,h1,h2⟩:=hasAllW_cons hsh;obtain rfl:=hasAllW_nil h2;obtain ⟨xs,rfl,h3⟩:=hasW_list h1;obtain ⟨ns,rfl⟩:=items_int h3;have hlen:ns.length<=n:=by
    unfold OpenLaw.pre at hc;have h4:(WTm.not (.lt (.lit (.int (n:Int))) (.len (.arg 0)))).holds [] { args:=[.list (ns.map .int)] }=true:=by
      have h4:=(holds_andW hc).1;rw [hn] at h4;exact h4
    have h5:=condW_of h4 (w_not (w_lt w_lit (w_len_list (w_arg rfl))));rw [List.length_map] at h5;refine Nat.le_of_not_lt λ q=> ?_;have q':(n:Int)<((ns.length:Nat):Int):=by omega
    first
      | (rw [decide_eq_true q'] at h5;exact absurd h5 (by decide))
      | (simp at h5;omega)
  cases hwl with
  | cons w1 w2=>
    cases w2;cases w1 with
    | list ho hall=>exact ⟨_,_,ns,rfl,rfl,ho,EJ ns _ hall,hlen⟩
theorem Js (l:OpenLaw) (args:List WData):l.row.toRowW.claim.post args (.bool true) args=true:=
  postW_of (r:=l.row.toRowW) (X:=(true == true))
    (show WShape.has [] (.bool true) .bool=true by first | rfl | decide | simp [WShape.has,WShape.arms,WShape.armsAll])
    (show (WTm.eq .res (.lit (.bool true))).value [] { args:=args,res:=some (.bool true),after:=args }=some (.bool (true == true)) from w_eq_bool (w_res rfl) w_lit) rfl
theorem attach_call {l:OpenLaw} {n:Nat} {q:Program} {loose:List Str} {XP:(Str->Option Value)->Heap->Prop} {YP:World->Heap->Prop} {d:DefRec}
    (hn:l.most=some n) (hdf:d.params.defaults=[])
    (call:∀ (w:World) (s₀ s₁:Shared) (mg mb:Str->Option Value) (fa:Addr) (o:Obj) (pm cd doc:Value) (a:Addr) (vs:List Value) (ns:List Int),
      Ground q loose [] XP w s₀ mg mb s₁.heap->YP w s₁.heap->
      s₁.heap.get? fa=some o->o.data= .func (docDef d.name d.params d.body d.scope pm cd doc)->s₁.heap.CodeRec cd d.name->mg d.name=some (.ref fa)->
      s₁.heap.get? a=some { cls:= .type "list",data:= .seq vs.toArray }->IntsAre vs ns->ns.length<=n->s₁.gens= #[]->
      codeAny (model l.prog w) callerA (.call (.ref fa) ⟨[.ref a],[]⟩) (λ r s'=>r= .ok (.ret (.bool true))/\OldK s₁.heap s'.heap/\s'.os=s₁.os/\AllBare s'.gens) s₁):
    WalkO q loose XP YP l.row.toRowW d [] (λ f vs=>PySem.call f vs):=by
  intro w s₀ s₁ mg mb G Y fa o pm cd doc dV kV ho hd hcd hD hmg hg args vals as hpre hlay hrd hwl hlo;obtain rfl:dV= .none:=Dflts.none hD hdf;obtain rfl:kV= .none:=Dflts.noKw hD;obtain ⟨a,vs,ns,rfl,rfl,hobj,hints,hlen⟩:=JA hn hpre hwl;refine enter_call (codeAny_mono (call w s₀ s₁ mg mb fa o pm cd doc a vs ns G Y ho (fd_plain hd) hcd hmg hobj hints hlen hg) λ r s' hq=> ?_);obtain ⟨rfl,h2,h3,h4⟩:=hq;exact ⟨.inl ⟨.bool true, .bool true,[],rfl,λ _=>rfl, .bool true,Js l _,λ _=>⟨List.Pairwise.nil,λ _ hm=>(nomatch hm)⟩⟩,h2,h3,h4⟩
section
variable {prog:Program} {w:World} {A:Around} {E:Value->Shared->Prop} {s:Shared} {K:Frag}
end
end Att
namespace L2
open PySem PySem.Spec PyProof.Rows
theorem Gc:∀ {vs:List Value} {ns:List Int},IntsAre vs ns->Vals (ns.map V.int) vs
  | _,_, .nil=> .nil
  | _,_, .cons n t h=> .cons ⟨t,rfl⟩ (Gc h)
def Nv (H:Hp):Prop:=∀ b,H b=none\/∃ o xs,H b=some (.frz o (.lst xs))
theorem Kr {P:Program} {w:World} {K:PySem.W.Frag} {mg mb:Str->Option Value} {CX:CXT} {k:Nat} {fa a:Addr} {fd:FuncData} {x:Str} {sp:Sp} {s₁:Shared} {vs:List Value} {ns:List Int}
    (KX:K.In s₁.heap) (hns:s₁.heap.Ns mainGlobals mg) (hb:s₁.heap.Ns builtinsNs mb) (hbb:∀ x:Str,x≠"__name__"->mb x=bootBuiltins x) (hlim:s₁.heap.NoLimit) (hg:s₁.gens= #[])
    (ha:s₁.heap.get? a=some { cls:= .type "list",data:= .seq vs.toArray }) (hi:IntsAre vs ns) (hl:ns.length<=sizeLine) (hr:Room k callerA)
    (F:∀ base:Heap,K.In base->base.Ns mainGlobals mg->FnOk P w K mg base CX k fa fd [x] sp) (hbind:∀ (s:Shared) (u:Value),BindsTo s fd ⟨[u],[]⟩ [(x,u)])
    (hsp:∀ H:Hp,Nv H->SqL K H a (ns.map V.int)->sp [.ref a] H (λ v _=>v= .bl true) λ _ _ _=>False)
    (hCX:∀ H e s',CX [] H s₁ (λ _ _ _=>False) e s'->False):
    codeAny (model P w) callerA (.call (.ref fa) ⟨[.ref a],[]⟩) (λ r s'=>r= .ok (.ret (.bool true))/\OldK s₁.heap s'.heap/\s'.os=s₁.os/\AllBare s'.gens) s₁:=by
  have rv:=Gc hi;have lenV:=hi.length;have core:∀ H:Hp,Nv H->SqL K H a (ns.map V.int)->HOk P w H s₁.heap->(∀ b,H b≠none->b=a)->(H a≠none->K.lookup a=none)->
      codeAny (model P w) callerA (.call (.ref fa) ⟨[.ref a],[]⟩) (λ r s'=>r= .ok (.ret (.bool true))/\OldK s₁.heap s'.heap/\s'.os=s₁.os/\AllBare s'.gens) s₁:=by
    intro H hO hS hok hA hK;have base_of:∀ {b:Addr} {o:Obj},s₁.heap.get? b=some o->H b=none->(Gn s₁.heap H).get? b=some o:=λ e n=>KD e n;have noA:∀ {b:Addr} {o:Obj} {es:Array DictEntry} {ep:Nat},s₁.heap.get? b=some o->o.data= .dict es ep->H b=none:=λ {b o es ep} e d=>by
      cases q:H b with
      | none=>rfl
      | some u=>
        have e':b=a:=hA b (by rw [q];simp);subst e';rw [ha] at e;cases e;have d':Data.seq vs.toArray _=Data.dict es ep:=d;cases d'
    have nsK:∀ {b:Addr} {m:Str->Option Value},s₁.heap.Ns b m->(Gn s₁.heap H).Ns b m:=λ {b m} ⟨o,es,ep,e,d,r⟩=>⟨o,es,ep,base_of e (noA e d),d,r⟩;have hKb:K.In (Gn s₁.heap H):=λ b o e=>base_of (KX b o e) (by
      cases q:H b with
      | none=>rfl
      | some u=>
        have e':b=a:=hA b (by rw [q];simp);subst e';rw [hK (by rw [q];simp)] at e;cases e)
    have hM:Mod K mg (Gn s₁.heap H):=⟨hKb,nsK hns,⟨mb,nsK hb,hbb⟩,let ⟨mc,h1,h2⟩:=hlim;⟨mc,nsK h1,h2⟩⟩;have e0:Env0 P w K mg (Gn s₁.heap H) callerA [] s₁ H:=⟨rfl,hM,λ b o e=>K9 e,Nat.le_of_eq (JE _ _),trivial,λ b hb=>absurd (show b∈([]:List Addr) from hb) (by simp),hok, .of_eq hg⟩;refine codeAny_mono ((F _ hKb (nsK hns)).run callerA [] s₁ H ⟨[.ref a],[]⟩ [.ref a] [.ref a] _ _ hr e0 (hbind s₁ (.ref a)) (.cons rfl .nil) (hsp H hO hS)) λ r s' h=> ?_;cases r with
    | error e=>exact (hCX H e s' h).elim
    | ok fl=>
      cases fl with
      | next=>exact False.elim h
      | brk=>exact False.elim h
      | cont=>exact False.elim h
      | ret u=>
        obtain ⟨v,H',os,bare,un,hok',r',q⟩:=h;have q':v= .bl true:=q;subst q';obtain rfl:u=Value.bool true:=r';refine ⟨rfl,OldK.of_keep λ b o e=> ?_,os,bare⟩;cases q:H b with
        | none=>exact un.keep b o e q (by intro z;exact absurd (show b∈([]:List Addr) from z) (by simp)) (by simp)
        | some u=>
          rcases hO b with z | ⟨ob,xs,z⟩
          · rw [q] at z;cases z
          · have z2:=un.frzs b ob _ z;obtain ⟨e1,_⟩:=hok b _ z;obtain ⟨e2,_⟩:=hok' b _ z2;rw [e] at e1;cases e1;exact e2
  cases hk:K.lookup a with
  | some o=>
    have e:=KX a o hk;rw [ha] at e;cases e;refine core (λ _=>none) (λ _=> .inl rfl) (.inr ⟨_,vs.toArray,_,hk,rfl,rfl,rfl,by rw [List.size_toArray,lenV];exact hl,by simpa using rv⟩) (λ b u z=>by have z':(none:Option HO)=some u:=z;cases z') (λ b z=>absurd rfl z) λ z=>absurd rfl z
  | none=>
    refine core (λ b=>if b=a then some (.frz { cls:= .type "list",data:= .seq vs.toArray } (.lst (ns.map V.int))) else none) (λ b=> ?_) (.inl (.inr ⟨{ cls:= .type "list",data:= .seq vs.toArray },if_pos rfl⟩)) (λ b u z=> ?_) (λ b z=> ?_) λ _=>hk
    · by_cases hb:b=a
      · exact .inr ⟨_,_,if_pos hb⟩
      · exact .inl (if_neg hb)
    · by_cases hb:b=a
      · have z':=(if_pos hb).symm.trans z;cases z';subst hb;exact ⟨ha,by rw [List.length_map];exact hl,vs,_,rv,ha⟩
      · have z':=(if_neg hb).symm.trans z;cases z'
    · by_cases hb:b=a
      · exact hb
      · exact absurd (if_neg hb) z
theorem walk_of {l:PySem.W.OpenLaw} {n k:Nat} {q:Program} {loose:List Str} {XP:(Str->Option Value)->Heap->Prop} {YP:World->Heap->Prop} {d:DefRec} {K:Params->PySem.W.Frag} {CX:World->CXT} {sp:World->Sp} {x:Str}
    (hn:l.most=some n) (hn2:n<=sizeLine) (hdf:d.params.defaults=[]) (hr:Room k callerA)
    (hY:∀ (w:World) (h:Heap),YP w h->(K w.params).In h)
    (F:∀ (w:World) (mg:Str->Option Value) (fa:Addr) (h:Heap),(K w.params).In h->h.Ns mainGlobals mg->mg d.name=some (.ref fa)->
      ∃ fd:FuncData,(∀ (s:Shared) (u:Value),BindsTo s fd ⟨[u],[]⟩ [(x,u)])/\
        ∀ base:Heap,(K w.params).In base->base.Ns mainGlobals mg->FnOk l.prog w (K w.params) mg base (CX w) k fa fd [x] (sp w))
    (hsp:∀ (w:World) (H:Hp) (a:Addr) (ns:List Int),ns.length<=n->Nv H->SqL (K w.params) H a (ns.map V.int)->sp w [.ref a] H (λ v _=>v= .bl true) λ _ _ _=>False)
    (hCX:∀ (w:World) (H:Hp) (s:Shared) (e:Value) (s':Shared),CX w [] H s (λ _ _ _=>False) e s'->False):
    PySem.W.WalkO q loose XP YP l.row.toRowW d [] (λ f vs=>PySem.call f vs):=by
  refine Att.attach_call hn hdf λ w s₀ s₁ mg mb fa o pm cd doc a vs ns G Y ho hd hcd hmg hobj hints hlen hg=> ?_;have KX:=hY w _ Y;obtain ⟨fd,hb,hF⟩:=F w mg fa _ KX G.T.g hmg;exact Kr KX G.T.g G.T.b G.T.builtins G.T.nolimit hg hobj hints (Nat.le_trans hlen hn2) hr hF hb (λ H hO hS=>hsp w H a ns hlen hO hS) λ H e s'=>hCX w H s₁ e s'
abbrev CX0:CXT:=λ _ _ _ _ _ _=>False
abbrev E0:XK:=λ _ _ _=>False
theorem IU {X:Cx}:Dv CX0 X E0:=λ _ _ _ _ _ _ _ h=>h.elim
structure Fun (K:PySem.W.Frag) (x qual:Str) (st:Stmt) (f:Addr) (fd:FuncData):Prop where
  ex:∃ (oc:Value) (od:Option Addr) (kV doc pm:Value) (an:Option Addr) (cdv ct:Value) (osl:Array (Option Value)),
    fd=PySem.W.fnOf x qual (EU st) (DJ st) (Aj st) .none kV doc pm an cdv ct/\K.lookup f=some ⟨oc,od, .func fd,osl⟩/\PySem.W.codeIn K cdv qual=true
  kp:PySem.W.keepIn K (.ref f)=true
section
variable {P:Program} {w:World} {K:PySem.W.Frag} {mg:Str->Option Value} {base:Heap}
theorem Fun.ok {x qual:Str} {st:Stmt} {f:Addr} {fd:FuncData} {N ps:List Str} {k:Nat} {sp:Sp} (F:Fun K x qual st f fd) (S:FnScope N ps (Aj st)) (len:∀ vs H Q E,sp vs H Q E->vs.length=ps.length)
    (hbody:∀ (cdv:Value) (A:Around) (outer:List Env) (s:Shared) (H:Hp) (vs:List V) (Q:VK) (E:XK),Room k (A.deeper (envOfC qual (Aj st) s.heap.objs.size f cdv))->sp vs H Q E->
      ∃ t,PSs (Jv CX0 P w K mg base N qual (Aj st) f cdv A outer s H E).nox (DJ st) t/\t { nx:=λ _ H'=>Q .non H',rt:=Q } (start N vs) H):FnOk P w K mg base CX0 (k+1) f fd ps sp:=by
  obtain ⟨oc,od,kV,doc,pm,an,cdv,ct,osl,rfl,lk,hcd⟩:=F.ex;refine OZ lk hcd S len λ A outer s H vs Q E hr hsp=> ?_;obtain ⟨t,h,q⟩:=hbody cdv A outer s H vs Q E hr hsp;exact ⟨t,h.nox,q⟩
theorem fun_mk {x qual:Str} {st:Stmt} {f:Addr} {oc:Value} {od an:Option Addr} {osl:Array (Option Value)} {kV doc pm cdv ct:Value} (l:K.lookup f=some ⟨oc,od, .func (PySem.W.fnOf x qual (EU st) (DJ st) (Aj st) .none kV doc pm an cdv ct),osl⟩)
    (c:PySem.W.codeIn K cdv qual=true) (k:PySem.W.keepIn K (.ref f)=true):Fun K x qual st f (PySem.W.fnOf x qual (EU st) (DJ st) (Aj st) .none kV doc pm an cdv ct):=⟨⟨oc,od,kV,doc,pm,an,cdv,ct,osl,rfl,l,c⟩,k⟩
end
section
variable {X:Cx}
theorem pv (i:Nat) {x:Str} {pos:Pos} (hN:X.N[i]?=some x:=by rfl) (hv:Vis X.env.scope x:=by first | exact Or.inl rfl | exact Or.inr (Or.inl rfl) | exact Or.inr (Or.inr rfl)) (hd:(x == ("__debug__":Str))=false:=by decide)
    (hcd:(x == ("__classdict__":Str))=false:=by decide):PE X (.Name x pos) (Nq i):=MJ hN hv hd hcd
end
theorem Hz {A B:Prop} (h:B):if false=true then A else B:=by
  rw [if_neg Bool.false_ne_true];exact h
theorem KJ {A B:Prop} (h:A):if true=true then A else B:=by
  rw [if_pos rfl];exact h
def Same (H H':Hp):Prop:=∀ b o,H b=some o->H' b=some o
theorem Same.refl (H:Hp):Same H H:=λ _ _ h=>h
theorem Same.trans {H H1 H2:Hp} (a:Same H H1) (b:Same H1 H2):Same H H2:=λ c o h=>b c o (a c o h)
theorem Same.free {H H':Hp} (e:Same H H') {l:Addr} (h:H' l=Option.none):H l=Option.none:=by
  cases q:H l with
  | none=>rfl
  | some o=>
    rw [e l o q] at h;cases h
theorem Same.seq {K:PySem.W.Frag} {H H':Hp} {a:Addr} {xs:List V} (e:Same H H') (h:SqL K H a xs):SqL K H' a xs:=by
  rcases h with (h | ⟨o,h⟩) | h
  · exact .inl (.inl (e _ _ h))
  · exact .inl (.inr ⟨o,e _ _ h⟩)
  · exact .inr h
section
variable {κ:Type} [DecidableEq κ]
theorem KV.length {kvs:List (κ × V)} {vs:List (κ × Value)} (r:KV kvs vs):kvs.length=vs.length:=Paired.length r
end
section
variable {P:Program} {w:World} {H:Hp} {h:Heap} {a:Addr}
end
section
variable {X:Cx} {pins:List (Addr × Obj)} {σ:St} {H:Hp} {s:Shared} {a:Addr} {y v:V} {u r:Value} {o:Option V} {A:Around} {E:Value->Shared->Prop}
end
section
variable {X:Cx} {pins:List (Addr × Obj)} {σ:St} {H:Hp} {s:Shared} {a:Addr} {kvs:List (Key × V)} {k:Key} {u:Value} {A:Around} {E:Value->Shared->Prop}
end
section
variable {X:Cx} {o i e value:Expr} {pos pos' tpos:Pos} {td ty tv:TE}
end
section
variable {X:Cx} {pos:Pos}
end
section
variable {X:Cx} {pins:List (Addr × Obj)} {σ:St} {H:Hp} {s:Shared} {a:Addr} {y d:V} {u r:Value} {o:Option V} {A:Around} {E:Value->Shared->Prop}
end
section
variable {X:Cx} {o e f:Expr} {apos cpos:Pos} {td ty tx:TE}
end
section
variable {X:Cx} {pins:List (Addr × Obj)} {σ:St} {H:Hp} {s:Shared} {a:Addr} {kvs:List (Key × V)} {A:Around} {E:Value->Shared->Prop}
end
section
variable {X:Cx} {pins:List (Addr × Obj)} {σ:St} {H:Hp} {s:Shared} {a:Addr} {y:V} {u:Value} {A:Around} {E:Value->Shared->Prop}
end
section
variable {P:Program} {w:World} {K:PySem.W.Frag} {mg:Str->Option Value} {base:Heap}
end
section
variable {X:Cx}
end
section
variable {κ:Type} [DecidableEq κ]
end
def Ar (cells:List (Str × Addr)):List (Str × NameKind)->List (Str × Addr)->List (Str × Addr)
  | [],acc=>acc
  | (n,k)::r,acc=>Ar cells r (if k= .free then (match cells.lookup n with | some a=>(n,a)::acc | none=>acc) else acc)
theorem Dk {env:Env}:∀ (names:List (Str × NameKind)) (acc:List (Str × Addr)),(∀ y∈names,y.2= .free->∃ c,env.cells.lookup y.1=some c)->
    (forIn names acc λ (x:Str × NameKind) (r:List (Str × Addr))=>
      (if (x.2 == NameKind.free)=true then (do let a <-cellOf env x.1;pure (ForInStep.yield ((x.1,a)::r))) else pure (ForInStep.yield r):Sem (ForInStep (List (Str × Addr)))))=(pure (Ar env.cells names acc):Sem (List (Str × Addr)))
  | [],acc,_=>rfl
  | (n,k)::rest,acc,h=>by
    rw [List.forIn_cons];have ih:=λ acc'=>Dk (env:=env) rest acc' λ y hy=>h y (List.mem_cons_of_mem _ hy);by_cases hk:k= .free
    · subst hk;obtain ⟨c,hc⟩:=h (n, .free) List.mem_cons_self rfl;have hc:env.cells.lookup n=some c:=hc;have e:cellOf env n=pure c:=by unfold cellOf;rw [hc]
      simp only [beq_self_eq_true,if_true,e,pure_bind,Ar,hc];exact ih _
    · have hb:(k == NameKind.free)=false:=by simpa using hk
      simp only [hb,Bool.false_eq_true,if_false,pure_bind,Ar,if_neg hk];exact ih _
theorem BU {env:Env} {scope:Scope} (h:∀ y∈scope.names,y.2= .free->∃ c,env.cells.lookup y.1=some c):closureFor scope env=pure (Ar env.cells scope.names []):=by
  have e:=Dk (env:=env) scope.names [] h;unfold closureFor;simp only [bind_pure_comp,bind_pure,map_pure] at*;exact e
theorem DC {cells:List (Str × Addr)}:∀ (names:List (Str × NameKind)) (acc:List (Str × Addr)),(∀ x c,acc.lookup x=some c->cells.lookup x=some c)->∀ x c,(Ar cells names acc).lookup x=some c->cells.lookup x=some c
  | [],acc,h,x,c,e=>h x c e
  | (n,k)::r,acc,h,x,c,e=>by
    refine DC r _ ?_ x c e;intro y d q;split at q
    · split at q
      · rename_i a ha
        rw [List.lookup_cons] at q;split at q
        · rename_i hy
          cases q;rw [eq_of_beq hy];exact ha
        · exact h y d q
      · exact h y d q
    · exact h y d q
theorem Dq {cells:List (Str × Addr)}:∀ (names:List (Str × NameKind)) (acc:List (Str × Addr)) (x:Str),(((x,NameKind.free)∈names/\∃ c,cells.lookup x=some c)\/∃ c,acc.lookup x=some c)->∃ c,(Ar cells names acc).lookup x=some c
  | [],acc,x,h=>by
    rcases h with ⟨h,_⟩ | h
    · cases h
    · exact h
  | (n,k)::r,acc,x,h=>by
    refine Dq r _ x ?_;have up:(∃ c,acc.lookup x=some c)->∃ c,(if k= .free then (match cells.lookup n with | some a=>(n,a)::acc | none=>acc) else acc).lookup x=some c:=by
      rintro ⟨c,hc⟩;split
      · split
        · rename_i a ha
          rw [List.lookup_cons];split
          · exact ⟨_,rfl⟩
          · exact ⟨c,hc⟩
        · exact ⟨c,hc⟩
      · exact ⟨c,hc⟩
    rcases h with ⟨h,c,hc⟩ | h
    · rcases List.mem_cons.mp h with e | e
      · cases e;right;refine ⟨c,?_⟩;rw [if_pos rfl,hc,List.lookup_cons,beq_self_eq_true]
      · exact .inl ⟨e,c,hc⟩
    · exact .inr (up h)
theorem Cv (env:Env) (x:Str):∀ names:List (Str × NameKind),
    (names.map λ (n,k)=>if (k == NameKind.free&&env.scope.kind == .function&&env.kindOf n == some .cell) then (n,NameKind.cell) else (n,k)).lookup x=
      (names.lookup x).map λ k=>if (k == NameKind.free&&env.scope.kind == .function&&env.kindOf x == some .cell)=true then NameKind.cell else k
  | []=>rfl
  | (n,k)::r=>by
    have ih:=Cv env x r;show List.lookup x ((if (k == NameKind.free&&env.scope.kind == .function&&env.kindOf n == some .cell)=true then (n,NameKind.cell) else (n,k))::_)=_;cases hx:x == n with
    | true=>
      have e:x=n:=eq_of_beq hx;subst e;by_cases hc:(k == NameKind.free&&env.scope.kind == .function&&env.kindOf x == some .cell)=true
      · rw [if_pos hc,List.lookup_cons,List.lookup_cons,beq_self_eq_true];simp only [Option.map_some,if_pos hc]
      · rw [if_neg hc,List.lookup_cons,List.lookup_cons,beq_self_eq_true];simp only [Option.map_some,if_neg hc]
    | false=>
      have e:(List.lookup x ((n,k)::r))=List.lookup x r:=by rw [List.lookup_cons,hx]
      rw [e, <-ih];split <;> rw [List.lookup_cons,hx]
structure BlkScope (X:Cx) (scope:Scope) (own:List Str) (fr:List (Str × Nat)):Prop where
  kind:scope.kind= .function
  nocell:∀ y∈scope.names,y.2≠ .cell
  loc:∀ y∈scope.names,y.2= .local->scope.names.lookup y.1=some .local
  free:∀ y∈scope.names,y.2= .free->(X.env.scope.names.lookup y.1=some .cell\/X.env.scope.names.lookup y.1=some .free)
  fr:∀ p∈fr,X.N[p.2]?=some p.1/\(p.1,NameKind.free)∈scope.names
  only:∀ x,(x,NameKind.free)∈scope.names->scope.names.lookup x=some .free
def AI (X:Cx) (scope:Scope) (own:List Str) (fr:List (Str × Nat)) (C:Addr) (ex:List Addr) (s:Shared) (H:Hp):Cx where
  prog:=X.prog
  w:=X.w
  K:=X.K
  mg:=X.mg
  base:=X.base
  A:=X.A
  N:=own++fr.map (·.1)
  s₀:=s
  H₀:=H
  env:=compEnvC scope (Ar X.env.cells scope.names []) C X.env
  outer:=X.stack
  stack:=X.stack
  ex:=ex
  fn:=λ _=>false
  calm:=X.calm
  pn:=[]
  xe:=λ _ _=>False
def Bu (own:List Str) (fr:List (Str × Nat)) (σ:St):St:=own.map (λ _=>none)++fr.map (λ p=>(σ[p.2]?).getD none)
section
variable {X:Cx} {pins:List (Addr × Obj)} {σ:St} {H:Hp} {s:Shared} {scope:Scope} {own:List Str} {fr:List (Str × Nat)} {fp:List Addr}
theorem BlkScope.cells (S:BlkScope X scope own fr) (ok:X.Ok):∀ y∈scope.names,y.2= .free->∃ c,X.env.cells.lookup y.1=some c:=λ y hy e=>ok.has y.1 (S.free y hy e)
theorem Inv.block {h':Heap} {t':Nat} {m:Str->Option Value} (I:Inv X pins σ H s) (S:BlkScope X scope own fr) (hf:∀ b∈fp,BP X pins H b) (hlt:∀ b∈fp,b<s.heap.objs.size)
    (hns:h'.Ns s.heap.objs.size m) (k:∀ b o,s.heap.get? b=some o->h'.get? b=some o):
    Inv (AI X scope own fr s.heap.objs.size fp s H) [] (Bu own fr σ) H { s with heap:=h',toks:=t' }:=by
  have cs:∀ x c,(Ar X.env.cells scope.names []).lookup x=some c->X.env.cells.lookup x=some c:=DC _ _ (λ _ _ e=>by simp at e);have ck:∀ c v,s.heap.IsCell c v->h'.IsCell c v:=λ c v ⟨o,ho,hd⟩=>⟨o,k _ _ ho,hd⟩;have kf:∀ x,(x,NameKind.free)∈scope.names->∃ c,X.env.cells.lookup x=some c/\(Ar X.env.cells scope.names []).lookup x=some c:=λ x hx=>by
    obtain ⟨c0,e0⟩:=S.cells I.ok (x, .free) hx rfl;obtain ⟨c,e⟩:=Dq (cells:=X.env.cells) scope.names [] x (.inl ⟨hx,c0,e0⟩);exact ⟨c,cs _ _ e,e⟩
  have rel:∀ x,(compEnvC scope (Ar X.env.cells scope.names []) s.heap.objs.size X.env).kindOf x=(scope.names.lookup x).map λ k=>if (k == NameKind.free&&X.env.scope.kind == .function&&X.env.kindOf x == some .cell)=true then NameKind.cell else k:=λ x=>Cv X.env x scope.names
  have nc:∀ x,scope.names.lookup x≠some .cell:=λ x e=>S.nocell _ (PySem.mem_of_lookup e) rfl;refine ⟨⟨I.ok.mod,S.kind,I.ok.glob,I.ok.blt,Nat.le_refl _,λ x y c e1 e2=>I.ok.inj x y c (cs _ _ e1) (cs _ _ e2),λ x hx=> ?_,λ x c e _=>(nomatch e),I.ok.hd,I.ok.frames, .inl rfl,
    λ b hb=>⟨Nat.ne_of_lt (hlt b hb),λ x c e=>(hf b hb).2.2.2.2.1 x c (cs _ _ e)⟩,I.bs,Nat.le_trans I.ok.bsz I.sz,λ b o e hb=> ?_,λ b hb z=>(List.mem_cons.mp (I.stkSub b z)).elim (hf b hb).2.1 (hf b hb).2.2.1,I.stack,I.stkFree⟩,
    rfl,I.bare,Un.kept k,⟨m,hns,λ i x v e1 e2 e3=> ?_⟩,λ x c e=> ?_,I.hok.fresh (Nat.le_refl _),λ x c e=>I.freeC x c (cs _ _ e),λ p hp=>absurd (show p∈([]:List (Addr × Obj)) from hp) (by simp),I.hok.kept k,?_⟩
  · have hx:(compEnvC scope (Ar X.env.cells scope.names []) s.heap.objs.size X.env).kindOf x=some .cell\/(compEnvC scope (Ar X.env.cells scope.names []) s.heap.objs.size X.env).kindOf x=some .free:=hx;rw [rel x] at hx;have q:scope.names.lookup x=some .free:=by
      cases e:scope.names.lookup x with
      | none=>rw [e] at hx;simp at hx
      | some kk=>
        rw [e] at hx;simp only [Option.map_some,Option.some.injEq] at hx;by_cases hk:kk= .free
        · rw [hk]
        · have hb:(kk == NameKind.free)=false:=by simpa using hk
          simp only [hb,Bool.false_and,Bool.false_eq_true,if_false] at hx;rcases hx with hx | hx
          · rw [hx] at e;exact absurd e (nc x)
          · exact absurd hx hk
    obtain ⟨c,_,e⟩:=kf x (PySem.mem_of_lookup q);exact ⟨c,e⟩
  · rcases (hf b hb).2.2.2.1 with z | z
    · exact I.ok.noex b o e z
    · exact absurd (Nat.lt_of_lt_of_le (Heap.lt_size (I.ok.bs b o e).1) z) (Nat.lt_irrefl _)
  · have e1:(own++fr.map (·.1))[i]?=some x:=e1;have e2:(Bu own fr σ)[i]?=some (some v):=e2;unfold Bu at e2;by_cases hi:i<own.length
    · rw [List.getElem?_append_left (by simpa using hi),List.getElem?_map] at e2;rw [List.getElem?_eq_getElem hi] at e2;simp at e2
    · rw [List.getElem?_append_right (by simpa using hi),List.getElem?_map,List.length_map] at e2;rw [List.getElem?_append_right (by omega),List.getElem?_map] at e1;cases ep:fr[i - own.length]? with
      | none=>rw [ep] at e1;simp at e1
      | some p=>
        rw [ep] at e1 e2;simp only [Option.map_some,Option.some.injEq] at e1 e2;subst e1;obtain ⟨h1,h2⟩:=S.fr p (List.mem_of_getElem? ep);have e4:σ[p.2]?=some (some v):=by
          cases q:σ[p.2]? with
          | none=>rw [q] at e2;simp at e2
          | some z=>rw [q] at e2;simp at e2;rw [e2]
        have kx:=S.free _ h2 rfl;obtain ⟨m0,hn0,hl0⟩:=I.loc;obtain ⟨u,r,l⟩:=hl0 p.2 p.1 v h1 e4 (kx.elim (λ z=> .inr (.inl z)) λ z=> .inr (.inr z));refine ⟨u,r,?_⟩;rcases l with ⟨z,_⟩ | ⟨_,c,hc,hcell⟩
        · have z:X.env.scope.names.lookup p.1=some .local:=z;rcases kx with y | y <;> (rw [y] at z;cases z)
        · obtain ⟨c',q1,q2⟩:=kf p.1 h2;rw [hc] at q1;cases q1;refine .inr ⟨?_,c,q2,ck _ _ hcell⟩;show (compEnvC scope (Ar X.env.cells scope.names []) s.heap.objs.size X.env).kindOf p.1=some .cell\/(compEnvC scope (Ar X.env.cells scope.names []) s.heap.objs.size X.env).kindOf p.1=some .free;have e3:(compEnvC scope (Ar X.env.cells scope.names []) s.heap.objs.size X.env).kindOf p.1=some .local\/(compEnvC scope (Ar X.env.cells scope.names []) s.heap.objs.size X.env).kindOf p.1=some .cell\/(compEnvC scope (Ar X.env.cells scope.names []) s.heap.objs.size X.env).kindOf p.1=some .free:=e3;rcases e3 with e3 | e3
          · exfalso;rw [rel] at e3;cases e:scope.names.lookup p.1 with
            | none=>rw [e] at e3;cases e3
            | some kk=>
              rw [e] at e3;simp only [Option.map_some,Option.some.injEq] at e3;by_cases hk:kk= .free
              · subst hk;split at e3 <;> cases e3
              · have hb:(kk == NameKind.free)=false:=by simpa using hk
                simp only [hb,Bool.false_and,Bool.false_eq_true,if_false] at e3;subst e3;have:=S.only p.1 h2;rw [this] at e;cases e
          · exact e3
  · obtain ⟨v,z⟩:=I.cell x c (cs _ _ e);exact ⟨v,ck _ _ z⟩
  · unfold Bu;show _=(own++fr.map (·.1)).length;simp
end
theorem Ez {prog:Program} {w:World} {A:Around} {R:Result->Shared->Prop} {s:Shared} {elt target iter:Expr} {ifs:List Expr} {scope:Scope} {pos:Pos} {it acc:Value} {env:Env} (I:Nat->Shared->Prop)
    (turn:∀ n s,I n s->wpAny (model prog w) A (pyNext it) (λ r s₁=>match r with
      | none=>R (.ok .next) s₁
      | some v=>wpAny (model prog w) A (letOwnedTupleGo target it v) (λ _ s₁'=>wpAny (model prog w) A (assign target env v) (λ _ s₂=>
          wpAny (model prog w) A (forIn ifs true λ c r=>if r=true then do let ok <-isTrue c env (eval c env);pure (ForInStep.yield ok) else pure (ForInStep.yield r)) (λ ok s₃=>
            if ok=true then wpAny (model prog w) A (eval elt env) (λ x s₄=>
              wpAny (model prog w) A (call (.builtin "list.append") [acc,x]) (λ _ s₅=>∃ m,m<n/\I m s₅) (λ _ _=>False) s₄) (λ _ _=>False) s₃
            else ∃ m,m<n/\I m s₃) (λ _ _=>False) s₂) (λ _ _=>False) s₁') (λ _ _=>False) s₁) (λ _ _=>False) s)
    (n:Nat) (h:I n s):codeAny (model prog w) A (.compLoop (.ListComp elt [⟨target,iter,ifs,0⟩] scope pos) 0 it acc env) R s:=by
  refine codeAny_loop rfl I (λ n s hI=> ?_) n h;show wpAny _ A ((compTurn (.ListComp elt [⟨target,iter,ifs,0⟩] scope pos) 0 it acc env).onRaise (λ x=>do noteFrame x env;theTreesLotGoes x)) _ _ s;refine wpAny_noted ?_;rw [compTurn_list];refine wpAny_bind (wpAny_standAt (wpAny_bind (wpAny_mono (turn n s hI) (λ r s₁ h₁=> ?_) λ _ _ f=>f.elim)));cases r with
  | none=>exact wpAny_pure h₁
  | some v=>
    refine wpAny_bind (wpAny_mono h₁ (λ _ s₁' h₁'=>wpAny_bind (wpAny_mono h₁' (λ _ s₂ h₂=>wpAny_bind (wpAny_mono h₂ (λ ok s₃ h₃=> ?_) λ _ _ f=>f.elim)) λ _ _ f=>f.elim)) λ _ _ f=>f.elim);cases ok with
    | false=>exact wpAny_pure ⟨rfl,h₃⟩
    | true=>
      exact wpAny_bind (wpAny_bind (wpAny_mono h₃ (λ x s₄ h₄=>wpAny_bind (wpAny_mono h₄ (λ _ s₅ h₅=>wpAny_pure (wpAny_pure ⟨rfl,h₅⟩)) λ _ _ f=>f.elim)) λ _ _ f=>f.elim))
section
variable {X:Cx}
def PTs (X:Cx) (ifs:List Expr) (tc:TT):Prop:=
  ∀ (pins:List (Addr × Obj)) (s:Shared) (σ:St) (H:Hp) (Q:Bool->Hp->Prop),Inv X pins σ H s->tc σ H Q->
    wpAny (model X.prog X.w) X.A (forIn ifs true λ c r=>if r=true then do let ok <-isTrue c X.env (eval c X.env);pure (ForInStep.yield ok) else pure (ForInStep.yield r)) (TP X pins σ Q) X.xe s
def JC:TT:=λ _ H Q=>Q true H
theorem Ay:PTs X [] JC:=λ _ _ _ H _ I h=>wpAny_tests_nil ⟨H,I,h⟩
theorem IJ {c:Expr} {tc:TT} (h:PT X c tc):PTs X [c] tc:=λ pins s σ H Q I q=>wpAny_tests_one (h pins s σ H Q I q)
def Kp (σ0 σ:St):Prop:=σ.length=σ0.length/\∀ (i:Nat) (v:V),σ0[i]?=some (some v)->σ[i]?=some (some v)
theorem Kp.refl (σ:St):Kp σ σ:=⟨rfl,λ _ _ h=>h⟩
theorem Kp.set {σ0 σ:St} {i:Nat} {v:V} (k:Kp σ0 σ) (h:σ0[i]?=some none):Kp σ0 (σ.set i (some v)):=by
  refine ⟨by rw [List.length_set];exact k.1,λ j u e=> ?_⟩;by_cases hj:i=j
  · subst hj;rw [h] at e;cases e
  · rw [List.getElem?_set_ne hj];exact k.2 j u e
def CM (J:It) (σ0:St) (g:TG) (tc:TT) (te:TE) (Q:VK) (H1:Hp) (D:Addr):Prop:=
  ∃ W:Nat->Nat->List V->Hp->Prop,(∃ m,W 0 m [] (upd H1 D (.lst [])))/\∀ i m ys H,W i m ys H->
    (J.stop i H/\Q (.ref D) H)\/(J.go i H/\∃ N:List V->Hp->Prop,(∀ ys' H',N ys' H'->∃ m',m'<m/\W (i+1) m' ys' H')/\∀ x H',J.yld i H x H'->g x σ0 H' λ σ2 H2=>Kp σ0 σ2/\tc σ2 H2 λ b H3=>
      if b=true then te σ2 H3 λ y H4=>H4 D=some (.lst ys)/\ys.length<sizeLine/\N (ys++[y]) (upd H4 D (.lst (ys++[y]))) else N ys H3)
def Dj (wi:TI) (own:List Str) (fr:List (Str × Nat)) (g:TG) (tc:TT) (te:TE):TE:=λ σ H Q=>wi σ H λ J H1=>∀ D,H1 D=none->CM J (Bu own fr σ) g tc te Q H1 D
theorem Hg {elt tg iter:Expr} {ifs:List Expr} {scope:Scope} {pos:Pos} {own:List Str} {fr:List (Str × Nat)} {g:TG} {tc:TT} {te:TE} (hc:X.calm=true) (S:BlkScope X scope own fr)
    (hg:∀ C ex s H,PG (AI X scope own fr C ex s H) tg g) (ht:∀ C ex s H,PTs (AI X scope own fr C ex s H) ifs tc) (he:∀ C ex s H,PE (AI X scope own fr C ex s H) elt te)
    {pins:List (Addr × Obj)} {σ:St} {H:Hp} {s:Shared} {it:Addr} {fp:List Addr} {tn:Nat->Heap->Prop} {J:It} {E:Value->Shared->Prop}
    (I:Inv X pins σ H s) (T:Turn X.prog X.w X.K tg J fp it tn) (st:tn 0 s.heap) (hf:∀ b∈fp,BP X pins H b) {Q:VK}
    (h:∀ D,H D=none->CM J (Bu own fr σ) g tc te Q H D)
    {RR:Value->Addr->Result->Shared->Prop}
    (hR:∀ D C H' s',Inv X pins σ H' s'->(∃ m,s'.heap.Ns C m)->BP X pins H' C->Q (.ref D) H'->RR (.ref D) C (.ok .next) s'):
    wpAny (model X.prog X.w) X.A (newList []) (λ acc s₃=>wpAny (model X.prog X.w) X.A (newFunctionEnv scope X.env.globals (Ar X.env.cells scope.names []) [] X.env.qual none .none (some X.env)) (λ cenv s₄=>
      codeAny (model X.prog X.w) X.A (.compStart (.ListComp elt [⟨tg,iter,ifs,0⟩] scope pos) 0 (.ref it) acc { cenv with scope:=relabel scope X.env }) (RR acc cenv.locals) s₄) E s₃) E s:=by
  have hDn:H s.heap.objs.size=none:=I.fresh;obtain ⟨W,⟨m0,w0⟩,turn⟩:=h s.heap.objs.size hDn;have I3:Inv X pins σ (upd H s.heap.objs.size (.lst [])) { s with heap:=s.heap.push { cls:= .type "list",data:= .seq ([]:List Value).toArray },toks:=s.toks }:=I.lnew .nil (Nat.zero_le _);refine wpAny_newObj_type ?_;generalize hs3:({ s with heap:=s.heap.push { cls:= .type "list",data:= .seq ([]:List Value).toArray } }:Shared)=s3 at I3 ⊢;have I3:Inv X pins σ (upd H s.heap.objs.size (.lst [])) s3:=I3;have old3:∀ b o,s.heap.get? b=some o->s3.heap.get? b=some o:=λ b o e=>by rw [<-hs3];exact Heap.get?_push_of_some _ e
  have hobj:∀ b∈fp,∃ o,s.heap.get? b=some o/\∀ v,o.data≠ .cell v:=T.obj 0 _ st;have hne:∀ b∈fp,b≠s.heap.objs.size:=λ b hb=>by obtain ⟨o,e,_⟩:=hobj b hb;exact Nat.ne_of_lt (Heap.lt_size e)
  have hf3:∀ b∈fp,BP X pins (upd H s.heap.objs.size (.lst [])) b:=λ b hb=>⟨by rw [Av (hne b hb)];exact (hf b hb).1,(hf b hb).2⟩;have hlt3:∀ b∈fp,b<s3.heap.objs.size:=λ b hb=>by obtain ⟨o,e,_⟩:=hobj b hb;exact Heap.lt_size (old3 b o e)
  refine wpAny_newFunctionEnv S.nocell (by intro y hy;simp at hy) (λ h₁ hns hsb=> ?_) S.kind;have keep:∀ b o,s3.heap.get? b=some o->h₁.get? b=some o:=λ b o e=>hsb.extBut b o (Nat.ne_of_lt (Heap.lt_size e)) (Heap.get?_push_of_some _ e);have J0:=I3.block (t':=s3.toks+([]:List (Str × Value)).length) S hf3 hlt3 hns keep;have st3:tn 0 h₁:=T.keep 0 _ _ st λ b hb o e=>keep b o (old3 b o e);have loop:codeAny (model X.prog X.w) X.A (.compLoop (.ListComp elt [⟨tg,iter,ifs,0⟩] scope pos) 0 (.ref it) (.ref s.heap.objs.size) (compEnvC scope (Ar X.env.cells scope.names []) s3.heap.objs.size X.env))
      (RR (.ref s.heap.objs.size) s3.heap.objs.size) { s3 with heap:=h₁,toks:=s3.toks+([]:List (Str × Value)).length }:=by
    have stat:∀ {H':Hp},(∀ b∈fp,H' b=none)->∀ b∈fp,BP (AI X scope own fr s3.heap.objs.size fp s3 (upd H s.heap.objs.size (.lst []))) [] H' b:=λ {H'} hn b hb=>
      ⟨hn b hb,Nat.ne_of_lt (hlt3 b hb),J0.ok.exfs b hb, .inl hb,(J0.ok.exf b hb).2,λ p hp=>absurd (show p∈([]:List (Addr × Obj)) from hp) (by simp)⟩
    refine Ez (λ n s'=>∃ i ys H',Inv (AI X scope own fr s3.heap.objs.size fp s3 (upd H s.heap.objs.size (.lst []))) [] (Bu own fr σ) H' s'/\tn i s'.heap/\(∀ b∈fp,H' b=none)/\W i n ys H') ?_ m0
      ⟨0,[],_,J0,st3,λ b hb=>(hf3 b hb).1,w0⟩
    rintro n s4 ⟨i,ys,H4,I4,st4,fr4,w4⟩;rcases turn i n ys H4 w4 with ⟨stop,q⟩ | ⟨go,N,hN,step⟩
    · refine thn (T.done (AI X scope own fr s3.heap.objs.size fp s3 (upd H s.heap.objs.size (.lst []))) rfl rfl rfl hc i [] s4 _ H4 (λ _ _=>False) I4 (stat fr4) st4 stop) λ r s5 ⟨hr,I5⟩=> ?_;subst hr;obtain ⟨m,hn,_⟩:=id I5.loc;exact hR _ _ H4 s5 (I3.call' I5.os I5.base I5.hok I5.bare λ b hb=>⟨(hf3 b hb).2.2.2.1,(hf3 b hb).2.1,(hf3 b hb).2.2.2.2.1,(hf3 b hb).2.2.2.2.2⟩) ⟨m,hn⟩ (I3.fpOk (Nat.le_refl _) I5.free) q
    · refine thn (T.item (AI X scope own fr s3.heap.objs.size fp s3 (upd H s.heap.objs.size (.lst []))) rfl rfl rfl hc i [] s4 _ H4 (λ _ _=>False) I4 (stat fr4) st4 go) λ r s5 ⟨u,hr,h5⟩=> ?_;subst hr;refine thn h5 λ _ s6 ⟨x,H6,I6,r6,y6,st6,fr6⟩=> ?_;have I6':=I6.pinned (stat fr6) (T.obj _ _ st6);refine thn (hg _ _ _ _ _ s6 _ H6 x u _ I6' r6 (step x H6 y6)) λ _ s7 ⟨σ7,H7,I7,kp,q7⟩=> ?_;refine thn (ht _ _ _ _ _ s7 σ7 H7 _ I7 q7) λ b s8 ⟨H8,I8,q8⟩=> ?_;have again:∀ {s9:Shared} {H9:Hp} {ys':List V},Inv (AI X scope own fr s3.heap.objs.size fp s3 (upd H s.heap.objs.size (.lst []))) ([]++Ec fp s6.heap) σ7 H9 s9->N ys' H9->
          ∃ m,m<n/\∃ i ys H',Inv (AI X scope own fr s3.heap.objs.size fp s3 (upd H s.heap.objs.size (.lst []))) [] (Bu own fr σ) H' s9/\tn i s9.heap/\(∀ b∈fp,H' b=none)/\W i m ys H':=λ {s9 H9 ys'} I9 n9=>by
        obtain ⟨m',hm,w9⟩:=hN ys' H9 n9;refine ⟨m',hm,i+1,ys',H9,I9.unpinned.weak kp.1.symm kp.2,T.keep _ _ _ st6 λ b hb o e=>(I9.pin (b,o) (List.mem_append_right _ (List.mem_append_right _ (Bj hb e)))).1,λ b hb=> ?_,w9⟩;obtain ⟨o,e,d⟩:=T.obj _ _ st6 b hb;exact (I9.pin (b,o) (List.mem_append_right _ (List.mem_append_right _ (Bj hb e)))).2.1
      cases b with
      | false=>
        rw [if_neg Bool.false_ne_true] at q8 ⊢;exact again I8 q8
      | true=>
        rw [if_pos rfl] at q8 ⊢;refine thn (he _ _ _ _ _ s8 σ7 H8 _ I8 q8) λ xv s9 ⟨y,H9,I9,r9,hD,hl,n9⟩=> ?_;refine thn (Dc _ s9 σ7 H9 (.ref s.heap.objs.size) [y] (.ref s.heap.objs.size) [xv] (λ _ H'=>H'=upd H9 s.heap.objs.size (.lst (ys++[y]))) I9 rfl (.cons r9 .nil) ⟨_,ys,y,rfl,rfl,hD,hl,rfl⟩) λ _ s10 ⟨_,H10,I10,_,q10⟩=> ?_;subst q10;exact again I10 n9
  exact codeAny_compStart_list loop (T.self _ 0 _ _ _ st3 loop)
theorem GW {elt tg iter:Expr} {ifs:List Expr} {scope:Scope} {pos:Pos} {own:List Str} {fr:List (Str × Nat)} {wi:TI} {g:TG} {tc:TT} {te:TE} (hc:X.calm=true) (S:BlkScope X scope own fr) (hi:PI X tg iter wi)
    (hg:∀ C ex s H,PG (AI X scope own fr C ex s H) tg g) (ht:∀ C ex s H,PTs (AI X scope own fr C ex s H) ifs tc) (he:∀ C ex s H,PE (AI X scope own fr C ex s H) elt te)
    (hs:∀ x,foldedSetIterable iter X.env x=pure x:=by intro _;rfl):PE X (.ListComp elt [⟨tg,iter,ifs,0⟩] scope pos) (Dj wi own fr g tc te):=by
  intro pins s σ H Q I h;rw [eval_ListComp];refine wpAny_comprehension_free (use:=none) rfl hs (BU (S.cells I.ok)) S.kind S.loc (thn (hi pins s σ H _ I h) λ xv s₁ h₁=>thn h₁ λ itv s₂ h₂=> ?_);obtain ⟨it,fp,tn,J,H2,rfl,I2,T,st2,f2,h2⟩:=h₂;refine Hg (RR:=λ acc C=>compPost (model X.prog X.w) X.A X.xe none (EP X pins σ Q) acc C) hc S hg ht he I2 T st2 f2 h2 ?_;rintro D C H' s' I' ⟨m,hn⟩ f q;exact ⟨m,hn,λ h' sb=>⟨.ref D,H',I'.turned (t':=s'.toks) (it:=C) (λ b o hb e=>(sb.2 b hb).trans e) f.1 f.2.1 f.2.2.2.1 f.2.2.2.2.1 f.2.2.2.2.2,rfl,q⟩⟩
theorem Ja {i:Nat} {x:Str} {px spos:Pos} {elt tg iter:Expr} {ifs:List Expr} {scope:Scope} {pos:Pos} {own:List Str} {fr:List (Str × Nat)} {wi:TI} {g:TG} {tc:TT} {te:TE} (hN:X.N.Nodup) (hix:X.N[i]?=some x) (hx:Loc X.env.scope x)
    (hc:X.calm=true) (S:BlkScope X scope own fr) (hi:PI X tg iter wi)
    (hg:∀ C ex s H,PG (AI X scope own fr C ex s H) tg g) (ht:∀ C ex s H,PTs (AI X scope own fr C ex s H) ifs tc) (he:∀ C ex s H,PE (AI X scope own fr C ex s H) elt te)
    (hsw:swapsWith (.ListComp elt [⟨tg,iter,ifs,0⟩] scope pos) (some (.Name x px)) spos.line X.env=pure true:=by rfl)
    (hf:X.fn x=true\/X.env.scope.names.lookup x=some .local:=by first | exact .inl rfl | exact .inr rfl | assumption)
    (hs:∀ x,foldedSetIterable iter X.env x=pure x:=by intro _;rfl):PS X (.Assign [.Name x px] (.ListComp elt [⟨tg,iter,ifs,0⟩] scope pos) spos) (Jn (Dj wi own fr g tc te) (AA i)):=by
  intro pins s σ H D I h;rw [exec_Assign_Name_used _ _ _ _ hsw];refine wpAny_bind (wpAny_standAt (wpAny_bind ?_));show wpAny _ X.A (do let _ <-comprehension (.ListComp elt [⟨tg,iter,ifs,0⟩] scope pos) scope X.env _ (newList []) false (eval iter X.env) (some (assign (.Name x px) X.env))) _ _ s;refine wpAny_bind (wpAny_mono (wpAny_comprehension_free (use:=some (assign (.Name x px) X.env)) (Q:=λ _ s'=>SP X pins D .next s') rfl hs (BU (S.cells I.ok)) S.kind S.loc
    (thn (hi pins s σ H _ I h) λ xv s₁ h₁=>thn h₁ λ itv s₂ h₂=> ?_)) (λ _ s' hq=>wpAny_pure (wpAny_pure hq)) λ _ _ e=>e)
  obtain ⟨it,fp,tn,J,H2,rfl,I2,T,st2,f2,h2⟩:=h₂;refine Hg (Q:=λ x H1=>AA i x σ H1 D.nx) (RR:=λ acc C=>compPost (model X.prog X.w) X.A X.xe (some (assign (.Name x px) X.env)) (λ _ s'=>SP X pins D .next s') acc C) hc S hg ht he I2 T st2 f2 h2 ?_;rintro Dl C H' s' I' ⟨m,hn⟩ f q;obtain ⟨o,es,ep,ho,hd,r⟩:=hn;have pinC:∀ v,o.data≠ .cell v:=λ v z=>by rw [hd] at z;cases z
  have I'':Inv X (pins++[(C,o)]) σ H' s':=I'.pins_of λ p hp=>(List.mem_append.mp hp).elim (λ z=>I'.pin p (List.mem_append_right _ z)) λ z=>by
    have e:p=(C,o):=by simpa using z
    subst e;exact ⟨ho,f.1,f.2.1,f.2.2.1,pinC⟩
  show wpAny _ X.A (assign (.Name x px) X.env (.ref Dl)) _ _ s';refine wpAny_assign_Name (B6 I'' hN hix hx (v:= .ref Dl) rfl (λ s2 I2=> ?_) hf);have pc:=(I2.pin (C,o) (List.mem_append_right _ (List.mem_append_right _ (by simp)))).1;refine ⟨m,⟨o,es,ep,pc,hd,r⟩,λ h' sb=>⟨_,H',?_,q⟩⟩;exact (I2.unpinned (pl:=[(C,o)])).turned (t':=s2.toks) (it:=C) (λ b o hb e=>(sb.2 b hb).trans e) f.1 f.2.1 f.2.2.2.1 f.2.2.2.2.1 f.2.2.2.2.2
end
section
variable {X:Cx} {tg:Expr}
end
end L2
namespace MS
open PySem PySem.StrLaws Builtin Builtin.Str
def Cr (L:List Nat) (c a:Nat) (k:Nat):List Nat:=(List.range' a k).filter λ i=>decide (L[i]?=some c)
theorem FX (x:Str) (c i:Nat):subAt x ⟨#[c]⟩ i=decide (x.cps.toList[i]?=some c):=by
  rw [subAt_eq];show ((x.cps.toList.drop i).take 1 == [c])=_;rw [Bool.eq_iff_iff,beq_iff_eq,decide_eq_true_iff];cases h:x.cps.toList[i]? with
  | none=>
    rw [List.drop_of_length_le (List.getElem?_eq_none_iff.mp h)];simp
  | some d=>
    obtain ⟨hi,e⟩:=List.getElem?_eq_some_iff.mp h;rw [List.drop_eq_getElem_cons hi];simp [e]
theorem GZ (x:Str) (c limit:Nat):∀ (k a:Nat) (st:Array Nat × Nat),st.snd<=a->st.fst.size+k<=limit->a+k=x.length+1->
    (forIn (List.range' a k) st (occBody x ⟨#[c]⟩ x.length limit)).run.fst.toList=st.fst.toList++Cr x.cps.toList c a k
  | 0,a,st,_,_,_=>by simp [Cr]
  | k+1,a,st,h1,h2,h3=>by
    have hl:x.cps.toList.length=x.length:=by simp [Str.length]
    rw [List.range'_succ,List.forIn_cons];unfold Cr;rw [List.range'_succ,List.filter_cons];by_cases hc:x.cps.toList[a]?=some c
    · have ha:a<x.length:=by
        have:=(List.getElem?_eq_some_iff.mp hc).1;omega
      have cond:((st.fst.size<limit/\st.snd<=a)/\a+(⟨#[c]⟩:Str).length<=x.length)/\subAt x ⟨#[c]⟩ a=true:=by
        refine ⟨⟨⟨by omega,h1⟩,?_⟩,by rw [FX];exact decide_eq_true hc⟩;show a+1<=x.length;omega
      have e:occBody x ⟨#[c]⟩ x.length limit a st=pure (ForInStep.yield (st.fst.push a,a+1)):=by unfold occBody;rw [if_pos cond];rfl
      rw [e];simp only [pure_bind];have ih:=GZ x c limit k (a+1) (st.fst.push a,a+1) (Nat.le_refl _) (by simp;omega) (by omega);rw [if_pos (by simpa using hc)];refine ih.trans ?_;simp [Cr]
    · have cond:¬ (((st.fst.size<limit/\st.snd<=a)/\a+(⟨#[c]⟩:Str).length<=x.length)/\subAt x ⟨#[c]⟩ a=true):=by
        intro h;rw [FX] at h;exact hc (of_decide_eq_true h.2)
      have e:occBody x ⟨#[c]⟩ x.length limit a st=pure (ForInStep.yield (st.fst,st.snd)):=by unfold occBody;rw [if_neg cond]
      rw [e];simp only [pure_bind];have ih:=GZ x c limit k (a+1) (st.fst,st.snd) (by show st.snd<=a+1;omega) (by show st.fst.size+k<=limit;omega) (by omega);rw [if_neg (by simpa using hc)];exact ih.trans (by simp [Cr])
theorem LL (x:Str) (c:Nat):occurrences x ⟨#[c]⟩ 0 x.length (x.length+1)=Cr x.cps.toList c 0 (x.length+1):=by
  rw [occ_eq];have:=GZ x c (x.length+1) (x.length+1) 0 (#[],0) (Nat.le_refl _) (by simp) (by omega);simpa using this
end MS
namespace L2
open PySem PySem.Spec PyProof.Rows
section
variable {X:Cx}
def Oq:V->Option Int->Option Int->Hp->VK->Prop:=λ x lo hi H Q=>∃ z,x= .str z/\z.length<=sizeLine/\Q (.str (Txt.slice z lo hi)) H
theorem KI:SlR X Oq:=by
  intro pins s σ H x v vl vu lo hi sl Q I rx hs pl pu h;obtain ⟨z,rfl,hz,q⟩:=h;obtain ⟨t,rfl⟩:=rx;refine ⟨"str",_,F.slot_str_getitem.lookup,typeIs_str _ _ _,?_⟩;have fin:∀ t' k,EP X pins σ Q (.str (Txt.slice z lo hi) t') { s with toks:=k }:=λ t' k=>⟨.str _,H,I.tok k,⟨t',rfl⟩,q⟩;obtain ⟨o,ho,hc,hd⟩:=hs;cases pl with
  | none=>
    cases pu with
    | none=>exact wpAny_getItem_str_slice (l:=none) (u:=none) (st:=none) ⟨o,ho,hc,hd⟩ rfl (post_val_or_str ⟨Nat.le_trans (Txt.slice_le z _ _) hz,fin⟩)
    | int j uj=>exact wpAny_getItem_str_slice (l:=none) (u:=some (j,uj)) (st:=none) ⟨o,ho,hc,hd⟩ rfl (post_val_or_str ⟨Nat.le_trans (Txt.slice_le z _ _) hz,fin⟩)
  | int i ui=>
    cases pu with
    | none=>exact wpAny_getItem_str_slice (l:=some (i,ui)) (u:=none) (st:=none) ⟨o,ho,hc,hd⟩ rfl (post_val_or_str ⟨Nat.le_trans (Txt.slice_le z _ _) hz,fin⟩)
    | int j uj=>exact wpAny_getItem_str_slice (l:=some (i,ui)) (u:=some (j,uj)) (st:=none) ⟨o,ho,hc,hd⟩ rfl (post_val_or_str ⟨Nat.le_trans (Txt.slice_le z _ _) hz,fin⟩)
theorem Fc:∀ {ys:List Str} {us:List Value},Vals (ys.map V.str) us->StrsAre us ys
  | [],us,r=>by rw [List.map_nil] at r;cases r;exact .nil
  | y::ys,us,r=>by
    rw [List.map_cons] at r;cases r with
    | cons r1 r2=>
      obtain ⟨t,e⟩:=r1;subst e;exact .cons y t (Fc r2)
theorem Ls:MtM X "str.join" (λ x vs H Q=>∃ (z:Str) (p:Addr) (ys:List Str),x= .str z/\vs=[.ref p]/\SqL X.K H p (ys.map V.str)/\(ys.map (·.length)).sum+ys.length*z.length<=16777216/\Q (.str (Txt.join z ys)) H):=by
  intro pins s σ H x vs v us Q I rx rv h;obtain ⟨z,p,ys,rfl,rfl,hq,hz,q⟩:=h;obtain ⟨t,rfl⟩:=rx;obtain ⟨u,rfl,ru⟩:=rv.one;cases ru;obtain ⟨its,r,pl,_⟩:=I.list hq;exact join_list pl.isList (by simpa using Fc r) hz λ t' k=>⟨.str _,H,I.tok k,⟨t',rfl⟩,q⟩
theorem Eu:∀ {ns:List Int} {l:List (Int × Tok)},Vals (ns.map V.int) (l.map λ p=>Value.int p.1 p.2)->l.map (·.1)=ns
  | [],[],_=>rfl
  | n::ns,p::l,r=>by
    cases r with
    | cons r1 r2=>
      obtain ⟨t,e⟩:=r1;injection e with e1 e2;rw [List.map_cons,Eu r2,e1]
  | [],_::_,r=>by cases r
  | _::_,[],r=>by cases r
theorem Ky (hc:X.calm=true):AS X (.builtin "sum") (λ xs H Q=>∃ (p:Addr) (ns:List Int),xs=[.ref p]/\SqL X.K H p (ns.map V.int)/\Q (.int ns.sum) H):=by
  intro pins s σ H xs us Q I r h;obtain ⟨p,ns,rfl,hq,q⟩:=h;obtain ⟨u,rfl,rx⟩:=DO r;cases rx;obtain ⟨its,rv,pl,_⟩:=I.list hq;obtain ⟨ps,e⟩:=(IntsAre.allInts (EX rv)).items;have e':its=ps.toList.map λ p=>Value.int p.1 p.2:=by
    have:=congrArg Array.toList e;simpa [intItems] using this
  have hl:=pl.isList;rw [e] at hl;refine sum_intListG (I.ok.hd hc) hl λ h' tk t' hk=> ?_;have es:preSum (numAt ps) ps.size=ns.sum:=by
    rw [preSum_eq,List.take_of_length_le (by simp),Eu (ns:=ns) (l:=ps.toList) (by rw [<-e'];exact rv)]
  rw [es];exact ⟨.int ns.sum,H,I.kept hk,⟨t',rfl⟩,q⟩
theorem JH (bs:List Bool):(List.range bs.length).all (λ i=>bs.getD i true)=bs.all id:=by
  rw [Bool.eq_iff_iff,List.all_eq_true,List.all_eq_true];constructor
  · intro h b hb;obtain ⟨i,hi,rfl⟩:=List.getElem_of_mem hb;have:=h i (by simpa using hi);rw [List.getD_eq_getElem?_getD,List.getElem?_eq_getElem hi] at this;exact this
  · intro h i hi;have hi:i<bs.length:=by simpa using hi
    rw [List.getD_eq_getElem?_getD,List.getElem?_eq_getElem hi];exact h _ (List.getElem_mem hi)
theorem Kd (hc:X.calm=true):AS X (.builtin "all") (λ xs H Q=>∃ (p:Addr) (bs:List Bool),xs=[.ref p]/\SqL X.K H p (bs.map V.bl)/\Q (.bl (bs.all id)) H):=by
  intro pins s σ H xs us Q I r h;obtain ⟨p,bs,rfl,hq,q⟩:=h;obtain ⟨u,rfl,rx⟩:=DO r;cases rx;obtain ⟨its,rv,pl,_⟩:=I.list hq;have hl:=rv.length;rw [List.length_map] at hl;obtain ⟨o,ho,_⟩:=id pl.isList;have hne:p≠s.heap.objs.size:=Nat.ne_of_lt (Heap.lt_size ho);refine call_all_walk (wpAny_pyIter_list pl.isList ?_);refine ⟨s.heap.objs.size,_,_,_,_,_,λ i=>bs.getD i true,rfl,Walks.list (A:=X.A.in1) (I.ok.hd hc) _ p hne its.toArray,⟨⟨_,Heap.get?_push_size _ rfl,rfl,rfl⟩,pl.isList.at λ o e=>Heap.get?_push_of_some _ e⟩,?_,λ h' tk hk=> ?_⟩
  · intro i v s' Q' E' hv hQ';have hv:its[i]?=some v:=by simpa using hv
    have hi:i<bs.length:=by rw [hl];exact (List.getElem?_eq_some_iff.mp hv).1
    obtain ⟨u,hu,ru⟩:=rv.get (i:=i) (x:= .bl (bs.getD i true)) (by rw [List.getElem?_map,List.getD_eq_getElem?_getD,List.getElem?_eq_getElem hi];rfl);rw [hu] at hv;cases hv;cases ru;exact wpAny_truthy_bool hQ'
  · have e:its.toArray.size=bs.length:=by rw [List.size_toArray];exact hl.symm
    rw [e,JH];exact ⟨.bl _,H,I.kept λ b o e=>hk b o (λ z=>by simp at z;exact absurd (Heap.lt_size e) (by rw [z];exact Nat.lt_irrefl _)) (Heap.get?_push_of_some _ e),rfl,q⟩
theorem G5:AS X (.builtin "isinstance") (λ xs H Q=>∃ x n t b,xs=[x, .ty n]/\TyOf X.K H x t/\PySem.W.kitOne X.K t (.type n)=some b/\Q (.bl b) H):=by
  intro pins s σ H xs us Q I r h;obtain ⟨x,n,t,b,rfl,ty,e,q⟩:=h;obtain ⟨u,c,rfl,rx,rc⟩:=IS r;cases rc;exact Jt I rx ty e λ tk=>⟨.bl b,H,I.tok tk,rfl,q⟩
def Kf (K:PySem.W.Frag):R2:=λ x y H Q=>∃ l b xs zs,x= .ref l/\y= .ref b/\SqL K H l xs/\SqL K H b zs/\xs.length+zs.length<=sizeLine/\∀ p,H p=none->Q (.ref p) (upd H p (.lst (xs++zs)))
theorem Lz:OpR X (binaryOp .Add) (Kf X.K):=by
  intro pins s σ H x y v u Q I rx ry h;obtain ⟨l,b,xs,zs,rfl,rfl,hH,hB,hz,q⟩:=h;cases rx;cases ry;obtain ⟨its,r,pl,_⟩:=I.list hH;obtain ⟨its2,r2,pl2,_⟩:=I.list hB;have h1:=r.length;have h2:=r2.length;obtain ⟨⟨cls,dd,data,sl⟩,n,ho,hc,hdd,hd⟩:=pl;obtain ⟨⟨cls2,dd2,data2,sl2⟩,n2,ho2,hc2,hdd2,hd2⟩:=pl2;simp only at hc hdd hd hc2 hdd2 hd2;subst hc hdd hd hc2 hdd2 hd2;refine concat_meets ⟨_,ho,rfl⟩ ⟨_,ho2,rfl⟩ noFill_list_add seq_list_add PySem.F.slot_list_add PySem.F.entry_list_add (PySem.F.args_list_add_2 _ _) (list_addW l b its.toArray its2.toArray n n2 none none sl sl2 (by rw [List.size_toArray,List.size_toArray];omega)) ⟨ho,ho2,?_⟩;have e:its.toArray++its2.toArray=(its++its2).toArray:=by simp
  rw [e];exact ⟨.ref _,_,I.lnew (t':=s.toks) (r.append r2) (by rw [List.length_append];omega),rfl,q _ I.fresh⟩
def Dy (xs ys:List V):Bool:=xs.length == ys.length&&(List.range xs.length).all λ i=>eqV (xs.getD i .non) (ys.getD i .non)
theorem Gd {xs:List V} (h:xs.all Bf=true) {i:Nat} (hi:i<xs.length):Bf (xs.getD i .non)=true:=by
  rw [List.getD_eq_getElem?_getD,List.getElem?_eq_getElem hi];exact (List.all_eq_true.mp h) _ (List.getElem_mem hi)
def HN (K:PySem.W.Frag) (neg:Bool):R2:=λ x y H Q=>∃ p q xs ys,x= .ref p/\y= .ref q/\SqL K H p xs/\SqL K H q ys/\xs.all Bf=true/\ys.all Bf=true/\Q (.bl (if neg then !Dy xs ys else Dy xs ys)) H
theorem Fl {A:Around} {s:Shared} {xs ys:List V} {its its2:List Value} (r:Vals xs its) (r2:Vals ys its2) (fx:xs.all Bf=true) (fy:ys.all Bf=true):
    ∀ j (h1:j<its.toArray.size) (h2:j<its2.toArray.size),SeqAt.EqAt A s its.toArray[j] its2.toArray[j] (eqV (xs.getD j .non) (ys.getD j .non)):=λ j h1 h2=>by
  have l1:=r.length;have l2:=r2.length;have h1':j<its.length:=by simpa using h1
  have h2':j<its2.length:=by simpa using h2
  have g1:xs[j]?=some (xs.getD j .non):=by rw [List.getD_eq_getElem?_getD,List.getElem?_eq_getElem (by omega)];rfl
  have g2:ys[j]?=some (ys.getD j .non):=by rw [List.getD_eq_getElem?_getD,List.getElem?_eq_getElem (by omega)];rfl
  obtain ⟨u,e1,ru⟩:=r.get g1;obtain ⟨u2,e2,ru2⟩:=r2.get g2;have q1:its.toArray[j]=u:=by rw [List.getElem?_eq_getElem h1'] at e1;simpa using Option.some.inj e1
  have q2:its2.toArray[j]=u2:=by rw [List.getElem?_eq_getElem h2'] at e2;simpa using Option.some.inj e2
  rw [q1,q2];exact KB ru ru2 (Gd fx (by omega)) (Gd fy (by omega))
theorem MW (hu:X.A.units<cLine):OpR X (compareOp .Eq) (HN X.K false):=by
  intro pins s σ H x y v u Q I rx ry h;obtain ⟨p,q,xs,ys,rfl,rfl,h1,h2,fx,fy,hq⟩:=h;cases rx;cases ry;obtain ⟨its,r,pl,_⟩:=I.list h1;obtain ⟨its2,r2,pl2,_⟩:=I.list h2;have l1:=r.length;have l2:=r2.length;by_cases hl:xs.length=ys.length
  · refine SeqAt.eq_listAt pl.isList pl2.isList (by simp;omega) hu (Fl r r2 fx fy) ⟨.bl _,H,I,rfl,?_⟩;have e:Dy xs ys=(List.range its.toArray.size).all λ i=>eqV (xs.getD i .non) (ys.getD i .non):=by
      unfold Dy;rw [hl,beq_self_eq_true,Bool.true_and,List.size_toArray, <-l1,hl]
    rw [<-e];exact hq
  · refine SeqAt.eq_list_lengthsAt pl.isList pl2.isList (by simp;omega) hu ⟨.bl _,H,I,rfl,?_⟩;have e:Dy xs ys=false:=by unfold Dy;rw [beq_eq_false_iff_ne.mpr hl,Bool.false_and]
    rw [<-e];exact hq
theorem N4 (hu:X.A.units<cLine):OpR X (compareOp .NotEq) (HN X.K true):=by
  intro pins s σ H x y v u Q I rx ry h;obtain ⟨p,q,xs,ys,rfl,rfl,h1,h2,fx,fy,hq⟩:=h;cases rx;cases ry;obtain ⟨its,r,pl,_⟩:=I.list h1;obtain ⟨its2,r2,pl2,_⟩:=I.list h2;have l1:=r.length;have l2:=r2.length;by_cases hl:xs.length=ys.length
  · refine SeqAt.RcNeAt.lists pl.isList pl2.isList (by simp;omega) hu (Fl r r2 fx fy) _ _ _ _ ⟨.bl _,H,I,rfl,?_⟩;have e:Dy xs ys=(List.range its.toArray.size).all λ i=>eqV (xs.getD i .non) (ys.getD i .non):=by
      unfold Dy;rw [hl,beq_self_eq_true,Bool.true_and,List.size_toArray, <-l1,hl]
    rw [<-e];exact hq
  · refine SeqAt.RcNeAt.lists_lengths pl.isList pl2.isList (by simp;omega) hu _ _ _ _ ⟨.bl _,H,I,rfl,?_⟩;have e:Dy xs ys=false:=by unfold Dy;rw [beq_eq_false_iff_ne.mpr hl,Bool.false_and]
    rw [e] at hq;exact hq
theorem L6 {α:Type} [DecidableEq α] (f:α->V) (hf:∀ a b,eqV (f a) (f b)=decide (a=b)) (as bs:List α):Dy (as.map f) (bs.map f)=decide (as=bs):=by
  unfold Dy;rw [Bool.eq_iff_iff,Bool.and_eq_true,List.all_eq_true,decide_eq_true_iff,beq_iff_eq,List.length_map,List.length_map];constructor
  · rintro ⟨h1,h2⟩;refine List.ext_getElem h1 λ i g1 g2=> ?_;have:=h2 i (by simpa using g1);rw [List.getD_eq_getElem?_getD,List.getD_eq_getElem?_getD,List.getElem?_map,List.getElem?_map,List.getElem?_eq_getElem g1,List.getElem?_eq_getElem g2] at this;have:=(hf _ _).symm.trans this;exact of_decide_eq_true this
  · rintro rfl;refine ⟨rfl,λ i hi=> ?_⟩;have hi:i<as.length:=by simpa using hi
    rw [List.getD_eq_getElem?_getD,List.getElem?_map,List.getElem?_eq_getElem hi];show eqV (f as[i]) (f as[i])=true;rw [hf];exact decide_eq_true rfl
theorem Hh (as bs:List Int):Dy (as.map V.int) (bs.map V.int)=decide (as=bs):=L6 V.int (λ a b=>by show (a == b)=_;rw [Bool.eq_iff_iff,beq_iff_eq,decide_eq_true_iff]) as bs
theorem DN (as:List Int):(as.map V.int).all Bf=true:=by simp [Bf]
end
def Ao (P:Program) (w:World) (K:PySem.W.Frag) (mg:Str->Option Value) (base:Heap) (x:Str) (k:Nat) (ps:List Str) (sp:Sp):Prop:=
  ∃ f fd,mg x=some (.ref f)/\PySem.W.keepIn K (.ref f)=true/\FnOk P w K mg base CX0 k f fd ps sp/\Binds K fd ps []
section
variable {X:Cx} {x:Str} {k:Nat} {ps:List Str} {sp:Sp} {e:Expr} {es:List Expr} {t:TA} {p pos:Pos}
theorem Af (h:Ao X.prog X.w X.K X.mg X.base x k ps sp) (hr:Room k X.A) (ha:PA X (e::es) t) (hg:Gl X x:=by rfl) (hdb:(x == ("__debug__":Str))=false:=by decide)
    (he:starEach (e::es) X.env=(false,eval e X.env)::starEach es X.env:=by rfl) (hpl:(backTo pos (starEach es X.env)).any (·.1)=false:=by rfl):
    PE X (.Call (.Name x p) (e::es) [] pos) (Iz sp [] E0 t):=by
  obtain ⟨f,fd,hm,hk,F,hb⟩:=h;exact Ly F hr hg hm hk hb .nil IU ha hdb he hpl
end
structure DefAt (K:PySem.W.Frag) (mg:Str->Option Value) (x:Str) (st:Stmt) (ps:List Str) (f:Addr) (fd:FuncData):Prop where
  fn:Fun K x x st f fd
  at':mg x=some (.ref f)
  bi:Binds K fd ps []
theorem DefAt.call {P:Program} {w:World} {K:PySem.W.Frag} {mg:Str->Option Value} {base:Heap} {x:Str} {st:Stmt} {ps:List Str} {f:Addr} {fd:FuncData} {k:Nat} {sp:Sp} (d:DefAt K mg x st ps f fd)
    (F:FnOk P w K mg base CX0 k f fd ps sp):Ao P w K mg base x k ps sp:=⟨f,fd,d.at',d.fn.kp,F,d.bi⟩
def KM:V->Bool | .int _=>true | _=>false
def Mq:V->Bool | .bl _=>true | _=>false
def Ty (K:PySem.W.Frag) (H:Hp) (x:V):Prop:=∃ n,TyOf K H x (.type n)
def Ck (n T:String):Option Bool:=if (Value.type n == Value.type T)=true then some true else if PySem.W.kitMeta T=true then (fastBuiltinMro n).map (·.contains (.type T)) else none
section
variable {K:PySem.W.Frag} {H:Hp} {x:V} {n:String}
theorem kb {n T:String} {b:Bool} (h:Ck n T=some b):PySem.W.kitOne K (.type n) (.type T)=some b:=h
theorem LE (h:TyOf K H x (.type n)):PySem.W.kitOne K (.type n) (.type "int")=some (KM x||Mq x):=by
  cases h <;> first
    | exact (show PySem.W.kitOne K _ _=some true from kb (by decide +kernel))
    | exact (show PySem.W.kitOne K _ _=some false from kb (by decide +kernel))
theorem Kg (h:TyOf K H x (.type n)):PySem.W.kitOne K (.type n) (.type "bool")=some (Mq x):=by
  cases h <;> first
    | exact (show PySem.W.kitOne K _ _=some true from kb (by decide +kernel))
    | exact (show PySem.W.kitOne K _ _=some false from kb (by decide +kernel))
end
section
variable {X:Cx}
def Own (mg:Str->Option Value) (names:List Str):Prop:=∀ x∈names,mg x=none
theorem Cb:bootBuiltins "all"=some (.builtin "all"):=by decide +kernel
theorem CK {x:Str} {T:String} {pos:Pos} (hg:Gl X x) (hm:X.mg x=none) (hv:bootBuiltins x=some (.type T)) (hn:x≠"__name__":=by decide) (hd:(x == ("__debug__":Str))=false:=by decide):PE X (.Name x pos) (tC (.ty T)):=
  LF hg hm hv (show RelV (.ty T) (.type T) from rfl) hn hd
end
def B5 (N:List Str) (scope:Scope):List (Str × Nat):=scope.names.filterMap λ y=>if y.2= .free then (N.findIdx? λ n=>decide (n=y.1)).map λ i=>(y.1,i) else none
def CJ (sc:Scope) (N:List Str) (scope:Scope) (own:List Str) (fr:List (Str × Nat)):Bool:=
  decide (scope.kind= .function)&&
  (scope.names.all λ y=>decide (y.2≠ .cell)&&(decide (y.2≠ .local)||decide (scope.names.lookup y.1=some .local))&&
    (decide (y.2≠ .free)||((decide (sc.names.lookup y.1=some .cell)||decide (sc.names.lookup y.1=some .free))&&decide (scope.names.lookup y.1=some .free))))&&
  (fr.all λ p=>decide (N[p.2]?=some p.1)&&decide ((p.1,NameKind.free)∈scope.names))&&
  (own.all λ x=>decide (scope.names.lookup x=some .local))&&decide ((own++fr.map (·.1)).Nodup)
section
variable {X:Cx} {scope:Scope} {own:List Str} {fr:List (Str × Nat)}
theorem BlkScope.of (h:CJ X.env.scope X.N scope own fr=true):BlkScope X scope own fr:=by
  unfold CJ at h;simp only [Bool.and_eq_true,List.all_eq_true,decide_eq_true_iff,Bool.or_eq_true] at h;obtain ⟨⟨⟨⟨h1,h2⟩,h3⟩,h4⟩,h5⟩:=h;exact ⟨h1,λ y hy=>(h2 y hy).1.1,λ y hy e=>(h2 y hy).1.2.resolve_left (λ z=>z e),λ y hy e=>((h2 y hy).2.resolve_left (λ z=>z e)).1,λ p hp=>h3 p hp,λ x hx=>((h2 _ hx).2.resolve_left (λ z=>z rfl)).2⟩
theorem Jc (h:CJ X.env.scope X.N scope own fr=true):(∀ x∈own,scope.names.lookup x=some .local)/\(own++fr.map (·.1)).Nodup:=by
  unfold CJ at h;simp only [Bool.and_eq_true,List.all_eq_true,decide_eq_true_iff,Bool.or_eq_true] at h;exact ⟨h.1.2,h.2⟩
theorem Fv {i:Nat} {x:Str} {px:Pos} (h:CJ X.env.scope X.N scope own fr=true) (hi:own[i]?=some x) (C:Addr) (ex:List Addr) (s:Shared) (H:Hp):PG (AI X scope own fr C ex s H) (.Name x px) (AA i):=by
  obtain ⟨h1,h2⟩:=Jc h;have hl:(relabel scope X.env).names.lookup x=some .local:=lookup_relabel_local (h1 x (List.mem_of_getElem? hi));have hlt:=(List.getElem?_eq_some_iff.mp hi).1;refine AE h2 ?_ (.inl hl) (.inr hl);show (own++fr.map (·.1))[i]?=some x;rw [List.getElem?_append_left hlt];exact hi
theorem B9 {elt iter:Expr} {x:Str} {px:Pos} {ifs:List Expr} {pos:Pos} {wi:TI} {tc:TT} {te:TE} (hi:PI X (.Name x px) iter wi)
    (ht:∀ C ex s H,PTs (AI X scope [x] (B5 X.N scope) C ex s H) ifs tc) (he:∀ C ex s H,PE (AI X scope [x] (B5 X.N scope) C ex s H) elt te)
    (hb:CJ X.env.scope X.N scope [x] (B5 X.N scope)=true:=by with_unfolding_all rfl) (hc:X.calm=true:=by rfl)
    (hs:∀ x,foldedSetIterable iter X.env x=pure x:=by intro _;rfl):PE X (.ListComp elt [⟨.Name x px,iter,ifs,0⟩] scope pos) (Dj wi [x] (B5 X.N scope) (AA 0) tc te):=
  GW hc (.of hb) hi (λ C ex s H=>Fv hb rfl C ex s H) ht he hs
theorem BE {i:Nat} {y x:Str} {py px spos:Pos} {elt iter:Expr} {ifs:List Expr} {pos:Pos} {wi:TI} {tc:TT} {te:TE} (hN:X.N.Nodup) (hix:X.N[i]?=some y) (hx:Loc X.env.scope y) (hi:PI X (.Name x px) iter wi)
    (ht:∀ C ex s H,PTs (AI X scope [x] (B5 X.N scope) C ex s H) ifs tc) (he:∀ C ex s H,PE (AI X scope [x] (B5 X.N scope) C ex s H) elt te)
    (hb:CJ X.env.scope X.N scope [x] (B5 X.N scope)=true:=by with_unfolding_all rfl) (hc:X.calm=true:=by rfl)
    (hsw:swapsWith (.ListComp elt [⟨.Name x px,iter,ifs,0⟩] scope pos) (some (.Name y py)) spos.line X.env=pure true:=by rfl)
    (hf:X.fn y=true\/X.env.scope.names.lookup y=some .local:=by first | exact .inl rfl | exact .inr rfl | assumption)
    (hs:∀ x,foldedSetIterable iter X.env x=pure x:=by intro _;rfl):
    PS X (.Assign [.Name y py] (.ListComp elt [⟨.Name x px,iter,ifs,0⟩] scope pos) spos) (Jn (Dj wi [x] (B5 X.N scope) (AA 0) tc te) (AA i)):=
  Ja hN hix hx hc (.of hb) hi (λ C ex s H=>Fv hb rfl C ex s H) ht he hsw hf hs
theorem MQ {σ:L2.St} {H:Hp} {A B:Hp->Prop} (h:A H):JC σ H (λ b H3=>if b=true then A H3 else B H3):=by
  show (if true=true then A H else B H);exact KJ h
end
def LX (K:PySem.W.Frag):List V->Hp->VK->Prop:=λ xs H Q=>∃ x n,xs=[x]/\OC K x H n/\Q (.int n) H
def Ow (K:PySem.W.Frag):List V->Hp->VK->Prop:=λ xs H Q=>∃ (p:Addr) (ns:List Int),xs=[.ref p]/\SqL K H p (ns.map V.int)/\Q (.int ns.sum) H
def N9 (K:PySem.W.Frag):List V->Hp->VK->Prop:=λ xs H Q=>∃ (p:Addr) (bs:List Bool),xs=[.ref p]/\SqL K H p (bs.map V.bl)/\Q (.bl (bs.all id)) H
def Mn (K:PySem.W.Frag):List V->Hp->VK->Prop:=λ xs H Q=>∃ x n t b,xs=[x, .ty n]/\TyOf K H x t/\PySem.W.kitOne K t (.type n)=some b/\Q (.bl b) H
def IV (K:PySem.W.Frag):List V->Hp->VK->Prop:=λ xs H Q=>∃ p ys,xs=[.ref p]/\(SqL K H p ys\/SqT K H p ys)/\∀ l,H l=none->Q (.ref l) (upd H l (.lst ys))
def Ht (K:PySem.W.Frag):List V->Hp->VK->Prop:=λ xs H Q=>∃ p ys,xs=[.ref p]/\((SqL K H p ys/\∀ l,H l=none->Q (.ref l) (upd H l (.tup ys)))\/(SqT K H p ys/\Q (.ref p) H))
def Ll:List V->Hp->VK->Prop:=λ xs H Q=>∃ i:Int,xs=[.int i]/\i.natAbs.log2<1920/\Q (.str (toString i)) H
def OO (K:PySem.W.Frag):V->List V->Hp->VK->Prop:=λ x vs H Q=>∃ (z:Str) (p:Addr) (ys:List Str),x= .str z/\vs=[.ref p]/\SqL K H p (ys.map V.str)/\(ys.map (·.length)).sum+ys.length*z.length<=16777216/\Q (.str (Txt.join z ys)) H
section
variable {X:Cx} {K:PySem.W.Frag}
theorem CN (hK:X.K=K:=by rfl):AS X (.builtin "len") (LX K):=by subst hK;exact Kh
theorem OX (hK:X.K=K:=by rfl) (hc:X.calm=true:=by rfl):AS X (.builtin "sum") (Ow K):=by subst hK;exact Ky hc
theorem Hv (hK:X.K=K:=by rfl) (hc:X.calm=true:=by rfl):AS X (.builtin "all") (N9 K):=by subst hK;exact Kd hc
theorem Du (hK:X.K=K:=by rfl):AS X (.builtin "isinstance") (Mn K):=by subst hK;exact G5
theorem JX (hK:X.K=K:=by rfl):AS X (.type "list") (IV K):=by subst hK;exact GS
theorem Lb (hK:X.K=K:=by rfl):AS X (.type "tuple") (Ht K):=by subst hK;exact FB
theorem MB:AS X (.type "str") Ll:=GR
theorem J5 (hK:X.K=K:=by rfl):MtM X "str.join" (OO K):=by subst hK;exact Ls
theorem B3 (hK:X.K=K:=by rfl):IxR X (NW K):=by subst hK;exact LO
theorem Fg (hK:X.K=K:=by rfl):IxR X (MV K):=by subst hK;exact Nf
theorem Qj (hK:X.K=K:=by rfl):OpR X (compareOp .In) (rIn K false):=by subst hK;exact JI
theorem OY (hK:X.K=K:=by rfl):OpR X (binaryOp .Add) (Kf K):=by subst hK;exact Lz
theorem F7 (hu:X.A.units<cLine) (hK:X.K=K:=by rfl):OpR X (compareOp .Eq) (HN K false):=by subst hK;exact MW hu
theorem Kl (hu:X.A.units<cLine) (hK:X.K=K:=by rfl):OpR X (compareOp .NotEq) (HN K true):=by subst hK;exact N4 hu
theorem Gg (hK:X.K=K:=by rfl):SlR X (Nm K):=by subst hK;exact ID
theorem Dn {tg l:Expr} {tl:TE} (hl:PE X l tl) (hK:X.K=K:=by rfl):PI X tg l (KU K tl):=by subst hK;exact Lv hl
theorem Mo {tg l:Expr} {tl:TE} (hl:PE X l tl) (hK:X.K=K:=by rfl):PI X tg l (Nz K tl):=by subst hK;exact NC hl
end
section
variable {X:Cx} {pins:List (Addr × Obj)} {σ:St} {H:Hp} {s:Shared} {h':Heap}
theorem Inv.turnedL {t':Nat} (ch:List Addr) (I:Inv X pins σ H s) (hf:∀ b∈ch,BP X pins H b) (k:∀ b o,b∉ch->s.heap.get? b=some o->h'.get? b=some o):Inv X pins σ H { s with heap:=h',toks:=t' }:=by
  have nit:∀ b u,H b=some u->b∉ch:=λ b u e z=>by rw [(hf b z).1] at e;cases e
  refine I.step (g':=s.gens) (d':=s.drawn) (ch:=ch) (λ b hb=> ?_) (λ b o _ _ hc e _=>k b o hc e) (λ b o _ _ hc e _=>⟨o.slots,k b o hc e⟩) (λ _ _ _ _ n=>n)
    (λ b o hc e=>⟨o,k b o hc e⟩) (λ _ _ e=>e) (λ _ _ _ e=>e) (λ b ps e=>⟨#[],by rw [e];simp⟩) (λ m hm=> ?_) (λ b u e=> ?_) I.bare
  · obtain ⟨f0,f1,f2,f3,f4,f5⟩:=hf b hb;exact ⟨f3,f1,f4,f5⟩
  · obtain ⟨o,es,ep,ho,r⟩:=hm;exact ⟨o,es,ep,k _ o (λ z=>(hf _ z).2.1 rfl) ho,r⟩
  · refine (I.hok b u e).stay (λ c v hc q=>k c v ?_ q) (λ _ q=>q) λ _ _ q=>q;rcases hc with z | z
    · rw [z];exact nit b u e
    · exact nit c _ z
end
def Ite (K:PySem.W.Frag) (a:Addr):It:=
  ⟨λ i H=>∃ xs x,SqL K H a xs/\xs[i]?=some x,λ i H v H'=>∃ p x,H p=none/\v= .ref p/\H'=upd H p (.tup [.int i,x])/\∀ xs,SqL K H a xs->xs[i]?=some x,λ i H=>∃ xs,SqL K H a xs/\xs.length<=i⟩
theorem Ih {X:Cx} {pins:List (Addr × Obj)} {H:Hp} {b p:Addr} {o:HO} (h:BP X pins H b) (n:b≠p):BP X pins (upd H p o) b:=⟨by rw [Av n];exact h.1,h.2⟩
theorem Jo {P:Program} {w:World} {K:PySem.W.Frag} {elts:List Expr} {k:Nat} {pos:Pos} (a e it:Addr) (hne:e≠it):
    Turn P w K (.Tuple elts k pos) (Ite K a) [e,it] e (λ i h=>(∃ old,IsEnum h e it i old)/\h.IsListIter it a i) where
  mem:=by simp
  obj:=λ i h st b hb=>by
    obtain ⟨⟨old,he⟩,o,eo,c,d⟩:=st;rcases List.mem_cons.mp hb with z | z
    · subst z;exact ⟨_,he,λ v z=>by cases (show Data.fields _=Data.cell v from z)⟩
    · have z:b=it:=by simpa using z
      subst z;exact ⟨o,eo,λ v z=>by rw [d] at z;cases z⟩
  keep:=λ i h h' st kp=>by
    obtain ⟨⟨old,he⟩,hi⟩:=st;exact ⟨⟨old,kp e (by simp) _ he⟩,hi.at λ o z=>kp it (by simp) o z⟩
  item:=by
    intro X hP hw hK hc i pins s σ H E I hf st hg;subst hP hw hK;obtain ⟨xs,x,hq,hx⟩:=hg;obtain ⟨its,rv,p,hz⟩:=I.list hq;obtain ⟨u,hu,ru⟩:=rv.get hx;obtain ⟨⟨old,he⟩,hi⟩:=st;have hel:e<s.heap.objs.size:=Heap.lt_size he;have hil:it<s.heap.objs.size:=by obtain ⟨_,z,_⟩:=hi;exact Heap.lt_size z
    refine wpAny_pyNext_enum_item he hi p.isList (x:=u) (by simpa using hu) hne λ h' ho hi' hT hsz hk=> ?_;have I0:=I.laid (h':=s.heap.push { cls:= .type "tuple",data:= .seq #[.int i s.toks,u] }) (a:=s.heap.objs.size) (o:= .tup [.int i,x]) (t':=s.toks+1) (λ _ _ q=>Heap.get?_push_of_some _ q) (Nat.le_refl _)
      ⟨(by show 2<=sizeLine;decide),[.int i s.toks,u], .cons ⟨_,rfl⟩ (.cons ru .nil),⟨_,Heap.get?_push_size _ rfl,rfl,_,rfl⟩⟩
    have f0:∀ b∈[e,it],BP X pins (upd H s.heap.objs.size (.tup [.int i,x])) b:=λ b hb=>Ih (hf b hb) (by
      rcases List.mem_cons.mp hb with z | z
      · rw [z];exact Nat.ne_of_lt hel
      · rw [show b=it by simpa using z];exact Nat.ne_of_lt hil)
    have I1:=Inv.turnedL (t':=s.toks+1) (h':=h') [e,it] I0 f0 (λ b o hb z=>by
      have hb1:b≠e:=λ q=>hb (by simp [q]);have hb2:b≠it:=λ q=>hb (by simp [q]);rcases Heap.get?_push_cases (show (s.heap.push { cls:= .type "tuple",data:= .seq #[.int i s.toks,u] }).get? b=some o from z) with ⟨q1,q2⟩ | q
      · rw [q1,q2];exact hT
      · exact hk b o hb1 hb2 q)
    refine ⟨.ref s.heap.objs.size,rfl,wpAny_letOwnedTupleGo_enum (s:={ s with heap:=h',toks:=s.toks+1 }) ho λ h2 he2 sb=> ?_⟩;refine ⟨.ref s.heap.objs.size,_,Inv.turnedL (t':=s.toks+1) (h':=h2) [e,it] I1 f0 (λ b o hb z=>(sb.2 b λ q=>hb (by simp [q])).trans z),rfl,⟨_,x,I.fresh,rfl,rfl,λ ys hy=>by rw [I.list_inj hy hq];exact hx⟩,⟨⟨u,by simpa using he2⟩,hi'.at λ o z=>(sb.2 it hne.symm).trans z⟩,λ b hb=>(f0 b hb).1⟩
  done:=by
    intro X hP hw hK hc i pins s σ H E I hf st hg;subst hP hw hK;obtain ⟨xs,hq,hx⟩:=hg;obtain ⟨its,rv,p,hz⟩:=I.list hq;obtain ⟨⟨old,he⟩,hi⟩:=st;have hl:=rv.length;exact wpAny_pyNext_enum_end (I.ok.hd hc) he hi p.isList (by simp;omega) λ h' eb=>⟨rfl,I.turnedL (t':=s.toks) [e,it] hf λ b o hb z=>eb b o (λ q=>hb (by simp [q])) z⟩
  self:=λ _ _ _ _ _ st h=>by
    obtain ⟨⟨old,he⟩,_⟩:=st;exact wpAny_pyIter_enum he h
section
variable {X:Cx} {elts:List Expr} {k:Nat} {tpos:Pos} {K:PySem.W.Frag}
def MI (K:PySem.W.Frag) (ta:TA):TI:=λ σ H R=>ta σ H λ vs H1=>∃ a,vs=[.ref a]/\(∃ xs,SqL K H1 a xs)/\R (Ite K a) H1
theorem FV:bootBuiltins "enumerate"=some (.type "enumerate"):=by decide +kernel
theorem JQ:bootBuiltins "zip"=some (.type "zip"):=by decide +kernel
theorem Io {l:Expr} {ta:TA} {p pos:Pos} (hg:Gl X "enumerate") (hm:X.mg "enumerate"=none) (ha:PA X [l] ta) (hK:X.K=K:=by rfl) (hs:starEach [l] X.env=[(false,eval l X.env)]:=by rfl):PI X (.Tuple elts k tpos) (.Call (.Name "enumerate" p) [l] [] pos) (MI K ta):=by
  subst hK;intro pins s σ H R I h;refine Call_ (CT I hg hm FV (PyProof.Rows.callWith_type1 (thn (ha pos pins s σ H _ I h) λ us s1 ⟨vs,H1,I1,r1,q1⟩=> ?_) hs rfl));obtain ⟨a,e,⟨xs,hq⟩,q⟩:=q1;subst e;cases r1 with
  | cons r rr=>
    cases rr;cases r;obtain ⟨its,rv,pl,hz⟩:=I1.list hq;refine call_enumerate_list pl.isList λ h' he hi hsz hk=> ?_;refine wpAny_pyIter_enum he ?_;have I2:=I1.kept (t':=s1.toks) hk;refine ⟨s1.heap.objs.size+1,[s1.heap.objs.size+1,s1.heap.objs.size],_,_,H1,rfl,I2,Jo a _ _ (Nat.succ_ne_self _),⟨⟨_,he⟩,hi⟩,λ b hb=> ?_,q⟩;have hb':s1.heap.objs.size<=b:=by
      rcases List.mem_cons.mp hb with z | z
      · rw [z];exact Nat.le_succ _
      · have z:b=s1.heap.objs.size:=by simpa using z
        rw [z];exact Nat.le_refl _
    exact I1.fpOk hb' (I1.hok.fresh hb')
end
section
variable {X:Cx} {elts:List Expr} {k:Nat} {tpos:Pos} {K:PySem.W.Frag}
end
def Bg (tp:Bool) (h:Heap) (it l:Addr) (i:Nat):Prop:=if tp=true then h.IsTupleIter it l i else h.IsListIter it l i
def Bh (tp:Bool) (h:Heap) (l:Addr) (xs:Array Value):Prop:=if tp=true then h.IsTuple l xs else h.IsList l xs
theorem Az {tp:Bool} {h h':Heap} {it l:Addr} {i:Nat} (x:Bg tp h it l i) (k:∀ o,h.get? it=some o->h'.get? it=some o):Bg tp h' it l i:=by
  cases tp with
  | false=>obtain ⟨o,e,r⟩:=(show h.IsListIter it l i from x);exact (show h'.IsListIter it l i from ⟨o,k o e,r⟩)
  | true=>obtain ⟨o,e,r⟩:=(show h.IsTupleIter it l i from x);exact (show h'.IsTupleIter it l i from ⟨o,k o e,r⟩)
theorem BF {tp:Bool} {h h':Heap} {l:Addr} {xs:Array Value} (x:Bh tp h l xs) (k:∀ o,h.get? l=some o->h'.get? l=some o):Bh tp h' l xs:=by
  cases tp with
  | false=>obtain ⟨o,e,r⟩:=(show h.IsList l xs from x);exact (show h'.IsList l xs from ⟨o,k o e,r⟩)
  | true=>obtain ⟨o,e,r⟩:=(show h.IsTuple l xs from x);exact (show h'.IsTuple l xs from ⟨o,k o e,r⟩)
theorem Ba {tp:Bool} {h:Heap} {it l:Addr} {i:Nat} (x:Bg tp h it l i):∃ o,h.get? it=some o/\o.data= .fields #[.ref l, .int i 0]:=by
  cases tp with
  | false=>obtain ⟨o,e,_,d⟩:=(show h.IsListIter it l i from x);exact ⟨o,e,d⟩
  | true=>obtain ⟨o,e,_,d⟩:=(show h.IsTupleIter it l i from x);exact ⟨o,e,d⟩
theorem C9 {tp:Bool} {h:Heap} {l:Addr} {xs:Array Value} (x:Bh tp h l xs):∃ o n,h.get? l=some o/\o.data= .seq xs n:=by
  cases tp with
  | false=>obtain ⟨o,e,_,n,d⟩:=(show h.IsList l xs from x);exact ⟨o,n,e,d⟩
  | true=>obtain ⟨o,e,_,n,d⟩:=(show h.IsTuple l xs from x);exact ⟨o,n,e,d⟩
section
variable {prog:Program} {w:World} {A:Around} {E:Value->Shared->Prop} {s:Shared}
theorem DT {tp:Bool} {it l:Addr} {i:Nat} {xs:Array Value} {x:Value} {Q:Value->Shared->Prop} (ht:Bg tp s.heap it l i) (hq:Bh tp s.heap l xs) (hx:xs[i]?=some x)
    (k:∀ h',Bg tp h' it l (i+1)->Heap.SameBut it s.heap h'->Q x { s with heap:=h' }):wpAny (model prog w) A (Builtin.SmallTypes.nextOf (.ref it)) Q E s:=by
  cases tp with
  | false=>exact wpAny_nextOf_list_item (show s.heap.IsListIter it l i from ht) (show s.heap.IsList l xs from hq) hx k
  | true=>
    have ht:s.heap.IsTupleIter it l i:=ht;obtain ⟨ob,eb,cb,db⟩:=id ht;obtain ⟨ol,el,_,nl,dl⟩:=(show s.heap.IsTuple l xs from hq);unfold Builtin.SmallTypes.nextOf;refine wpAny_bind (wpAny_callSpecial?_slot (name:=Str.ofString "__next__") ht.typeIs F.slot_tuple_iterator_next (wpAny_call_entry F.slot_tuple_iterator_next ht.typeIs F.entry_tuple_iterator_next ?_ (F.args_tuple_iterator_next_1 _)));show wpAny _ _ (field (.ref it) 0 >>= _) _ _ s;refine wpAny_bind (wpAny_field eb db (x:= .ref l) rfl ?_);show wpAny _ _ (if (Value.ref l == Value.none)=true then _ else _) _ _ s;rw [if_neg (show ¬ ((Value.ref l == Value.none)=true) from Bool.false_ne_true)];show wpAny _ _ (field (.ref it) 1 >>= _) _ _ s;refine wpAny_bind (wpAny_field eb db (x:= .int i 0) rfl ?_);show wpAny _ _ (seqItems? (.ref l) >>= _) _ _ s;refine wpAny_bind (wpAny_seqItems el dl ?_);simp only [Int.toNat_natCast,hx];refine wpAny_bind (wpAny_setField eb db (by simp) (wpAny_pure ⟨x,rfl,wpAny_pure (k _ ?_ (Heap.SameBut.update ..))⟩));exact (show Heap.IsTupleIter _ it l (i+1) from ⟨_,Heap.get?_update_self _ eb (Obj.isFreed_of_fields (Obj.data_mapFields db _)),(Obj.cls_mapFields ..).trans cb,by rw [Obj.data_mapFields db];simp [rawInt]⟩)
theorem EV {tp:Bool} {it l:Addr} {i:Nat} {xs:Array Value} {Q:Value->Shared->Prop} (hh:A.handled=none) (ht:Bg tp s.heap it l i) (hq:Bh tp s.heap l xs) (hx:xs[i]?=none)
    (k:∀ h' e,Heap.ExtBut it s.heap h'->(∃ o,h'.get? e=some o/\o.cls= .type "StopIteration")->E (.ref e) { s with heap:=h' }):wpAny (model prog w) A (Builtin.SmallTypes.nextOf (.ref it)) Q E s:=by
  cases tp with
  | false=>exact wpAny_nextOf_list_end hh (show s.heap.IsListIter it l i from ht) (show s.heap.IsList l xs from hq) hx k
  | true=>
    have ht:s.heap.IsTupleIter it l i:=ht;obtain ⟨ob,eb,cb,db⟩:=id ht;obtain ⟨ol,el,_,nl,dl⟩:=(show s.heap.IsTuple l xs from hq);unfold Builtin.SmallTypes.nextOf;refine wpAny_bind (wpAny_callSpecial?_slot (name:=Str.ofString "__next__") ht.typeIs F.slot_tuple_iterator_next (wpAny_call_entry F.slot_tuple_iterator_next ht.typeIs F.entry_tuple_iterator_next ?_ (F.args_tuple_iterator_next_1 _)));show wpAny _ _ (field (.ref it) 0 >>= _) _ _ s;refine wpAny_bind (wpAny_field eb db (x:= .ref l) rfl ?_);show wpAny _ _ (if (Value.ref l == Value.none)=true then _ else _) _ _ s;rw [if_neg (show ¬ ((Value.ref l == Value.none)=true) from Bool.false_ne_true)];show wpAny _ _ (field (.ref it) 1 >>= _) _ _ s;refine wpAny_bind (wpAny_field eb db (x:= .int i 0) rfl ?_);show wpAny _ _ (seqItems? (.ref l) >>= _) _ _ s;refine wpAny_bind (wpAny_seqItems el dl ?_);simp only [Int.toNat_natCast,hx];refine wpAny_bind (wpAny_rule (wpAny_bind (wpAny_setField eb db (by simp) ?_)));show wpAny _ _ (newExc (.type "StopIteration") [] >>= _) _ _ _;refine wpAny_bind ?_;simp only [newExc,newTuple];refine wpAny_bind (wpAny_newObj_type ?_ (by size_fits));refine wpAny_bind (m:=firstArgMember _ _) (wpAny_of_eq (a:=Value.none) (by first | rfl | (simp only [firstArgMember];rfl)) ?_);refine wpAny_newObj_type ?_ (by size_fits);simp only [raiseNew];refine wpAny_bind (wpAny_handled ?_)
    first | rw [show A.in1.handled=none from hh] | rw [hh]
    exact wpAny_bind (wpAny_pure (wpAny_throw (k _ _ (((Heap.SameBut.update ..).extBut.push _).push _) ⟨_,Heap.get?_push_size _ rfl,rfl⟩)))
end
section
variable {prog:Program} {w:World} {A:Around} {E:Value->Shared->Prop} {s:Shared}
structure ZipSt (t1 t2:Bool) (h:Heap) (z TI TO i1 i2 l1 l2:Addr) (k:Nat):Prop where
  hz:IsZip h z TI TO .none
  hTI:IsPair h TI (.ref i1) (.ref i2)
  hTO:∃ c d,IsPair h TO c d
  h1:Bg t1 h i1 l1 k
  h2:Bg t2 h i2 l2 k
theorem Jj {t1 t2:Bool} {z TI TO i1 i2 l1 l2:Addr} {k:Nat} {xs ys:Array Value} {x y:Value} {Q:Value->Shared->Prop} (D:ZipApart z TI TO i1 i2 l1 l2) (Z:ZipSt t1 t2 s.heap z TI TO i1 i2 l1 l2 k)
    (q1:Bh t1 s.heap l1 xs) (q2:Bh t2 s.heap l2 ys) (hx:xs[k]?=some x) (hy:ys[k]?=some y)
    (fin:∀ h',IsZip h' z TI TO (rawInt s.heap.objs.size)->IsPair h' TO x y->Bg t1 h' i1 l1 (k+1)->Bg t2 h' i2 l2 (k+1)->IsPair h' s.heap.objs.size x y->
      (∀ c o,c≠z->c≠TO->c≠i1->c≠i2->s.heap.get? c=some o->h'.get? c=some o)->Q (.ref s.heap.objs.size) { s with heap:=h' }):
    wpAny (model prog w) A (Builtin.«zip.__next__» ⟨[.ref z],[]⟩) (λ fin s'=>∃ v,fin= .done (.ret v)/\Q v s') E s:=by
  obtain ⟨hz,hTI,⟨c0,d0,hTO⟩,g1,g2⟩:=Z;show wpAny _ _ (field (.ref z) 2 >>= _) _ _ _;refine wpAny_bind (wpAny_field hz rfl (x:= .bool false) rfl ?_);show wpAny _ _ (field (.ref z) 3 >>= _) _ _ _;refine wpAny_bind (wpAny_field hz rfl (x:= .ref TI) rfl (wpAny_bind (wpAny_seqItems hTI rfl ?_)));show wpAny _ _ (Builtin.SmallTypes.ownedTupleIsFree (.ref z) >>= _) _ _ _;refine wpAny_bind ?_;unfold Builtin.SmallTypes.ownedTupleIsFree;refine wpAny_bind (wpAny_field hz rfl (x:= .none) rfl (wpAny_pure ?_));simp only [if_true];refine wpAny_bind (wpAny_rule (wpAny_bind (wpAny_field hz rfl (x:= .ref TO) rfl (wpAny_bind (wpAny_setField_rec hz (by simp) λ a1 za b1=> ?_)))));replace za:IsZip a1 z TI TO .ellipsis:=za;refine wpAny_bind ?_;simp only [List.zipIdx_cons,List.zipIdx_nil,List.forIn_cons,List.forIn_nil];refine wpAny_bind (wpAny_bind (wpAny_onRaise ?_));show wpAny _ _ (Builtin.SmallTypes.nextOf (.ref i1) >>= _) _ _ _;refine wpAny_bind (DT (s:={ s with heap:=a1 }) (Az g1 λ o e=>b1.extBut _ o D.i1z e) (BF q1 λ o e=>b1.extBut _ o D.l1z e) hx λ a2 i1a b2=>wpAny_pure ?_);have to2:IsPair a2 TO c0 d0:=b2.extBut _ _ D.TOi1 (b1.extBut _ _ D.TOz hTO);refine wpAny_bind (wpAny_seqItems to2 rfl (wpAny_bind (wpAny_updateSeq_pair to2 λ a3 to3 b3=> ?_)));replace to3:IsPair a3 TO x d0:=to3;refine wpAny_bind (wpAny_letGo (wpAny_pure (wpAny_bind (wpAny_bind (wpAny_onRaise ?_)))));show wpAny _ _ (Builtin.SmallTypes.nextOf (.ref i2) >>= _) _ _ _;have up3:∀ c o,c≠z->c≠i1->c≠TO->s.heap.get? c=some o->a3.get? c=some o:=λ c o n1 n2 n3 e=>b3.extBut _ o n3 (b2.extBut _ o n2 (b1.extBut _ o n1 e));refine wpAny_bind (DT (s:={ s with heap:=a3 }) (Az g2 λ o e=>up3 _ o D.i2z D.i12.symm D.TOi2.symm e) (BF q2 λ o e=>up3 _ o D.l2z D.l2i1 D.l2TO e) hy λ a4 i2a b4=>wpAny_pure ?_);have to4:IsPair a4 TO x d0:=b4.extBut _ _ D.TOi2 to3;refine wpAny_bind (wpAny_seqItems to4 rfl (wpAny_bind (wpAny_updateSeq_pair to4 λ a5 to5 b5=> ?_)));replace to5:IsPair a5 TO x y:=to5;refine wpAny_bind (wpAny_letGo (wpAny_pure (wpAny_pure (wpAny_bind (wpAny_seqItems to5 rfl (wpAny_bind (wpAny_newTuple ?_)))))));have sz:a5.objs.size=s.heap.objs.size:=by rw [b5.1,b4.1,b3.1,b2.1,b1.1]
  have z5:IsZip a5 z TI TO .ellipsis:=b5.extBut _ _ D.TOz.symm (b4.extBut _ _ D.i2z.symm (b3.extBut _ _ D.TOz.symm (b2.extBut _ _ D.i1z.symm za)));have k5:∀ c o,c≠z->c≠TO->c≠i1->c≠i2->s.heap.get? c=some o->a5.get? c=some o:=λ c o n1 n2 n3 n4 e=>b5.extBut _ _ n2 (b4.extBut _ _ n4 (up3 c o n1 n3 n2 e));have f1:Bg t1 a5 i1 l1 (k+1):=Az i1a λ o e=>b5.extBut _ o D.TOi1.symm (b4.extBut _ o D.i12 (b3.extBut _ o D.TOi1.symm e));have f2:Bg t2 a5 i2 l2 (k+1):=Az i2a λ o e=>b5.extBut _ o D.TOi2.symm e;have zlt:z<a5.objs.size:=Heap.lt_size z5;show wpAny _ _ (Builtin.SmallTypes.ownedTupleHandOut (.ref z) (.ref a5.objs.size) >>= _) _ _ _;refine wpAny_bind ?_;unfold Builtin.SmallTypes.ownedTupleHandOut;have z6:IsZip (a5.push { cls:= .type "tuple",data:= .seq #[x,y] }) z TI TO .ellipsis:=Heap.get?_push_of_some _ z5;refine wpAny_bind (wpAny_setField_rec z6 (by simp) λ a7 z7 b7=> ?_);replace z7:IsZip a7 z TI TO (rawInt a5.objs.size):=z7;refine wpAny_setField_rec z7 (by simp) λ a8 z8 b8=> ?_;replace z8:IsZip a8 z TI TO (rawInt a5.objs.size):=z8;have up:∀ c o,c≠z->a5.get? c=some o->a8.get? c=some o:=λ c o n e=>b8.extBut _ _ n (b7.extBut _ _ n (Heap.get?_push_of_some _ e));have t8:IsPair a8 a5.objs.size x y:=b8.extBut _ _ (Nat.ne_of_gt zlt) (b7.extBut _ _ (Nat.ne_of_gt zlt) (Heap.get?_push_size _ rfl));rw [sz] at z8 t8;refine wpAny_pure ⟨_,rfl,?_⟩;show Q (.ref a5.objs.size) _;rw [sz];exact fin a8 z8 (up _ _ D.TOz to5) (Az f1 λ o e=>up _ o D.i1z e) (Az f2 λ o e=>up _ o D.i2z e) t8 λ c o n1 n2 n3 n4 e=>up c o n1 (k5 c o n1 n2 n3 n4 e)
theorem KS {t1 t2:Bool} {z TI TO i1 i2 l1 l2:Addr} {k:Nat} {xs ys:Array Value} {Q:Fin->Shared->Prop} (hh:A.handled=none) (D:ZipApart z TI TO i1 i2 l1 l2) (Z:ZipSt t1 t2 s.heap z TI TO i1 i2 l1 l2 k)
    (q1:Bh t1 s.heap l1 xs) (q2:Bh t2 s.heap l2 ys) (hend:xs[k]?=none\/ys[k]?=none)
    (fin:∀ h' e,(∀ c o,c≠z->c≠TO->c≠i1->c≠i2->s.heap.get? c=some o->h'.get? c=some o)->(∃ o,h'.get? e=some o/\o.cls= .type "StopIteration")->E (.ref e) { s with heap:=h' }):
    wpAny (model prog w) A (Builtin.«zip.__next__» ⟨[.ref z],[]⟩) Q E s:=by
  obtain ⟨hz,hTI,⟨c0,d0,hTO⟩,g1,g2⟩:=Z;show wpAny _ _ (field (.ref z) 2 >>= _) _ _ _;refine wpAny_bind (wpAny_field hz rfl (x:= .bool false) rfl ?_);show wpAny _ _ (field (.ref z) 3 >>= _) _ _ _;refine wpAny_bind (wpAny_field hz rfl (x:= .ref TI) rfl (wpAny_bind (wpAny_seqItems hTI rfl ?_)));show wpAny _ _ (Builtin.SmallTypes.ownedTupleIsFree (.ref z) >>= _) _ _ _;refine wpAny_bind ?_;unfold Builtin.SmallTypes.ownedTupleIsFree;refine wpAny_bind (wpAny_field hz rfl (x:= .none) rfl (wpAny_pure ?_));simp only [if_true];refine wpAny_bind (wpAny_rule (wpAny_bind (wpAny_field hz rfl (x:= .ref TO) rfl (wpAny_bind (wpAny_setField_rec hz (by simp) λ a1 za b1=> ?_)))));replace za:IsZip a1 z TI TO .ellipsis:=za;refine wpAny_bind ?_;simp only [List.zipIdx_cons,List.zipIdx_nil,List.forIn_cons,List.forIn_nil];refine wpAny_bind (wpAny_bind (wpAny_onRaise ?_));show wpAny _ _ (Builtin.SmallTypes.nextOf (.ref i1) >>= _) _ _ _;have g1':=Az g1 λ o e=>b1.extBut _ o D.i1z e;have q1':=BF q1 λ o e=>b1.extBut _ o D.l1z e;cases hx:xs[k]? with
  | none=>
    refine wpAny_bind (EV (s:={ s with heap:=a1 }) hh g1' q1' hx λ a2 e b2 he=> ?_);obtain ⟨oe,eo,ce⟩:=he;have z2:IsZip a2 z TI TO .ellipsis:=b2 _ _ D.i1z.symm za;have nz:e≠z:=λ q=>by subst q;rw [z2] at eo;cases eo;simp at ce
    exact wpAny_setField_rec z2 (by simp) λ a3 _ b3=>fin a3 e (λ c o n1 _ n3 _ q=>b3.extBut _ _ n1 (b2 _ _ n3 (b1.extBut _ _ n1 q))) ⟨oe,b3.extBut _ _ nz eo,ce⟩
  | some x=>
    have hy:ys[k]?=none:=by
      rcases hend with q | q
      · rw [hx] at q;cases q
      · exact q
    refine wpAny_bind (DT (s:={ s with heap:=a1 }) g1' q1' hx λ a2 i1a b2=>wpAny_pure ?_);have to2:IsPair a2 TO c0 d0:=b2.extBut _ _ D.TOi1 (b1.extBut _ _ D.TOz hTO);refine wpAny_bind (wpAny_seqItems to2 rfl (wpAny_bind (wpAny_updateSeq_pair to2 λ a3 to3 b3=> ?_)));refine wpAny_bind (wpAny_letGo (wpAny_pure (wpAny_bind (wpAny_bind (wpAny_onRaise ?_)))));show wpAny _ _ (Builtin.SmallTypes.nextOf (.ref i2) >>= _) _ _ _;have up3:∀ c o,c≠z->c≠i1->c≠TO->s.heap.get? c=some o->a3.get? c=some o:=λ c o n1 n2 n3 e=>b3.extBut _ o n3 (b2.extBut _ o n2 (b1.extBut _ o n1 e));refine wpAny_bind (EV (s:={ s with heap:=a3 }) hh (Az g2 λ o e=>up3 _ o D.i2z D.i12.symm D.TOi2.symm e) (BF q2 λ o e=>up3 _ o D.l2z D.l2i1 D.l2TO e) hy λ a4 e b4 he=> ?_);obtain ⟨oe,eo,ce⟩:=he;have z4:IsZip a4 z TI TO .ellipsis:=b4 _ _ D.i2z.symm (b3.extBut _ _ D.TOz.symm (b2.extBut _ _ D.i1z.symm za));have nz:e≠z:=λ q=>by subst q;rw [z4] at eo;cases eo;simp at ce
    exact wpAny_setField_rec z4 (by simp) λ a5 _ b5=>fin a5 e (λ c o n1 n2 n3 n4 q=>b5.extBut _ _ n1 (b4 _ _ n4 (up3 c o n1 n3 n2 q))) ⟨oe,b5.extBut _ _ nz eo,ce⟩
def F6 (tp:Bool):String:=if tp=true then "tuple_iterator" else "list_iterator"
theorem Ft {tp:Bool} {l:Addr} {xs:Array Value} {Q:Value->Shared->Prop} (hq:Bh tp s.heap l xs) (k:Q (.ref s.heap.objs.size) { s with heap:=s.heap.push { cls:= .type (F6 tp),data:= .fields #[.ref l, .int 0 0] } }):
    wpAny (model prog w) A (pyIter (.ref l)) Q E s:=by
  cases tp with
  | false=>exact wpAny_pyIter_list (show s.heap.IsList l xs from hq) k
  | true=>exact wpAny_pyIter_tuple (show s.heap.IsTuple l xs from hq) k
theorem DV {tp:Bool} {h:Heap} {l:Addr}:Bg tp (h.push { cls:= .type (F6 tp),data:= .fields #[.ref l, .int 0 0] }) h.objs.size l 0:=by
  cases tp with
  | false=>exact (show Heap.IsListIter _ _ l 0 from ⟨_,Heap.get?_push_size _ rfl,rfl,rfl⟩)
  | true=>exact (show Heap.IsTupleIter _ _ l 0 from ⟨_,Heap.get?_push_size _ rfl,rfl,rfl⟩)
abbrev zs1 (t1:Bool) (h:Heap) (l1:Addr):Heap:=h.push { cls:= .type (F6 t1),data:= .fields #[.ref l1, .int 0 0] }
abbrev zs2 (t1 t2:Bool) (h:Heap) (l1 l2:Addr):Heap:=(zs1 t1 h l1).push { cls:= .type (F6 t2),data:= .fields #[.ref l2, .int 0 0] }
abbrev zs3 (t1 t2:Bool) (h:Heap) (l1 l2:Addr):Heap:=(zs2 t1 t2 h l1 l2).push { cls:= .type "tuple",data:= .seq #[.ref h.objs.size, .ref (zs1 t1 h l1).objs.size] }
abbrev zs4 (t1 t2:Bool) (h:Heap) (l1 l2:Addr):Heap:=(zs3 t1 t2 h l1 l2).push { cls:= .type "tuple",data:= .seq #[.none, .none] }
abbrev zs5 (t1 t2:Bool) (h:Heap) (l1 l2:Addr):Heap:=(zs4 t1 t2 h l1 l2).push { cls:= .type "zip",data:= .fields #[.none, .bool false, .bool false, .ref (zs2 t1 t2 h l1 l2).objs.size, .ref (zs3 t1 t2 h l1 l2).objs.size] }
theorem HF (t1 t2:Bool) (l1 l2:Addr) (xs ys:Array Value):
    Meets (Builtin.«zip.__new__» ⟨[.type "zip", .ref l1, .ref l2],[]⟩) (λ _ R s=>Bh t1 s.heap l1 xs/\Bh t2 s.heap l2 ys/\
      R (.ok (.ret (.ref (zs4 t1 t2 s.heap l1 l2).objs.size))) { s with heap:=zs5 t1 t2 s.heap l1 l2 }):=
  .of_wp λ prog w A R s h=>by
    obtain ⟨hp,g,d,tk,os⟩:=s;obtain ⟨m1,m2,h⟩:=h;have hsub:=sub_zip;have M1:Bh t1 (Shared.heap ⟨hp,g,d,tk,os⟩) l1 xs:=m1;have M2:Bh t2 (Shared.heap ⟨hp.push { cls:= .type (F6 t1),data:= .fields #[.ref l1, .int 0 0] },g,d,tk,os⟩) l2 ys:=BF m2 λ o e=>Heap.get?_push_of_some _ e
    wp_walk using Ft M1,Ft M2
    exact ⟨_,rfl,h⟩
theorem Jp {t1 t2:Bool} {l1 l2:Addr} {xs ys:Array Value} {Q:Value->Shared->Prop} (m1:Bh t1 s.heap l1 xs) (m2:Bh t2 s.heap l2 ys)
    (k:∀ h',ZipSt t1 t2 h' (s.heap.objs.size+4) (s.heap.objs.size+2) (s.heap.objs.size+3) s.heap.objs.size (s.heap.objs.size+1) l1 l2 0->
      (∀ c o,s.heap.get? c=some o->h'.get? c=some o)->Q (.ref (s.heap.objs.size+4)) { s with heap:=h' }):
    wpAny (model prog w) A (call (.type "zip") [.ref l1, .ref l2]) Q E s:=by
  refine callType_new F.called_zip (by decide) (F.typeCall_zip_2 _ _) (F.newCall_zip_2 _ _) (λ obj=>F.args_object_init_3 obj _ _) F.entry_zip_new (HF t1 t2 l1 l2 xs ys) ⟨m1,m2,?_⟩;have n1:(zs1 t1 s.heap l1).objs.size=s.heap.objs.size+1:=Heap.size_push ..;have n2:(zs2 t1 t2 s.heap l1 l2).objs.size=s.heap.objs.size+2:=by rw [Heap.size_push,n1]
  have n3:(zs3 t1 t2 s.heap l1 l2).objs.size=s.heap.objs.size+3:=by rw [Heap.size_push,n2]
  have n4:(zs4 t1 t2 s.heap l1 l2).objs.size=s.heap.objs.size+4:=by rw [Heap.size_push,n3]
  have g5:(zs5 t1 t2 s.heap l1 l2).get? (zs4 t1 t2 s.heap l1 l2).objs.size=some _:=Heap.get?_push_size _ rfl;have g4:(zs5 t1 t2 s.heap l1 l2).get? (zs3 t1 t2 s.heap l1 l2).objs.size=some _:=Heap.get?_push_of_some _ (Heap.get?_push_size _ rfl);have g3:(zs5 t1 t2 s.heap l1 l2).get? (zs2 t1 t2 s.heap l1 l2).objs.size=some _:=Heap.get?_push_of_some _ (Heap.get?_push_of_some _ (Heap.get?_push_size _ rfl));have up2:∀ c o,(zs2 t1 t2 s.heap l1 l2).get? c=some o->(zs5 t1 t2 s.heap l1 l2).get? c=some o:=λ c o e=>Heap.get?_push_of_some _ (Heap.get?_push_of_some _ (Heap.get?_push_of_some _ e));have s2:Bg t2 (zs5 t1 t2 s.heap l1 l2) (zs1 t1 s.heap l1).objs.size l2 0:=Az DV λ o e=>up2 _ o e;have s1:Bg t1 (zs5 t1 t2 s.heap l1 l2) s.heap.objs.size l1 0:=Az DV λ o e=>up2 _ o (Heap.get?_push_of_some _ e);show _/\_;rw [n2,n3,n4] at g5;rw [n1,n2] at g3;rw [n3] at g4;rw [n1] at s2;rw [n4];exact ⟨⟨_,g5,rfl⟩,k _ ⟨g5,g3,⟨_,_,g4⟩,s1,s2⟩ λ c o e=>up2 c o (Heap.get?_push_of_some _ (Heap.get?_push_of_some _ e))⟩
end
def SqS (tp:Bool) (K:PySem.W.Frag) (H:Hp) (a:Addr) (xs:List V):Prop:=if tp=true then SqT K H a xs else SqL K H a xs
theorem Bv {X:Cx} {pins:List (Addr × Obj)} {σ:St} {H:Hp} {s:Shared} {tp:Bool} {a:Addr} {xs:List V} (I:Inv X pins σ H s) (h:SqS tp X.K H a xs):∃ its:List Value,Vals xs its/\Bh tp s.heap a its.toArray:=by
  cases tp with
  | false=>
    obtain ⟨its,r,p,_⟩:=I.list (show SqL X.K H a xs from h);exact ⟨its,r,(show s.heap.IsList a its.toArray from p.isList)⟩
  | true=>
    obtain ⟨its,r,p,_⟩:=I.tuple (show SqT X.K H a xs from h);exact ⟨its,r,(show s.heap.IsTuple a its.toArray from p)⟩
theorem GH {X:Cx} {pins:List (Addr × Obj)} {σ:St} {H:Hp} {s:Shared} {tp:Bool} {a:Addr} {xs ys:List V} (I:Inv X pins σ H s) (h:SqS tp X.K H a xs) (h2:SqS tp X.K H a ys):xs=ys:=by
  cases tp with
  | false=>exact I.list_inj h h2
  | true=>exact I.tuple_inj h h2
def Izs (t1 t2:Bool) (K:PySem.W.Frag) (a b:Addr):It:=
  ⟨λ i H=>∃ xs ys x y,SqS t1 K H a xs/\SqS t2 K H b ys/\xs[i]?=some x/\ys[i]?=some y,
   λ i H v H'=>∃ p x y,H p=none/\v= .ref p/\H'=upd H p (.tup [x,y])/\(∀ xs,SqS t1 K H a xs->xs[i]?=some x)/\∀ ys,SqS t2 K H b ys->ys[i]?=some y,
   λ i H=>∃ xs ys,SqS t1 K H a xs/\SqS t2 K H b ys/\(xs.length<=i\/ys.length<=i)⟩
theorem La {P:Program} {w:World} {K:PySem.W.Frag} {elts:List Expr} {k:Nat} {pos:Pos} (t1 t2:Bool) (a b z TI TO i1 i2:Addr) (D:ZipApart z TI TO i1 i2 a b):
    Turn P w K (.Tuple elts k pos) (Izs t1 t2 K a b) [z,TI,TO,i1,i2] z (λ i h=>ZipSt t1 t2 h z TI TO i1 i2 a b i) where
  mem:=by simp
  obj:=λ i h st c hc=>by
    obtain ⟨hz,hTI,⟨x,y,hTO⟩,h1,h2⟩:=st;obtain ⟨o1,e1,d1⟩:=Ba h1;obtain ⟨o2,e2,d2⟩:=Ba h2;simp only [List.mem_cons,List.not_mem_nil,or_false] at hc;rcases hc with q | q | q | q | q
    · subst q;exact ⟨_,hz,λ v z=>by cases (show Data.fields _=Data.cell v from z)⟩
    · subst q;exact ⟨_,hTI,λ v z=>by cases (show Data.seq _ _=Data.cell v from z)⟩
    · subst q;exact ⟨_,hTO,λ v z=>by cases (show Data.seq _ _=Data.cell v from z)⟩
    · subst q;exact ⟨o1,e1,λ v z=>by rw [d1] at z;cases z⟩
    · subst q;exact ⟨o2,e2,λ v z=>by rw [d2] at z;cases z⟩
  keep:=λ i h h' st kp=>by
    obtain ⟨hz,hTI,⟨x,y,hTO⟩,h1,h2⟩:=st;exact ⟨kp z (by simp) _ hz,kp TI (by simp) _ hTI,⟨x,y,kp TO (by simp) _ hTO⟩,Az h1 λ o q=>kp i1 (by simp) o q,Az h2 λ o q=>kp i2 (by simp) o q⟩
  item:=by
    intro X hP hw hK hc i pins s σ H E I hf st hg;subst hP hw hK;obtain ⟨xs,ys,x,y,hq1,hq2,hx,hy⟩:=hg;obtain ⟨its,rv,p1⟩:=Bv I hq1;obtain ⟨its2,rv2,p2⟩:=Bv I hq2;obtain ⟨u,hu,ru⟩:=rv.get hx;obtain ⟨u2,hu2,ru2⟩:=rv2.get hy;have lt:∀ q∈[z,TI,TO,i1,i2],q<s.heap.objs.size:=λ q hq=>by
      obtain ⟨hz,hTI,⟨c,d,hTO⟩,h1,h2⟩:=id st;obtain ⟨_,e1,_⟩:=Ba h1;obtain ⟨_,e2,_⟩:=Ba h2;simp only [List.mem_cons,List.not_mem_nil,or_false] at hq;rcases hq with q' | q' | q' | q' | q'
      · subst q';exact Heap.lt_size hz
      · subst q';exact Heap.lt_size hTI
      · subst q';exact Heap.lt_size hTO
      · subst q';exact Heap.lt_size e1
      · subst q';exact Heap.lt_size e2
    have hT0:s.TypeIs (.ref z) "zip":=⟨_,st.hz,rfl⟩;unfold pyNext;refine wpAny_bind (wpAny_attempt (wpAny_callSpecial?_slot (name:=Str.ofString "__next__") hT0 F.slot_zip_next (wpAny_call_entry F.slot_zip_next hT0 F.entry_zip_next
      (Jj D st p1 p2 (x:=u) (y:=u2) (by simpa using hu) (by simpa using hu2) λ h' hz' hTO' h1' h2' hT hk=>wpAny_pure ?_) (F.args_zip_next_1 _))))
    have I0:=I.laid (h':=s.heap.push { cls:= .type "tuple",data:= .seq #[u,u2] }) (a:=s.heap.objs.size) (o:= .tup [x,y]) (t':=s.toks) (λ _ _ q=>Heap.get?_push_of_some _ q) (Nat.le_refl _)
      ⟨(by show 2<=sizeLine;decide),[u,u2], .cons ru (.cons ru2 .nil),⟨_,Heap.get?_push_size _ rfl,rfl,_,rfl⟩⟩
    have f0:∀ b∈[z,TI,TO,i1,i2],BP X pins (upd H s.heap.objs.size (.tup [x,y])) b:=λ b hb=>Ih (hf b hb) (Nat.ne_of_lt (lt b hb));have I1:=Inv.turnedL (t':=s.toks) (h':=h') [z,TI,TO,i1,i2] I0 f0 (λ b o hb q=>by
      rcases Heap.get?_push_cases (show (s.heap.push { cls:= .type "tuple",data:= .seq #[u,u2] }).get? b=some o from q) with ⟨q1,q2⟩ | q
      · rw [q1,q2];exact hT
      · exact hk b o (λ e=>hb (by simp [e])) (λ e=>hb (by simp [e])) (λ e=>hb (by simp [e])) (λ e=>hb (by simp [e])) q)
    refine ⟨.ref s.heap.objs.size,rfl,wpAny_letOwnedTupleGo_zip (s:={ s with heap:=h' }) hz' λ h3 hz3 sb=> ?_⟩;refine ⟨.ref s.heap.objs.size,_,Inv.turnedL (t':=s.toks) (h':=h3) [z,TI,TO,i1,i2] I1 f0 (λ b o hb q=>(sb.2 b λ e=>hb (by simp [e])).trans q),rfl,
      ⟨_,x,y,I.fresh,rfl,rfl,λ l hl=>by rw [GH I hl hq1];exact hx,λ l hl=>by rw [GH I hl hq2];exact hy⟩,
      ⟨hz3,(sb.2 TI D.TIz).trans (hk TI _ D.TIz D.TITO D.TIi1 D.TIi2 st.hTI),⟨u,u2,(sb.2 TO D.TOz).trans hTO'⟩,Az h1' λ o q=>(sb.2 i1 D.i1z).trans q,Az h2' λ o q=>(sb.2 i2 D.i2z).trans q⟩,λ b hb=>(f0 b hb).1⟩
  done:=by
    intro X hP hw hK hc i pins s σ H E I hf st hg;subst hP hw hK;obtain ⟨xs,ys,hq1,hq2,hx⟩:=hg;obtain ⟨its,rv,p1⟩:=Bv I hq1;obtain ⟨its2,rv2,p2⟩:=Bv I hq2;have hl:=rv.length;have hl2:=rv2.length;have hT0:s.TypeIs (.ref z) "zip":=⟨_,st.hz,rfl⟩;unfold pyNext;refine wpAny_bind (wpAny_attempt (wpAny_callSpecial?_slot (name:=Str.ofString "__next__") hT0 F.slot_zip_next (wpAny_call_entry F.slot_zip_next hT0 F.entry_zip_next
      (KS (I.ok.hd hc) D st p1 p2 (hx.elim (λ q=> .inl (by simp;omega)) λ q=> .inr (by simp;omega)) λ h' e eb he=> ?_) (F.args_zip_next_1 _))))
    obtain ⟨oe,eo,ce⟩:=he;refine wpAny_bind (wpAny_isInstance (T:="StopIteration") (b:=true) ⟨oe,eo,ce⟩ isSubtype_stop (wpAny_pure ?_));exact ⟨rfl,I.turnedL (t':=s.toks) [z,TI,TO,i1,i2] hf λ b o hb q=>eb b o (λ e=>hb (by simp [e])) (λ e=>hb (by simp [e])) (λ e=>hb (by simp [e])) (λ e=>hb (by simp [e])) q⟩
  self:=λ _ _ _ _ _ st h=>wpAny_pyIter_zip st.hz h
section
variable {X:Cx} {elts:List Expr} {k:Nat} {tpos:Pos} {K:PySem.W.Frag}
def iZs (K:PySem.W.Frag) (ta:TA):TI:=λ σ H R=>ta σ H λ vs H1=>∃ t1 t2 a b,vs=[.ref a, .ref b]/\(∃ xs,SqS t1 K H1 a xs)/\(∃ ys,SqS t2 K H1 b ys)/\R (Izs t1 t2 K a b) H1
theorem Mm {l m:Expr} {ta:TA} {p pos:Pos} (hg:Gl X "zip") (hm:X.mg "zip"=none) (ha:PA X [l,m] ta) (hK:X.K=K:=by rfl) (hs:starEach [l,m] X.env=[(false,eval l X.env),(false,eval m X.env)]:=by rfl) (hs2:starEach [m] X.env=[(false,eval m X.env)]:=by rfl):
    PI X (.Tuple elts k tpos) (.Call (.Name "zip" p) [l,m] [] pos) (iZs K ta):=by
  subst hK;intro pins s σ H R I h;refine Call_ (CT I hg hm JQ (PyProof.Rows.callWith_type1 (thn (ha pos pins s σ H _ I h) λ us s1 ⟨vs,H1,I1,r1,q1⟩=> ?_) (by rw [hs,hs2]) (by rw [hs2];rfl)));obtain ⟨t1,t2,a,b,e,⟨xs,hq⟩,⟨ys,hq2⟩,q⟩:=q1;subst e;cases r1 with
  | cons r rr=>
    cases rr with
    | cons r' rr=>
    cases rr;cases r;cases r';obtain ⟨its,rv,pl⟩:=Bv I1 hq;obtain ⟨its2,rv2,pl2⟩:=Bv I1 hq2;obtain ⟨oa,_,ea,_⟩:=C9 pl;obtain ⟨ob,_,eb,_⟩:=C9 pl2;refine Jp pl pl2 λ h' st hk=> ?_;refine wpAny_pyIter_zip st.hz ?_;have I2:=I1.kept (t':=s1.toks) hk;refine ⟨s1.heap.objs.size+4,_,_,_,H1,rfl,I2,La t1 t2 a b _ _ _ _ _ (PySem.W.ktu_apart s1.heap.objs.size a b (Heap.lt_size ea) (Heap.lt_size eb)),st,λ c hc=> ?_,q⟩;have hb':s1.heap.objs.size<=c:=by
      simp only [List.mem_cons,List.not_mem_nil,or_false] at hc;rcases hc with q | q | q | q | q <;> rw [q] <;> first | exact Nat.le_refl _ | exact Nat.le_add_right _ _
    exact I1.fpOk hb' (I1.hok.fresh hb')
end
section
variable {X:Cx} {K:PySem.W.Frag}
theorem A8:bootBuiltins "list"=some (.type "list"):=by decide +kernel
theorem CV:bootBuiltins "tuple"=some (.type "tuple"):=by decide +kernel
theorem Jr:bootBuiltins "min"=some (.builtin "min"):=by decide +kernel
theorem Gf:bootBuiltins "max"=some (.builtin "max"):=by decide +kernel
theorem Gr:bootBuiltins "sorted"=some (.builtin "sorted"):=by decide +kernel
def Kz (K:PySem.W.Frag):List V->Hp->VK->Prop:=λ xs H Q=>∃ (x:V) (p:Addr) (ns:List String) (t:Value) (b:Bool),xs=[x, .ref p]/\H p=some (.tup (ns.map V.ty))/\TyOf K H x t/\PySem.W.kitAny K t (ns.map Value.type)=some b/\Q (.bl b) H
theorem IQ:∀ {ns:List String} {us:List Value},Vals (ns.map V.ty) us->us=ns.map Value.type
  | [],us,r=>by cases r;rfl
  | n::ns,us,r=>by
    cases r with
    | cons r1 r2=>
      cases r1;rw [IQ r2];rfl
theorem Jb (hK:X.K=K:=by rfl):AS X (.builtin "isinstance") (Kz K):=by
  subst hK;intro pins s σ H xs us Q I r h;obtain ⟨x,p,ns,t,b,rfl,hp,ty,e,q⟩:=h;obtain ⟨u,c,rfl,rx,rc⟩:=IS r;cases rc;obtain ⟨_,its,rt,ot,e1,e2,nt,e3⟩:=(show ObjOk X.prog X.w H s.heap p (.tup (ns.map V.ty)) from I.hok p _ hp);have ei:=IQ rt;subst ei;have htp:s.heap.get? p=some ⟨.type "tuple",ot.dict, .seq (ns.map Value.type).toArray nt,ot.slots⟩:=by
    rw [e1];obtain ⟨c,d,da,sl⟩:=ot;simp only at e2 e3;rw [e2,e3]
  have fin:∀ tk,EP X pins σ Q (.bool b) { s with toks:=tk }:=λ tk=>⟨.bl b,H,I.tok tk,rfl,q⟩;cases ty with
  | non=>cases (show u=Value.none from rx);exact PySem.W.kia_tup PySem.W.kitx_none I.kIn True.intro htp e (λ z=>nomatch z) fin
  | bl y=>cases (show u=Value.bool y from rx);exact PySem.W.kia_tup PySem.W.kitx_bool I.kIn True.intro htp e (λ z=>nomatch z) fin
  | int i=>obtain ⟨t,q⟩:=(show ∃ t,u=Value.int i t from rx);cases q;exact PySem.W.kia_tup PySem.W.kitx_int I.kIn True.intro htp e (λ z=>nomatch z) fin
  | str y=>obtain ⟨t,q⟩:=(show ∃ t,u=Value.str y t from rx);cases q;exact PySem.W.kia_tup PySem.W.kitx_str I.kIn True.intro htp e (λ z=>nomatch z) fin
  | flt y=>obtain ⟨t,q⟩:=(show ∃ t,u=Value.float y t from rx);cases q;exact PySem.W.kia_tup PySem.W.kitx_float I.kIn True.intro htp e (λ z=>nomatch z) fin
  | @lst a xs ea=>
    cases (show u=Value.ref a from rx);obtain ⟨_,_,n,_,h1⟩:=(show ObjOk X.prog X.w H s.heap a (.lst xs) from I.hok a _ ea);exact PySem.W.kia_tup PySem.W.kitx_list I.kIn ⟨_,h1,rfl⟩ htp e (λ z=>nomatch z) fin
  | @frz a ob xs ea=>
    cases (show u=Value.ref a from rx);obtain ⟨_,_,_,n,_,h1⟩:=(show ObjOk X.prog X.w H s.heap a (.frz ob (.lst xs)) from I.hok a _ ea);exact PySem.W.kia_tup PySem.W.kitx_list I.kIn ⟨_,h1,rfl⟩ htp e (λ z=>nomatch z) fin
  | @tup a xs ea=>
    cases (show u=Value.ref a from rx);obtain ⟨_,_,_,p⟩:=(show ObjOk X.prog X.w H s.heap a (.tup xs) from I.hok a _ ea);obtain ⟨o,h1,h2,_⟩:=p;exact PySem.W.kia_tup PySem.W.kitx_tuple I.kIn ⟨o,h1,h2⟩ htp e (λ z=>nomatch z) fin
  | @dK a kvs ea=>
    cases (show u=Value.ref a from rx);obtain ⟨_,_,vs,_,p⟩:=(show ObjOk X.prog X.w H s.heap a (.dK kvs) from I.hok a _ ea);obtain ⟨o,es,ep,h1,h2,_⟩:=p;exact PySem.W.kia_tup PySem.W.kitx_dict I.kIn ⟨o,h1,h2.1⟩ htp e (λ z=>nomatch z) fin
  | @dT a kvs ea=>
    cases (show u=Value.ref a from rx);obtain ⟨_,_,xs,_,o,es,ep,h1,h2,_⟩:=(show ObjOk X.prog X.w H s.heap a (.dT kvs) from I.hok a _ ea);exact PySem.W.kia_tup PySem.W.kitx_dict I.kIn ⟨o,h1,h2.1⟩ htp e (λ z=>nomatch z) fin
  | @ins a C dx fs ea cl ha hn htk hm=>
    cases (show u=Value.ref a from rx);obtain ⟨mA,O,_⟩:=DI I.hok ea;obtain ⟨od,J,_⟩:=O.look;exact PySem.W.kia_tup (PySem.W.kitx_own (cl.get _) cl.hd ha hn htk hm) I.kIn J htp e (λ z=>nomatch z) fin
theorem GK {es:List Expr} {k:Nat} {t:TGs} {n:Nat} {pos:Pos} (hc:X.calm=true) (h:PGs X es t) (hK:X.K=K:=by rfl)
    (hn:(assignEach es X.env).length=n:=by rfl) (hst:(assignEach es X.env).findIdx? (·.1)=none:=by rfl):PG X (.Tuple es k pos) (Fh K n t):=by
  subst hK;exact KA hc h hn hst
variable {scope:Scope} {fr:List (Str × Nat)}
theorem IB {x y:Str} {px py pt:Pos} {k:Nat} (h:CJ X.env.scope X.N scope [x,y] fr=true) (hc:X.calm=true) (C:Addr) (ex:List Addr) (s:Shared) (H:Hp) (hK:X.K=K:=by rfl):
    PG (AI X scope [x,y] fr C ex s H) (.Tuple [.Name x px, .Name y py] k pt) (Fh K 2 (Be (AA 0) (Be (AA 1) FR))):=by
  subst hK;exact KA (X:=AI X scope [x,y] fr C ex s H) hc (AZ (Fv h rfl C ex s H) (AZ (Fv h rfl C ex s H) DH))
theorem Fd {elt iter:Expr} {x y:Str} {px py pt:Pos} {k:Nat} {ifs:List Expr} {pos:Pos} {wi:TI} {tc:TT} {te:TE} (hi:PI X (.Tuple [.Name x px, .Name y py] k pt) iter wi)
    (ht:∀ C ex s H,PTs (AI X scope [x,y] (B5 X.N scope) C ex s H) ifs tc) (he:∀ C ex s H,PE (AI X scope [x,y] (B5 X.N scope) C ex s H) elt te) (hK:X.K=K:=by rfl)
    (hb:CJ X.env.scope X.N scope [x,y] (B5 X.N scope)=true:=by with_unfolding_all rfl) (hc:X.calm=true:=by rfl)
    (hs:∀ x,foldedSetIterable iter X.env x=pure x:=by intro _;rfl):PE X (.ListComp elt [⟨.Tuple [.Name x px, .Name y py] k pt,iter,ifs,0⟩] scope pos) (Dj wi [x,y] (B5 X.N scope) (Fh K 2 (Be (AA 0) (Be (AA 1) FR))) tc te):=
  GW hc (.of hb) hi (λ C ex s H=>IB hb hc C ex s H hK) ht he hs
theorem Hj {i:Nat} {v x y:Str} {pv px py pt spos:Pos} {k:Nat} {elt iter:Expr} {ifs:List Expr} {pos:Pos} {wi:TI} {tc:TT} {te:TE} (hN:X.N.Nodup) (hix:X.N[i]?=some v) (hx:Loc X.env.scope v) (hi:PI X (.Tuple [.Name x px, .Name y py] k pt) iter wi)
    (ht:∀ C ex s H,PTs (AI X scope [x,y] (B5 X.N scope) C ex s H) ifs tc) (he:∀ C ex s H,PE (AI X scope [x,y] (B5 X.N scope) C ex s H) elt te) (hK:X.K=K:=by rfl)
    (hb:CJ X.env.scope X.N scope [x,y] (B5 X.N scope)=true:=by with_unfolding_all rfl) (hc:X.calm=true:=by rfl)
    (hsw:swapsWith (.ListComp elt [⟨.Tuple [.Name x px, .Name y py] k pt,iter,ifs,0⟩] scope pos) (some (.Name v pv)) spos.line X.env=pure true:=by rfl)
    (hf:X.fn v=true\/X.env.scope.names.lookup v=some .local:=by first | exact .inl rfl | exact .inr rfl | assumption)
    (hs:∀ x,foldedSetIterable iter X.env x=pure x:=by intro _;rfl):
    PS X (.Assign [.Name v pv] (.ListComp elt [⟨.Tuple [.Name x px, .Name y py] k pt,iter,ifs,0⟩] scope pos) spos) (Jn (Dj wi [x,y] (B5 X.N scope) (Fh K 2 (Be (AA 0) (Be (AA 1) FR))) tc te) (AA i)):=
  Ja hN hix hx hc (.of hb) hi (λ C ex s H=>IB hb hc C ex s H hK) ht he hsw hf hs
end
section
variable {K:PySem.W.Frag} {D:Addr} {σ0:St} {tc:TT} {te:TE} {Q:VK} {H:Hp}
theorem Lp {t1 t2:Bool} {a b:Addr} {xs zs:List V} (hlen:xs.length=zs.length) (Pv:Nat->List V->Hp->Prop) (h0:Pv 0 [] (upd H D (.lst [])))
    (hl:∀ i ys H,i<=xs.length->Pv i ys H->SqS t1 K H a xs/\SqS t2 K H b zs)
    (hs:∀ i x z ys H p,xs[i]?=some x->zs[i]?=some z->Pv i ys H->H p=none->Kp σ0 ((σ0.set 0 (some x)).set 1 (some z))/\tc ((σ0.set 0 (some x)).set 1 (some z)) (upd H p (.tup [x,z])) λ b H3=>
      if b=true then te ((σ0.set 0 (some x)).set 1 (some z)) H3 λ y H4=>H4 D=some (.lst ys)/\ys.length<sizeLine/\Pv (i+1) (ys++[y]) (upd H4 D (.lst (ys++[y]))) else Pv (i+1) ys H3)
    (hd:∀ ys H,Pv xs.length ys H->Q (.ref D) H):
    CM (Izs t1 t2 K a b) σ0 (Fh K 2 (Be (AA 0) (Be (AA 1) FR))) tc te Q H D:=by
  refine ⟨λ i m ys H=>m=xs.length - i/\i<=xs.length/\Pv i ys H,⟨_,rfl,Nat.zero_le _,h0⟩,?_⟩;rintro i m ys H ⟨rfl,hi,p⟩;obtain ⟨q1,q2⟩:=hl i ys H hi p;by_cases hlt:i<xs.length
  · refine .inr ⟨⟨xs,zs,xs[i],zs[i]'(by omega),q1,q2,by simp [hlt],by simp⟩,Pv (i+1),λ ys' H' p'=>⟨xs.length - (i+1),by omega,rfl,hlt,p'⟩,λ x H' y=> ?_⟩;obtain ⟨pp,v,z,hp,rfl,rfl,hv,hz⟩:=y;exact ⟨pp,_,rfl,SqT.of Ag,rfl,_,_,rfl,_,_,rfl,rfl,hs i v z ys H pp (hv xs q1) (hz zs q2) p hp⟩
  · have e:i=xs.length:=by omega
    subst e;exact .inl ⟨⟨xs,zs,q1,q2, .inl (Nat.le_refl _)⟩,hd ys H p⟩
end
inductive Dt where
  | non | bl (b:Bool) | int (i:Int) | str (z:Str) | lst (xs:List Dt) | tup (xs:List Dt)
inductive Rp (H:Hp) (F:Addr->Prop):Nat->V->Dt->Prop where
  | non {n:Nat}:Rp H F n .non .non
  | bl {n:Nat} (b:Bool):Rp H F n (.bl b) (.bl b)
  | int {n:Nat} (i:Int):Rp H F n (.int i) (.int i)
  | str {n:Nat} (z:Str):Rp H F n (.str z) (.str z)
  | lst {n:Nat} {a:Addr} {vs:List V} {ds:List Dt} (h:H a=some (.lst vs)) (f:F a) (b:vs.length<=100000) (l:vs.length=ds.length) (e:∀ (i:Nat) (v:V) (d:Dt),vs[i]?=some v->ds[i]?=some d->Rp H F n v d):Rp H F (n+1) (.ref a) (.lst ds)
  | tup {n:Nat} {a:Addr} {vs:List V} {ds:List Dt} (h:H a=some (.tup vs)) (b:vs.length<=100000) (l:vs.length=ds.length) (e:∀ (i:Nat) (v:V) (d:Dt),vs[i]?=some v->ds[i]?=some d->Rp H F n v d):Rp H F (n+1) (.ref a) (.tup ds)
theorem Rp.mono {H H':Hp} {F F':Addr->Prop} {n:Nat} {v:V} {d:Dt} (r:Rp H F n v d) (k:∀ a o,H a=some o->(∀ xs,o= .lst xs->F a)->H' a=some o) (f:∀ a,F a->F' a):Rp H' F' n v d:=by
  induction r with
  | non=>exact .non
  | bl b=>exact .bl b
  | int i=>exact .int i
  | str z=>exact .str z
  | lst h p b l e ih=>exact .lst (k _ _ h λ _ _=>p) (f _ p) b l λ i v d h1 h2=>ih i v d h1 h2
  | tup h b l e ih=>exact .tup (k _ _ h λ xs q=>by cases q) b l λ i v d h1 h2=>ih i v d h1 h2
theorem Rp.same {H H':Hp} {F:Addr->Prop} {n:Nat} {v:V} {d:Dt} (r:Rp H F n v d) (s:Same H H'):Rp H' F n v d:=r.mono (λ a o h _=>s a o h) λ _ h=>h
theorem Rp.imp {H:Hp} {F F':Addr->Prop} {n:Nat} {v:V} {d:Dt} (r:Rp H F n v d) (f:∀ a,F a->F' a):Rp H F' n v d:=r.mono (λ a o h _=>h) f
abbrev FT:Addr->Prop:=λ _=>True
abbrev FN (H:Hp):Addr->Prop:=λ a=>H a=none
def Ml (ns:List Int):Dt:= .lst (ns.map .int)
theorem IF {H:Hp} {F:Addr->Prop} {n:Nat} {v:V} {ns:List Int} (r:Rp H F n v (Ml ns)):∃ a,v= .ref a/\H a=some (.lst (ns.map V.int))/\F a:=by
  unfold Ml at r;cases r with
  | @lst n a vs _ h f b l e=>
    refine ⟨a,rfl,?_,f⟩;rw [h];congr 2;refine List.ext_getElem (by simpa using l) λ i h1 h2=> ?_;have h2':i<ns.length:=by simpa using h2
    have:=e i vs[i] (.int ns[i]) (by simp [h1]) (by simp [h2']);cases hv:vs[i] <;> rw [hv] at this <;> cases this;simp
section
variable {t u:TS} {D:Ends} {σ:St} {H:Hp} {te ta tb tk:TE} {tt tu:TT} {g:TG} {Q:VK} {QT:Bool->Hp->Prop} {QA:List V->Hp->Prop} {i:Nat} {v x y:V} {r:R2} {tr:TA} {K:PySem.W.Frag}
theorem L7 (h:D.nx σ H):ME D σ H:=h
theorem NE (h:te σ H λ x H1=>g x σ H1 D.nx):Jn te g D σ H:=h
theorem Lx {QS:St->Hp->Prop} (h:QS (σ.set i (some v)) H):AA i v σ H QS:=h
theorem NI (e:σ[i]?=some (some v)) (h:Q v H):Nq i σ H Q:=⟨v,e,h⟩
theorem Qq (h:Q v H):tC v σ H Q:=h
theorem OM (h:ta σ H λ x H1=>tb σ H1 λ y H2=>r x y H2 Q):tOp r ta tb σ H Q:=h
theorem O7 {ru:V->Hp->VK->Prop} (h:ta σ H λ x H1=>ru x H1 Q):tUn ru ta σ H Q:=h
theorem Ak {C:Int->Int->Prop} {gg:Int->Int->V} {a b:Int} (c:C a b) (h:Q (gg a b) H):rI C gg (.int a) (.int b) H Q:=⟨a,b,rfl,rfl,c,h⟩
theorem Np {gg:Int->Int->V} {a b:Int} (h:Q (gg a b) H):rI0 gg (.int a) (.int b) H Q:=⟨a,b,rfl,rfl,h⟩
theorem Ot {gg:Int->V} {a:Int} (h:Q (gg a) H):rU gg (.int a) H Q:=⟨a,rfl,h⟩
theorem N0 {a b:Int} (h:Q (.bl (decide (a=b))) H):rEq (.int a) (.int b) H Q:=⟨rfl,by rw [show decide (V.int a=V.int b)=decide (a=b) by rw [Bool.eq_iff_iff];simp];exact h⟩
theorem NZ {a b:Int} (h:Q (.bl (!decide (a=b))) H):rNe (.int a) (.int b) H Q:=⟨rfl,by rw [show decide (V.int a=V.int b)=decide (a=b) by rw [Bool.eq_iff_iff];simp];exact h⟩
theorem M5 {a b:Str} (h:Q (.bl (decide (a=b))) H):rEq (.str a) (.str b) H Q:=⟨rfl,by rw [show decide (V.str a=V.str b)=decide (a=b) by rw [Bool.eq_iff_iff];simp];exact h⟩
theorem Nd {a b:Bool} (h:Q (.bl (decide (a=b))) H):rEq (.bl a) (.bl b) H Q:=⟨rfl,by rw [show decide (V.bl a=V.bl b)=decide (a=b) by rw [Bool.eq_iff_iff];simp];exact h⟩
theorem Nk {a b:Bool} (h:Q (.bl (!decide (a=b))) H):rNe (.bl a) (.bl b) H Q:=⟨rfl,by rw [show decide (V.bl a=V.bl b)=decide (a=b) by rw [Bool.eq_iff_iff];simp];exact h⟩
theorem Ng (h:tt σ H λ c H1=>QT (!c) H1):On tt σ H QT:=h
theorem LU (h:te σ H λ x H'=>∃ k,x= .bl k/\QT k H'):Mp te σ H QT:=h
theorem Om (h:te σ H λ x H'=>∃ k,x= .bl k/\QT k H'):tB te σ H QT:=h
theorem Oz {b:Bool} {R:Bool->Prop} (h:R b):∃ k,V.bl b= .bl k/\R k:=⟨b,rfl,h⟩
theorem OU (h:tt σ H λ c H1=>if c=true then QT true H1 else tu σ H1 QT):tOr tt tu σ H QT:=h
theorem M4 (h:tt σ H λ c H1=>if c=true then tu σ H1 QT else QT false H1):OI tt tu σ H QT:=h
theorem LC (h:ta σ H λ x H1=>∃ c,x= .bl c/\if c=true then tb σ H1 Q else Q (.bl false) H1):MF ta tb σ H Q:=h
theorem MN (h:ta σ H λ x H1=>∃ c,x= .bl c/\if c=true then Q (.bl true) H1 else tb σ H1 Q):OS ta tb σ H Q:=h
theorem L4 (h:ta σ H λ x H1=>∃ c,x= .bl c/\Q (.bl (!c)) H1):Mj ta σ H Q:=h
theorem MU (h:tt σ H λ b H1=>if b=true then t D σ H1 else u D σ H1):N8 tt t u D σ H:=h
theorem OT (h:tt σ H λ c H1=>if c=true then ta σ H1 Q else tb σ H1 Q):tIf tt ta tb σ H Q:=h
theorem M6 (h:te σ H D.rt):Oj te D σ H:=h
theorem Lk (h:te σ H λ _ H1=>D.nx σ H1):My te D σ H:=h
theorem N1 (h:QA [] H):LW σ H QA:=h
theorem LB (h:te σ H λ x H1=>tr σ H1 λ xs H2=>QA (x::xs) H2):Mr te tr σ H QA:=h
theorem NR (h:tr σ H λ xs H1=>xs.length<=sizeLine/\∀ p,H1 p=none->Q (.ref p) (upd H1 p (.lst xs))):Oo tr σ H Q:=h
theorem Nt (h:tr σ H λ xs H1=>xs.length<=sizeLine/\∀ p,H1 p=none->Q (.ref p) (upd H1 p (.tup xs))):Of tr σ H Q:=h
theorem Ox {rr:List V->Hp->VK->Prop} (h:tr σ H λ vs H1=>rr vs H1 Q):tCB rr tr σ H Q:=h
theorem Mf {sp:Sp} {E:XK} (h:tr σ H λ vs H1=>sp vs H1 Q E):Iz sp [] E tr σ H Q:=by
  unfold Iz;simpa using h
theorem OR {rs:V->Option Int->Option Int->Hp->VK->Prop} {tl th:TO} (h:te σ H λ x H1=>tl σ H1 λ l H2=>th σ H2 λ u H3=>rs x l u H3 Q):tSl rs te tl th σ H Q:=h
theorem Lu {QO:Option Int->Hp->Prop} (h:te σ H λ x H1=>∃ i,x= .int i/\QO (some i) H1):Mu te σ H QO:=h
theorem Jx {QO:Option Int->Hp->Prop} (h:QO none H):Il σ H QO:=h
theorem NY {a:Int} {R:Int->Prop} (h:R a):∃ k,V.int a= .int k/\R k:=⟨a,rfl,h⟩
theorem J1 {z:Str} {lo hi:Option Int} (c:z.length<=sizeLine) (h:Q (.str (Txt.slice z lo hi)) H):Oq (.str z) lo hi H Q:=⟨z,rfl,c,h⟩
theorem Er {p:Addr} {xs:List V} {lo hi:Option Int} (c:SqL K H p xs) (h:∀ q,H q=none->Q (.ref q) (upd H q (.lst (Bq xs lo hi)))):Nm K (.ref p) lo hi H Q:=⟨p,xs,rfl,c,h⟩
theorem Bx {p:Addr} {xs:List V} (c:SqL K H p xs) (h:Q (.int xs.length) H):LX K [.ref p] H Q:=⟨_,_,rfl, .inl ⟨xs,c,rfl⟩,h⟩
theorem Ir {p:Addr} {xs:List V} (c:SqT K H p xs) (h:Q (.int xs.length) H):LX K [.ref p] H Q:=⟨_,_,rfl, .inr ⟨xs,c,rfl⟩,h⟩
theorem N5 {p:Addr} {ns:List Int} (c:SqL K H p (ns.map V.int)) (h:Q (.int ns.sum) H):Ow K [.ref p] H Q:=⟨p,ns,rfl,c,h⟩
theorem Fk {p:Addr} {bs:List Bool} (c:SqL K H p (bs.map V.bl)) (h:Q (.bl (bs.all id)) H):N9 K [.ref p] H Q:=⟨p,bs,rfl,c,h⟩
theorem Cm {n:String} {ty:Value} {b:Bool} (c:TyOf K H x ty) (e:PySem.W.kitOne K ty (.type n)=some b) (h:Q (.bl b) H):Mn K [x, .ty n] H Q:=⟨x,n,ty,b,rfl,c,e,h⟩
theorem Bk {p:Addr} {xs:List V} {k:Int} (c:SqL K H p xs) (e:atI xs k=some v) (h:Q v H):NW K (.ref p) (.int k) H Q:=⟨p,xs,k,v,rfl,rfl,c,e,h⟩
theorem Do {p:Addr} {xs:List V} {k:Int} (c:SqT K H p xs) (e:atI xs k=some v) (h:Q v H):MV K (.ref p) (.int k) H Q:=⟨p,xs,k,v,rfl,rfl,c,e,h⟩
theorem NG {xs:List V} {B:Prop} (c:xs.length<=1000) (h:B):xs.length<=sizeLine/\B:=⟨Nat.le_trans c (by decide),h⟩
end
theorem Bw {p A B:Prop} [Decidable p] (h1:p->A) (h2:¬ p->B):if decide p=true then A else B:=by
  by_cases h:p
  · rw [if_pos (decide_eq_true h)];exact h1 h
  · rw [if_neg (λ q=>h (of_decide_eq_true q))];exact h2 h
theorem Ii {p A B:Prop} [Decidable p] (h1:¬ p->A) (h2:p->B):if (!decide p)=true then A else B:=by
  by_cases h:p
  · rw [decide_eq_true h];exact Hz (h2 h)
  · rw [decide_eq_false h];exact KJ (h1 h)
theorem PR {b:Bool} {A B:Prop} (h1:b=true->A) (h2:b=false->B):if b=true then A else B:=by
  cases b with
  | true=>exact KJ (h1 rfl)
  | false=>exact Hz (h2 rfl)
def tyD:Dt->String | .non=>"NoneType" | .bl _=>"bool" | .int _=>"int" | .str _=>"str" | .lst _=>"list" | .tup _=>"tuple"
def CW:Dt->Bool | .lst _=>true | _=>false
def BQ:Dt->Bool | .tup _=>true | _=>false
def P8:Dt->Bool | .bl _=>true | _=>false
theorem Rp.ty {K:PySem.W.Frag} {H:Hp} {F:Addr->Prop} {n:Nat} {v:V} {d:Dt} (r:Rp H F n v d):TyOf K H v (.type (tyD d)):=by
  cases r with
  | non=>exact .non
  | bl b=>exact .bl b
  | int i=>exact .int i
  | str z=>exact .str z
  | lst h _ _ _ _=>exact .lst h
  | tup h _ _ _=>exact .tup h
theorem JM:Ck "NoneType" "list"=some false/\Ck "bool" "list"=some false/\Ck "int" "list"=some false/\Ck "str" "list"=some false/\Ck "list" "list"=some true/\Ck "tuple" "list"=some false:=by decide +kernel
theorem Gm {K:PySem.W.Frag} (d:Dt):PySem.W.kitOne K (.type (tyD d)) (.type "list")=some (CW d):=by
  obtain ⟨h1,h2,h3,h4,h5,h6⟩:=JM;cases d with
  | non=>exact kb h1
  | bl _=>exact kb h2
  | int _=>exact kb h3
  | str _=>exact kb h4
  | lst _=>exact kb h5
  | tup _=>exact kb h6
theorem HU:Ck "NoneType" "tuple"=some false/\Ck "bool" "tuple"=some false/\Ck "int" "tuple"=some false/\Ck "str" "tuple"=some false/\Ck "list" "tuple"=some false/\Ck "tuple" "tuple"=some true:=by decide +kernel
theorem K5 {K:PySem.W.Frag} (d:Dt):PySem.W.kitOne K (.type (tyD d)) (.type "tuple")=some (BQ d):=by
  obtain ⟨h1,h2,h3,h4,h5,h6⟩:=HU;cases d with
  | non=>exact kb h1
  | bl _=>exact kb h2
  | int _=>exact kb h3
  | str _=>exact kb h4
  | lst _=>exact kb h5
  | tup _=>exact kb h6
theorem Jz:Ck "NoneType" "bool"=some false/\Ck "bool" "bool"=some true/\Ck "int" "bool"=some false/\Ck "str" "bool"=some false/\Ck "list" "bool"=some false/\Ck "tuple" "bool"=some false:=by decide +kernel
theorem Iu {K:PySem.W.Frag} (d:Dt):PySem.W.kitOne K (.type (tyD d)) (.type "bool")=some (P8 d):=by
  obtain ⟨h1,h2,h3,h4,h5,h6⟩:=Jz;cases d with
  | non=>exact kb h1
  | bl _=>exact kb h2
  | int _=>exact kb h3
  | str _=>exact kb h4
  | lst _=>exact kb h5
  | tup _=>exact kb h6
theorem Hd {K:PySem.W.Frag} {H:Hp} {Q:VK} {x:V} {p:Addr} {ns:List String} {t:Value} {b:Bool} (hp:H p=some (.tup (ns.map V.ty))) (c:TyOf K H x t) (e:PySem.W.kitAny K t (ns.map Value.type)=some b) (h:Q (.bl b) H):Kz K [x, .ref p] H Q:=⟨x,p,ns,t,b,rfl,hp,c,e,h⟩
def DZ:Dt->List Dt | .lst ds=>ds | .tup ds=>ds | _=>[]
theorem Rp.seq {K:PySem.W.Frag} {H:Hp} {F:Addr->Prop} {n:Nat} {v:V} {d:Dt} (r:Rp H F n v d) (h:(CW d||BQ d)=true):
    ∃ m a vs,n=m+1/\v= .ref a/\SqS (BQ d) K H a vs/\vs.length=(DZ d).length/\vs.length<=100000/\∀ (i:Nat) (x:V) (e:Dt),vs[i]?=some x->(DZ d)[i]?=some e->Rp H F m x e:=by
  cases r with
  | @lst m a vs ds q f b l e=>exact ⟨m,a,vs,rfl,rfl,(show SqL K H a vs from SqL.of q),l,b,e⟩
  | @tup m a vs ds q b l e=>exact ⟨m,a,vs,rfl,rfl,(show SqT K H a vs from SqT.of q),l,b,e⟩
  | non=>cases h
  | bl _=>cases h
  | int _=>cases h
  | str _=>cases h
theorem Gq {K:PySem.W.Frag} {H:Hp} {Q:VK} {tp:Bool} {p:Addr} {xs:List V} (c:SqS tp K H p xs) (h:Q (.int xs.length) H):LX K [.ref p] H Q:=by
  cases tp with
  | false=>exact Bx c h
  | true=>exact Ir c h
theorem SqS.same {K:PySem.W.Frag} {H H':Hp} {tp:Bool} {p:Addr} {xs:List V} (c:SqS tp K H p xs) (s:Same H H'):SqS tp K H' p xs:=by
  cases tp with
  | false=>exact (show SqL K H' p xs from s.seq c)
  | true=>
    rcases (show SqT K H p xs from c) with (q | ⟨o,q⟩) | q
    · exact (show SqT K H' p xs from .inl (.inl (s _ _ q)))
    · exact (show SqT K H' p xs from .inl (.inr ⟨o,s _ _ q⟩))
    · exact (show SqT K H' p xs from .inr q)
theorem Ai {H:Hp} {p:Addr} {o:HO} (h:H p=none):Same H (upd H p o):=λ b u e=>by rw [Av (AD e h)];exact e
theorem C2 {H H':Hp} {D:Addr} {o:HO} (s:Same H H') (h:H D=none):Same H (upd H' D o):=λ b u e=>by rw [Av (AD e h)];exact s b u e
theorem Jg {v:V} {d:Dt} {H:Hp} {F:Addr->Prop} {n:Nat} (r:Rp H F n v d) (h:(CW d||BQ d)=false):NA v v=true:=by
  cases r with
  | non=>rfl
  | bl _=>rfl
  | int _=>rfl
  | str _=>rfl
  | lst _ _ _ _ _=>cases h
  | tup _ _ _ _=>cases h
theorem Ld {v u:V} {d:Dt} {H:Hp} {F:Addr->Prop} {n:Nat} (r:Rp H F n v d) (r2:Rp H F n u d) (h:(CW d||BQ d)=false):v=u:=by
  cases r with
  | non=>cases r2;rfl
  | bl _=>cases r2;rfl
  | int _=>cases r2;rfl
  | str _=>cases r2;rfl
  | lst _ _ _ _ _=>cases h
  | tup _ _ _ _=>cases h
structure SrcOk (J:It) (g:TG) (σ0:St) (H:Hp) (n:Nat) (st:Nat->St):Prop where
  go:∀ i H',i<n->Same H H'->J.go i H'
  stop:∀ H',Same H H'->J.stop n H'
  yld:∀ i H' x H'' (R:St->Hp->Prop),i<n->Same H H'->J.yld i H' x H''->(∀ H3,Same H' H3->R (st i) H3)->g x σ0 H'' R
  kp:∀ i,i<n->Kp σ0 (st i)
section
variable {J:It} {g:TG} {σ0:St} {H:Hp} {n:Nat} {st:Nat->St} {tc:TT} {te:TE} {Q:VK} {D:Addr}
theorem Rp.off {H:Hp} {F:Addr->Prop} {m:Nat} {v:V} {d:Dt} {D:Addr} {xs:List V} {o:HO} (r:Rp H F m v d) (hD:H D=some (.lst xs)) (hF:¬ F D):Rp (L2.upd H D o) F m v d:=by
  refine r.mono (λ a u e q=> ?_) λ _ h=>h;have n:a≠D:=λ z=>by
    subst z;rw [hD] at e;cases e;exact hF (q _ rfl)
  rw [Av n];exact e
theorem Gb {m:Nat} {p:Nat->Bool} {G:Nat->Dt} (S:SrcOk J g σ0 H n st) (hD:H D=none) (hn:n<=100000)
    (ht:∀ i H' (R:Bool->Hp->Prop),i<n->Same H H'->(∀ H3,Same H' H3->R (p i) H3)->tc (st i) H' R)
    (he:∀ i H' (R:VK),i<n->p i=true->Same H H'->(∀ H3 y,Same H' H3->Rp H3 (FN H') m y (G i)->R y H3)->te (st i) H' R)
    (hd:∀ H' ys,Same H H'->H' D=some (.lst ys)->Rp H' (FN H) (m+1) (.ref D) (.lst (((List.range n).filter p).map G))->Q (.ref D) H'):
    CM J σ0 g tc te Q H D:=by
  refine ⟨λ i k ys H'=>k=n - i/\i<=n/\Same H H'/\H' D=some (.lst ys)/\ys.length=(((List.range i).filter p).map G).length/\∀ (j:Nat) (y:V) (d:Dt),ys[j]?=some y->(((List.range i).filter p).map G)[j]?=some d->Rp H' (λ a=>H a=none/\a≠D) m y d,
    ⟨_,rfl,Nat.zero_le _,C2 (Same.refl _) hD,Ag,rfl,λ j y d q=>by simp at q⟩,?_⟩
  rintro i k ys H1 ⟨rfl,hi,s1,hl,len,el⟩;have bnd:∀ i,(((List.range i).filter p).map G).length<=i:=λ i=>by
    rw [List.length_map];exact Nat.le_trans (List.length_filter_le _ _) (by simp)
  by_cases hlt:i<n
  · refine .inr ⟨S.go i H1 hlt s1,λ ys' H'=>Same H H'/\H' D=some (.lst ys')/\ys'.length=(((List.range (i+1)).filter p).map G).length/\∀ (j:Nat) (y:V) (d:Dt),ys'[j]?=some y->(((List.range (i+1)).filter p).map G)[j]?=some d->Rp H' (λ a=>H a=none/\a≠D) m y d,
      λ ys' H' q=>⟨n - (i+1),by omega,rfl,hlt,q⟩,λ x H2 y=> ?_⟩
    refine S.yld i H1 x H2 _ hlt s1 y λ H3 s3=>⟨S.kp i hlt,?_⟩;refine ht i H3 _ hlt (s1.trans s3) λ H4 s4=> ?_;have hl4:H4 D=some (.lst ys):=s4 _ _ (s3 _ _ hl);have s14:Same H H4:=s1.trans (s3.trans s4);cases hp:p i with
    | false=>
      refine Hz ⟨s14,hl4,?_,?_⟩
      · rw [List.range_succ,List.filter_append,List.filter_cons,hp];simpa using len
      · intro j y d h1 h2;have e:((List.range (i+1)).filter p).map G=((List.range i).filter p).map G:=by
          rw [List.range_succ,List.filter_append,List.filter_cons,hp];simp
        rw [e] at h2;exact (el j y d h1 h2).same (s3.trans s4)
    | true=>
      refine KJ ?_;refine he i H4 _ hlt hp s14 λ H5 y s5 ry=> ?_;have hl5:H5 D=some (.lst ys):=s5 _ _ hl4;have e:((List.range (i+1)).filter p).map G=((List.range i).filter p).map G++[G i]:=by
        rw [List.range_succ,List.filter_append,List.filter_cons,hp];simp
      refine ⟨hl5,?_,?_,Ag,?_,?_⟩
      · have:=bnd i;exact Nat.lt_of_le_of_lt (by omega:ys.length<=100000) (by decide)
      · exact C2 (s14.trans s5) hD
      · rw [e,List.length_append,List.length_append,len];rfl
      · intro j z d h1 h2;rw [e] at h2;have nF:¬ (H D=none/\D≠D):=λ q=>q.2 rfl;by_cases hj:j<ys.length
        · rw [List.getElem?_append_left hj] at h1;rw [List.getElem?_append_left (by omega)] at h2;exact ((el j z d h1 h2).same (s3.trans (s4.trans s5))).off hl5 nF
        · have ej:j=ys.length:=by
            have:=(List.getElem?_eq_some_iff.mp h1).1;rw [List.length_append] at this;have:([y]:List V).length=1:=rfl;omega
          subst ej;rw [List.getElem?_append_right (Nat.le_refl _),Nat.sub_self] at h1;rw [len,List.getElem?_append_right (Nat.le_refl _),Nat.sub_self] at h2;cases h1;cases h2;refine (ry.imp (F':=λ a=>H a=none/\a≠D) λ a ha=>⟨s14.free ha,λ q=> ?_⟩).off hl5 nF;subst q;rw [show H4 a=none from ha] at hl4;cases hl4
  · have e:i=n:=by omega
    subst e;refine .inl ⟨S.stop H1 s1,hd H1 ys s1 hl (.lst hl hD ?_ len λ j y d h1 h2=>(el j y d h1 h2).imp λ a q=>q.1)⟩;have:=bnd i;omega
theorem EY {m:Nat} {G:Nat->Dt} (S:SrcOk J g σ0 H n st) (hD:H D=none) (hn:n<=100000)
    (he:∀ i H' (R:VK),i<n->Same H H'->(∀ H3 y,Same H' H3->Rp H3 (FN H') m y (G i)->R y H3)->te (st i) H' R)
    (hd:∀ H' ys,Same H H'->H' D=some (.lst ys)->Rp H' (FN H) (m+1) (.ref D) (.lst ((List.range n).map G))->Q (.ref D) H'):
    CM J σ0 g JC te Q H D:=by
  refine Gb (p:=λ _=>true) (m:=m) (G:=G) S hD hn (λ i H' R _ _ k=>k H' (Same.refl _)) (λ i H' R hi _ s k=>he i H' R hi s k) λ H' ys s hl r=>hd H' ys s hl ?_;have e:(List.range n).filter (λ _=>true)=List.range n:=by simp
  rw [e] at r;exact r
variable {K:PySem.W.Frag} {a b:Addr} {xs zs:List V}
theorem A0 (h:SqL K H a xs) (h0:σ0[0]?=some none):SrcOk (Itl K a) (AA 0) σ0 H xs.length (λ i=>σ0.set 0 (some (xs.getD i .non))) where
  go:=λ i H' hi s=>⟨xs,xs[i],s.seq h,by simp [hi]⟩
  stop:=λ H' s=>⟨xs,s.seq h,Nat.le_refl _⟩
  yld:=λ i H' x H'' R hi s y k=>by
    obtain ⟨e,hv⟩:=y;subst e;have e:x=xs.getD i .non:=by
      have:=hv xs (s.seq h);rw [List.getD_eq_getElem?_getD,this];rfl
    subst e;exact k _ (Same.refl _)
  kp:=λ i hi=>(Kp.refl _).set h0
theorem Im (h:SqT K H a xs) (h0:σ0[0]?=some none):SrcOk (Itt K a) (AA 0) σ0 H xs.length (λ i=>σ0.set 0 (some (xs.getD i .non))) where
  go:=λ i H' hi s=>⟨xs,xs[i],(SqS.same (tp:=true) h s),by simp [hi]⟩
  stop:=λ H' s=>⟨xs,(SqS.same (tp:=true) h s),Nat.le_refl _⟩
  yld:=λ i H' x H'' R hi s y k=>by
    obtain ⟨e,hv⟩:=y;subst e;have e:x=xs.getD i .non:=by
      have:=hv xs (SqS.same (tp:=true) h s);rw [List.getD_eq_getElem?_getD,this];rfl
    subst e;exact k _ (Same.refl _)
  kp:=λ i hi=>(Kp.refl _).set h0
theorem Eg {lo:Int} {n:Nat} (h0:σ0[0]?=some none):SrcOk (Itr lo n) (AA 0) σ0 H n (λ i=>σ0.set 0 (some (.int (lo+i)))) where
  go:=λ i H' hi s=>hi
  stop:=λ H' s=>Nat.le_refl _
  yld:=λ i H' x H'' R hi s y k=>by
    obtain ⟨e,hv⟩:=y;subst e hv;exact k _ (Same.refl _)
  kp:=λ i hi=>(Kp.refl _).set h0
theorem Hn (h:SqL K H a xs) (h0:σ0[0]?=some none) (h1:σ0[1]?=some none):SrcOk (Ite K a) (Fh K 2 (Be (AA 0) (Be (AA 1) FR))) σ0 H xs.length (λ i=>(σ0.set 0 (some (.int i))).set 1 (some (xs.getD i .non))) where
  go:=λ i H' hi s=>⟨xs,xs[i],s.seq h,by simp [hi]⟩
  stop:=λ H' s=>⟨xs,s.seq h,Nat.le_refl _⟩
  yld:=λ i H' x H'' R hi s y k=>by
    obtain ⟨p,v,hp,rfl,rfl,hv⟩:=y;have e:v=xs.getD i .non:=by
      have:=hv xs (s.seq h);rw [List.getD_eq_getElem?_getD,this];rfl
    subst e;exact ⟨p,_,rfl,SqT.of Ag,rfl,_,_,rfl,_,_,rfl,rfl,k _ (Ai hp)⟩
  kp:=λ i hi=>((Kp.refl _).set h0).set h1
theorem NL {t1 t2:Bool} (h:SqS t1 K H a xs) (h':SqS t2 K H b zs) (hl:xs.length=zs.length) (h0:σ0[0]?=some none) (h1:σ0[1]?=some none):
    SrcOk (Izs t1 t2 K a b) (Fh K 2 (Be (AA 0) (Be (AA 1) FR))) σ0 H xs.length (λ i=>(σ0.set 0 (some (xs.getD i .non))).set 1 (some (zs.getD i .non))) where
  go:=λ i H' hi s=>⟨xs,zs,xs[i],zs[i]'(by omega),h.same s,h'.same s,by simp [hi],by simp⟩
  stop:=λ H' s=>⟨xs,zs,h.same s,h'.same s, .inl (Nat.le_refl _)⟩
  yld:=λ i H' x H'' R hi s y k=>by
    obtain ⟨p,v,z,hp,rfl,rfl,hv,hz⟩:=y;have e:v=xs.getD i .non:=by
      have:=hv xs (h.same s);rw [List.getD_eq_getElem?_getD,this];rfl
    have e2:z=zs.getD i .non:=by
      have:=hz zs (h'.same s);rw [List.getD_eq_getElem?_getD,this];rfl
    subst e e2;exact ⟨p,_,rfl,SqT.of Ag,rfl,_,_,rfl,_,_,rfl,rfl,k _ (Ai hp)⟩
  kp:=λ i hi=>((Kp.refl _).set h0).set h1
end
theorem AJ {α β:Type} (f:α->β) (xs:List α) (d:α):(List.range xs.length).map (λ i=>f (xs.getD i d))=xs.map f:=by
  refine List.ext_getElem (by simp) λ i h1 h2=> ?_;have hi:i<xs.length:=by simpa using h2
  simp [List.getD_eq_getElem?_getD,hi]
section
variable {X:Cx} {tg:Expr}
def OL:List V->Hp->VK->Prop:=λ xs H Q=>∃ b:Bool,xs=[.bl b]/\Q (.int (if b=true then 1 else 0)) H
end
theorem Nh {X:Cx}:AS X (.type "int") OL:=by
  intro pins s σ H xs us Q I r h;obtain ⟨b,rfl,q⟩:=h;exact Jw pins s σ H _ us Q I r (.inr ⟨b,rfl,q⟩)
def MD (K:PySem.W.Frag):R2:=λ x y H Q=>∃ a xs,x= .ref a/\y= .int (-1)/\SqL K H a xs/\∀ p,H p=none->Q (.ref p) (upd H p (.lst xs.reverse))
section
variable {X:Cx} {K:PySem.W.Frag} {e st:Expr} {te ts:TE} {pos p2:Pos}
theorem Nu (he:PE X e te) (hst:PE X st ts) (hK:X.K=K:=by rfl):PE X (.Subscript e (.Slice none none (some st) p2) pos) (tOp (MD K) te ts):=by
  subst hK;intro pins s σ H Q I h;refine Subscript_ (thn (he pins s σ H _ I h) λ v s1 ⟨x,H1,I1,r1,q1⟩=> ?_);refine wpAny_Slice ?_;rw [evalPart_none];refine wpAny_pure (wpAny_pure ?_);rw [evalPart_some];refine thn (hst pins s1 σ H1 _ I1 q1) λ u s2 ⟨y,H2,I2,r2,q2⟩=> ?_;obtain ⟨a,xs,rfl,rfl,hx,q⟩:=q2;obtain ⟨t,rfl⟩:=r2;cases r1;have I3:Inv X pins σ H2 { s2 with heap:=s2.heap.push { cls:= .type "slice",data:= .fields #[.none, .none, .int (-1) t] } }:=I2.kept (t':=s2.toks) λ b ob q=>Heap.get?_push_of_some _ q;obtain ⟨its,r,ht,hz⟩:=I3.list hx;have hlen:=r.length;show wpAny (model X.prog X.w) X.A (subscriptTail e (.Slice none none (some st) p2) (.ref a) (.ref s2.heap.objs.size)) (EP X pins σ Q) X.xe { s2 with heap:=s2.heap.push { cls:= .type "slice",data:= .fields #[.none, .none, .int (-1) t] } };refine tail_any (ops:=[.ref a, .ref s2.heap.objs.size]) ht.isList.typeIs slot_list_getitem.lookup ?_ (by with_unfolding_all rfl);refine wpAny_getItem_list_slice (lo:=none) (hi:=none) (st:=some (-1)) ht.isList (Heap.IsSliceOf.new ..) .none .none (.int (-1) t) (by decide) ?_ (by rw [List.size_toArray] <;> omega);rw [PySem.W.krv_pick];refine ⟨.ref _,_,I3.laid (t':=s2.toks) (o:= .lst xs.reverse) (λ b ob q=>Heap.get?_push_of_some _ q) (Nat.le_refl _) ?_,rfl,q _ (I3.hok.fresh (Nat.le_refl _))⟩;exact ⟨by rw [List.length_reverse];exact hz,_,0,r.reverse,Heap.get?_push_size _ rfl⟩
theorem N7 {p:Addr} {xs:List V} {H:Hp} {Q:VK} (c:SqL K H p xs) (h:∀ q,H q=none->Q (.ref q) (upd H q (.lst xs.reverse))):MD K (.ref p) (.int (-1)) H Q:=⟨p,xs,rfl,rfl,c,h⟩
end
end L2
namespace MM
theorem Kn {α:Type} {p:List α->Prop} (h0:p []) (h1:∀ l a,p l->p (l++[a])):∀ l,p l:=λ l=>by
  have h:∀ r:List α,p r.reverse:=λ r=>by
    induction r with
    | nil=>exact h0
    | cons a r ih=>rw [List.reverse_cons];exact h1 _ _ ih
  have:=h l.reverse
  rwa [List.reverse_reverse] at this
theorem or_add_and (a:Nat):∀ b:Nat,(a ||| b)+(a &&& b)=a+b:=by
  induction a using Nat.strongRecOn with
  | ind a ih=>
    intro b;by_cases h:a=0
    · subst h;simp
    · have ih':=ih (a / 2) (by omega) (b / 2);have e1:(a ||| b)=2*((a ||| b) / 2)+(a ||| b)%2:=by omega
      have e2:(a &&& b)=2*((a &&& b) / 2)+(a &&& b)%2:=by omega
      have d1:(a ||| b) / 2=a / 2 ||| b / 2:=by simpa using Nat.or_div_two (a:=a) (b:=b)
      have d2:(a &&& b) / 2=a / 2 &&& b / 2:=by simpa using Nat.and_div_two (a:=a) (b:=b)
      have m1:(a ||| b)%2+(a &&& b)%2=a%2+b%2:=by
        have z:∀ x:Nat,x%2=(x.testBit 0).toNat:=λ x=>by rw [Nat.toNat_testBit];simp
        rw [z (a ||| b),z (a &&& b),z a,z b,Nat.testBit_or,Nat.testBit_and];cases a.testBit 0 <;> cases b.testBit 0 <;> rfl
      rw [d1] at e1;rw [d2] at e2;omega
def ofB (f:Nat->Bool):Nat->Nat
  | 0=>0
  | w+1=>ofB f w+(f w).toNat*2 ^ w
theorem ofB_lt (f:Nat->Bool):∀ w,ofB f w<2 ^ w
  | 0=>by simp [ofB]
  | w+1=>by
    have:=ofB_lt f w;unfold ofB;rw [Nat.pow_succ];cases f w <;> simp <;> omega
theorem ofB_bit (f:Nat->Bool):∀ w i,(ofB f w).testBit i=(decide (i<w)&&f i)
  | 0,i=>by simp [ofB]
  | w+1,i=>by
    have hl:=ofB_lt f w;unfold ofB;have e:ofB f w+(f w).toNat*2 ^ w=2 ^ w*(f w).toNat+ofB f w:=by rw [Nat.mul_comm];omega
    rw [e,Nat.testBit_two_pow_mul_add _ hl];by_cases h:i<w
    · rw [if_pos h,ofB_bit f w i];simp [h,Nat.lt_succ_of_lt h]
    · rw [if_neg h];by_cases h2:i=w
      · subst h2;cases f i <;> simp
      · have h3:¬ i<w+1:=by omega
        have h4:i - w≠0:=by omega
        have h5:(1:Nat).testBit (i - w)=false:=by
          obtain ⟨d,hd⟩:∃ d,i - w=d+1:=⟨i - w - 1,by omega⟩;rw [hd,Nat.testBit_succ];simp
        cases f w
        · simp [h3]
        · simp only [Bool.toNat_true,h5,h3,decide_false,Bool.false_and]
theorem bit_div (m e:Nat):m / 2 ^ e%2=(m.testBit e).toNat:=by
  rw [Nat.testBit_eq_decide_div_mod_eq];have:m / 2 ^ e%2<2:=Nat.mod_lt _ (by decide);by_cases h:m / 2 ^ e%2=1
  · simp [h]
  · have:m / 2 ^ e%2=0:=by omega
    simp [this]
def mOf (ns:List Nat):Nat:=ns.foldl (λ m n=>m ||| 2 ^ (n - 1)) 0
theorem mOf_snoc (ns:List Nat) (n:Nat):mOf (ns++[n])=mOf ns ||| 2 ^ (n - 1):=by unfold mOf;rw [List.foldl_append];rfl
theorem mOf_bit (ns:List Nat) (i:Nat):(mOf ns).testBit i=ns.any λ n=>decide (n - 1=i):=by
  refine Kn (p:=λ ns=>(mOf ns).testBit i=ns.any λ n=>decide (n - 1=i)) (by simp [mOf]) (λ l a ih=> ?_) ns
  · rw [mOf_snoc,Nat.testBit_or,ih,List.any_append,Nat.testBit_two_pow];simp
def bits (m:Nat):Nat:=if m=0 then 0 else m.log2+1
theorem Lh (m:Nat):m<2 ^ bits m:=by
  unfold bits;split
  · subst_vars;decide
  · exact Nat.lt_log2_self
theorem bits_le {m w:Nat} (h:m<2 ^ w):bits m<=w:=by
  unfold bits;split
  · exact Nat.zero_le _
  · rename_i h0
    exact (Nat.log2_lt h0).mpr h
def nOf (m:Nat):List Nat:=((List.range (bits m)).filter m.testBit).map (· + 1)
theorem nOf_wide {m w:Nat} (h:m<2 ^ w):nOf m=((List.range w).filter m.testBit).map (· + 1):=by
  unfold nOf;have hb:=bits_le h;obtain ⟨d,rfl⟩:∃ d,w=bits m+d:=⟨w - bits m,by omega⟩;congr 1;rw [List.range_add,List.filter_append];have e:((List.range d).map (bits m+ ·)).filter m.testBit=[]:=by
    rw [List.filter_eq_nil_iff];intro x hx;obtain ⟨k,_,rfl⟩:=List.mem_map.mp hx;rw [Nat.testBit_lt_two_pow (Nat.lt_of_lt_of_le (Lh m) (Nat.pow_le_pow_right (by decide) (Nat.le_add_right _ _)))];simp
  rw [e,List.append_nil]
theorem full_bit (w i:Nat):(2 ^ w - 1).testBit i=decide (i<w):=Nat.testBit_two_pow_sub_one w i
end MM
namespace L2
open PySem PySem.Spec PyProof.Rows
section
variable {X:Cx}
theorem IR {x:Str} {i:Int} {pos:Pos} (h:∃ t,X.mg x=some (.int i t)) (hg:Gl X x:=by rfl) (hd:(x == ("__debug__":Str))=false:=by decide):PE X (.Name x pos) (tC (.int i)):=by
  obtain ⟨t,e⟩:=h;exact Me hg e ⟨t,rfl⟩ hd
end
section
variable {H:Hp} {Q:VK} {σ:St} {td ty tv:TE} {D:Ends} {a:Addr} {kvs:List (Key × V)}
end
section
variable {H:Hp} {Q:VK} {σ:St} {K:PySem.W.Frag} {to:TE} {t:TA} {r:V->List V->Hp->VK->Prop} {T:String} {l p q:Addr} {xs ys:List V} {y:V}
theorem NM (h:to σ H λ x H1=>tyV K T x H1/\r x [] H1 Q):NX K T r to σ H Q:=h
theorem Oy (h:to σ H λ x H1=>tyV K T x H1/\t σ H1 λ xs H2=>r x xs H2 Q):tBM K T r to t σ H Q:=h
theorem tyL {B:Prop} (c:SqL K H l xs) (h:B):tyV K "list" (.ref l) H/\B:=⟨.inl ⟨rfl,xs,c⟩,h⟩
theorem tyS {B:Prop} {z:Str} (h:B):tyV K "str" (.str z) H/\B:=⟨rfl,h⟩
theorem tyI {B:Prop} {i:Int} (h:B):tyV K "int" (.int i) H/\B:=⟨rfl,h⟩
theorem J3 (c:H l=some (.lst xs)) (b:xs.length<16777216) (h:Q .non (upd H l (.lst (xs++[y])))):rAppend (.ref l) [y] H Q:=⟨l,xs,y,rfl,rfl,c,by rw [sizeLine_eq];exact b,h⟩
theorem M9 (c:SqL K H l xs) (d:SqL K H p ys) (b:xs.length+ys.length<=16777216) (h:∀ q,H q=none->Q (.ref q) (upd H q (.lst (xs++ys)))):Kf K (.ref l) (.ref p) H Q:=⟨l,p,xs,ys,rfl,rfl,c,d,by rw [sizeLine_eq];exact b,h⟩
theorem GB {k:Int} (c:H l=some (.lst xs)) (b1:0<=k) (b2:k<=100000) (b3:xs.length<=100) (h:∀ q,H q=none->Q (.ref q) (upd H q (.lst (List.replicate k.toNat xs).flatten))):OK (.ref l) (.int k) H Q:=
  ⟨l,k,xs,rfl,rfl,c,by omega,by omega,by
    rw [sizeLine_eq];have h1:k.toNat<=100000:=by omega
    exact Nat.le_trans (Nat.mul_le_mul b3 h1) (by decide),h⟩
theorem ET {as bs:List Int} (c:SqL K H l (as.map V.int)) (d:SqL K H p (bs.map V.int)) (h:Q (.bl (decide (as=bs))) H):HN K false (.ref l) (.ref p) H Q:=
  ⟨l,p,_,_,rfl,rfl,c,d,DN as,DN bs,by rw [Hh];exact h⟩
theorem Gs {as bs:List Int} (c:SqL K H l (as.map V.int)) (d:SqL K H p (bs.map V.int)) (h:Q (.bl (!decide (as=bs))) H):HN K true (.ref l) (.ref p) H Q:=
  ⟨l,p,_,_,rfl,rfl,c,d,DN as,DN bs,by rw [Hh];exact h⟩
theorem F8 {z:Addr} (c:SqL K H z xs) (h:∀ q,H q=none->Q (.ref q) (upd H q (.lst xs))):IV K [.ref z] H Q:=⟨z,xs,rfl, .inl c,h⟩
theorem J8 {z:Addr} (c:SqL K H z xs) (h:∀ q,H q=none->Q (.ref q) (upd H q (.tup xs))):Ht K [.ref z] H Q:=⟨z,xs,rfl, .inl ⟨c,h⟩⟩
end
end L2
namespace L2
open PySem
open Sem (wp)
open AutoSeq1 (wpAny_loadPart')
section
variable {prog:Program} {w:World} {A:Around} {E:Value->Shared->Prop} {s:Shared}
theorem Hu {T newId:String} {Bn:Builtin} {v:Value} {x:Str} {u:Value} {Q:Value->Shared->Prop} (ft:TypeCalled T newId "object.__init__") (hne:(some newId != some "object.__new__")=true)
    (hct:checkTypeCall T ⟨[v],[(x,u)]⟩=pure ()) (hcn:checkBuiltinCall newId ⟨[.type T,v],[(x,u)]⟩=pure ()) (hok:∀ obj,argsOk "object.__init__" ⟨[obj,v],[(x,u)]⟩) (entryN:entryFor table newId=some Bn)
    (g:wpAny (model prog w) A.in1.in1 (Bn ⟨[.type T,v],[(x,u)]⟩) (λ fin s1=>∃ obj,fin= .done (.ret obj)/\s1.TypeIs obj T/\Q obj s1) E s):wpAny (model prog w) A (call (.type T) [v] [(x,u)]) Q E s:=by
  obtain ⟨c,tl,hmro⟩:=ft.mro;have hmade:=ft.made;have hsub:=ft.sub;refine wpAny_call (codeAny_of_tree ?_);show wpAny _ _ (callAny (.type T) _) _ _ _;refine wpAny_pure ⟨Code.quiet_builtin _ (by decide +kernel),codeAny_builtin F.entry_type_call ?_⟩;rw [Around.under_plain (weight_type_call_type T [v] [(x,u)]) (units_type_call_type T [v] [(x,u)])];have h1:=ft.notType;have h2:=ft.canCreate
  repeat (any_goals (first | assumption | wp_step))
  refine codeAny_call_builtin ft.plain entryN (wpAny_of_eq hcn (wpAny_mono g (λ fin s1 q=> ?_) λ _ _ q=>q));obtain ⟨obj,rfl,hT,q⟩:=q;have hli:=ft.init.lookup;have hbi:=ft.init.bind obj;show wpAny _ _ _ _ _ _
  repeat (any_goals (first | assumption | wp_step))
  refine codeAny_call_builtin ft.init.plain F.entry_object_init (ft.init.check _ _ _ _ _ _ _ _ hT (hok obj) ?_)
  repeat (any_goals (first | assumption | wp_step))
  trace_state
theorem Hl {v:Value} {t:Tok} {Q:Value->Shared->Prop}
    (h:wpAny (model prog w) A (pyIter v) (λ itv s1=>Q (.ref s1.heap.objs.size) { s1 with heap:=s1.heap.push { cls:= .type "enumerate",data:= .fields #[.none, .bool false,itv,rawInt 1, .none, .none] } }) E s):
    wpAny (model prog w) A (Builtin.«enumerate.__new__» ⟨[.type "enumerate",v],[("start", .int 1 t)]⟩) (λ fin s1=>∃ obj,fin= .done (.ret obj)/\Q obj s1) E s:=by
  have hsub:=sub_enumerate;have hit:∀ {R:Value->Shared->Prop},(∀ itv s1,Q (.ref s1.heap.objs.size) { s1 with heap:=s1.heap.push { cls:= .type "enumerate",data:= .fields #[.none, .bool false,itv,rawInt 1, .none, .none] } }->R itv s1)->wpAny (model prog w) A (pyIter v) R E s:=λ k=>wpAny_mono h k λ _ _ q=>q;unfold Builtin.«enumerate.__new__»
  wp_walk
  refine wpAny_stack_any λ st=>wpAny_pure ?_;split
  · rename_i c _ _ _ _ _
    cases (c == Value.type "enumerate")
    · wp_walk using hit
      intro itv s1 q
      wp_walk
      exact ⟨_,rfl,q⟩
    · wp_walk using hit
      intro itv s1 q
      wp_walk
      exact ⟨_,rfl,q⟩
  · wp_walk using hit
    intro itv s1 q
    wp_walk
    exact ⟨_,rfl,q⟩
theorem HS {v:Value} {t:Tok} {Q:Value->Shared->Prop}
    (h:wpAny (model prog w) A.in1.in1 (pyIter v) (λ itv s1=>∃ it,itv= .ref it/\∀ h',IsEnum h' s1.heap.objs.size it 1 .none->(∀ b o,s1.heap.get? b=some o->h'.get? b=some o)->h'.objs.size=s1.heap.objs.size+1->Q (.ref s1.heap.objs.size) { s1 with heap:=h' }) E s):
    wpAny (model prog w) A (call (.type "enumerate") [v] [("start", .int 1 t)]) Q E s:=by
  refine Hu F.called_enumerate (by decide) (by kernel_rfl) (by kernel_rfl) (λ obj=>by unfold argsOk;kernel_rfl) F.entry_enumerate_new (Hl (wpAny_mono h (λ itv s1 q=> ?_) λ _ _ q=>q));obtain ⟨it,rfl,q⟩:=q;refine ⟨⟨_,Heap.get?_push_size _ rfl,rfl⟩,q _ (Heap.get?_push_size _ rfl) (λ b o e=>Heap.get?_push_of_some _ e) (Heap.size_push ..)⟩
end
theorem MZ {prog:Program} {w:World} {A:Around} {it:Addr} {fp:List Addr} {n:Nat} {Pv:Nat->Value->Prop} {St:Nat->Heap->Prop} (k:Nat) (D:Draws prog w A it fp n Pv St):
    Draws prog w A it fp (n+k) (λ i v=>∃ j,i=j+k/\Pv j v) (λ i h=>∃ j,i=j+k/\St j h) where
  live:=λ i h ⟨j,_,st⟩=>D.live j h st
  frame:=λ i h h' ⟨j,e,st⟩ q=>⟨j,e,D.frame j h h' st q⟩
  item:=λ i s Q E hi ⟨j,e,st⟩ hQ=>D.item j s Q E (by omega) st λ x h' tk p st' sb=>hQ x h' tk ⟨j,e,p⟩ ⟨j+1,by omega,st'⟩ sb
  done:=λ s Q E ⟨j,e,st⟩ hE=>D.done s Q E (by
    have q:j=n:=by omega
    rw [q] at st;exact st) hE
theorem Hs {M:Model} {A:Around} {E:Value->Shared->Prop} {s:Shared} {pos:Pos} {T:String} {args:List (Bool × Sem Value)} {kws:List (Option Str × Sem Value)} {Q:Value->Shared->Prop}
    (hp:args.any (·.1)=false) (hk:kws.any (·.1.isNone)=false) (h:wpAny M A (evalArgs (.type T) true args kws) (λ a s1=>wpAny M A (call (.type T) a.pos a.kw) Q E s1) E s):wpAny M A (callWith pos (.type T) [] args kws) Q E s:=by
  unfold callWith;refine wpAny_bind (wpAny_holding (wpAny_mono h (λ a s1 h1=>wpAny_bind (wpAny_standAt ?_)) λ _ _ q=>q));simp only [hp,hk,Bool.or_false];refine wpAny_bind (wpAny_pure ?_);refine wpAny_bind (wpAny_mono h1 (λ r s2 hr=> ?_) λ _ _ q=>q);exact wpAny_bind (wpAny_holding (wpAny_point (wpAny_pure hr)))
end L2
namespace L2
open PySem PySem.Spec PyProof.Rows
theorem ML {prog:Program} {w:World} {A:Around} (hh:A.handled=none) (tp:Bool) (it l:Addr) (hne:l≠it) (items:Array Value):
    Draws prog w A it [it,l] items.size (λ i v=>items[i]?=some v) (λ i h=>Bg tp h it l i/\Bh tp h l items) where
  live:=λ _ _ st=>let ⟨o,e,_⟩:=Ba st.1;⟨o,e⟩
  frame:=λ _ _ _ st hk=>⟨Az st.1 λ o e=>hk it (by simp) o e,BF st.2 λ o e=>hk l (by simp) o e⟩
  item:=λ i s Q E hi st hQ=>DT st.1 st.2 (x:=items[i]) (by simp [hi]) λ h' hit sb=>hQ _ h' s.toks (by simp [hi]) ⟨hit,BF st.2 λ o e=>(sb.2 l hne).trans e⟩ sb
  done:=λ s Q E st hE=>EV hh st.1 st.2 (by simp) hE
def KW (tp:Bool) (K:PySem.W.Frag) (a:Addr):It:=
  ⟨λ i H=>∃ xs x,SqS tp K H a xs/\xs[i]?=some x,λ i H v H'=>∃ p x,H p=none/\v= .ref p/\H'=upd H p (.tup [.int ((i+1:Nat):Int),x])/\∀ xs,SqS tp K H a xs->xs[i]?=some x,λ i H=>∃ xs,SqS tp K H a xs/\xs.length<=i⟩
theorem HQ {P:Program} {w:World} {K:PySem.W.Frag} {elts:List Expr} {k:Nat} {pos:Pos} (tp:Bool) (a e it:Addr) (hne:e≠it):
    Turn P w K (.Tuple elts k pos) (KW tp K a) [e,it] e (λ i h=>(∃ old,IsEnum h e it ((i+1:Nat):Int) old)/\Bg tp h it a i) where
  mem:=by simp
  obj:=λ i h st b hb=>by
    obtain ⟨⟨old,he⟩,hi⟩:=st;obtain ⟨o,eo,d⟩:=Ba hi;rcases List.mem_cons.mp hb with z | z
    · subst z;exact ⟨_,he,λ v z=>by cases (show Data.fields _=Data.cell v from z)⟩
    · have z:b=it:=by simpa using z
      subst z;exact ⟨o,eo,λ v z=>by rw [d] at z;cases z⟩
  keep:=λ i h h' st kp=>by
    obtain ⟨⟨old,he⟩,hi⟩:=st;exact ⟨⟨old,kp e (by simp) _ he⟩,Az hi λ o z=>kp it (by simp) o z⟩
  item:=by
    intro X hP hw hK hc i pins s σ H E I hf st hg;subst hP hw hK;obtain ⟨xs,x,hq,hx⟩:=hg;obtain ⟨its,rv,p⟩:=Bv I hq;obtain ⟨u,hu,ru⟩:=rv.get hx;obtain ⟨⟨old,he⟩,hi⟩:=st;obtain ⟨oi,ei,di⟩:=Ba hi;obtain ⟨oa,na,ea,da⟩:=C9 p;have hel:e<s.heap.objs.size:=Heap.lt_size he;have hil:it<s.heap.objs.size:=Heap.lt_size ei;have nia:a≠it:=λ z=>by
      subst z;rw [ei] at ea;cases ea;rw [di] at da;cases da
    have nea:e≠a:=λ z=>by
      subst z;rw [show s.heap.get? e=_ from he] at ea;cases ea;cases (show Data.fields _=Data.seq _ _ from da)
    have hlt:i<its.toArray.size:=by
      have:=(List.getElem?_eq_some_iff.mp hu).1;simpa using this
    have D:=MZ 1 (ML (prog:=X.prog) (w:=X.w) (A:=X.A.in1) (I.ok.hd hc) tp it a nia its.toArray);refine wpAny_pyNext_enum_itemD (i:=i+1) D he ⟨i,rfl,hi,p⟩ (by omega) hne (by simp [hne,nea]) λ v h' tk pv ho st' hT hsz hk=> ?_;obtain ⟨j,ej,ev⟩:=pv;obtain ⟨j2,ej2,hi',p'⟩:=st';have ej:j=i:=by omega
    have ej2:j2=i+1:=by omega
    subst ej ej2;have ev:v=u:=by
      rw [show its.toArray[j]?=some u by simpa using hu] at ev;exact (Option.some.inj ev).symm
    subst ev;have I0:=I.laid (h':=s.heap.push { cls:= .type "tuple",data:= .seq #[.int ((j+1:Nat):Int) tk,v] }) (a:=s.heap.objs.size) (o:= .tup [.int ((j+1:Nat):Int),x]) (t':=tk+1) (λ _ _ q=>Heap.get?_push_of_some _ q) (Nat.le_refl _)
      ⟨(by show 2<=sizeLine;decide),[.int ((j+1:Nat):Int) tk,v], .cons ⟨_,rfl⟩ (.cons ru .nil),⟨_,Heap.get?_push_size _ rfl,rfl,_,rfl⟩⟩
    have f0:∀ b∈[e,it],BP X pins (upd H s.heap.objs.size (.tup [.int ((j+1:Nat):Int),x])) b:=λ b hb=>Ih (hf b hb) (by
      rcases List.mem_cons.mp hb with z | z
      · rw [z];exact Nat.ne_of_lt hel
      · rw [show b=it by simpa using z];exact Nat.ne_of_lt hil)
    have I1:=Inv.turnedL (t':=tk+1) (h':=h') [e,it] I0 f0 (λ b o hb z=>by
      have hb1:b≠e:=λ q=>hb (by simp [q]);have hb2:b≠it:=λ q=>hb (by simp [q]);rcases Heap.get?_push_cases (show (s.heap.push { cls:= .type "tuple",data:= .seq #[.int ((j+1:Nat):Int) tk,v] }).get? b=some o from z) with ⟨q1,q2⟩ | q
      · rw [q1,q2];exact hT
      · exact hk b o hb1 hb2 q)
    refine ⟨.ref s.heap.objs.size,rfl,wpAny_letOwnedTupleGo_enum (s:={ s with heap:=h',toks:=tk+1 }) ho λ h2 he2 sb=> ?_⟩;exact ⟨.ref s.heap.objs.size,_,Inv.turnedL (t':=tk+1) (h':=h2) [e,it] I1 f0 (λ b o hb z=>(sb.2 b λ q=>hb (by simp [q])).trans z),rfl,⟨_,x,I.fresh,rfl,rfl,λ ys hy=>by rw [GH I hy hq];exact hx⟩,
      ⟨⟨v,by simpa using he2⟩,Az hi' λ o z=>(sb.2 it hne.symm).trans z⟩,λ b hb=>(f0 b hb).1⟩
  done:=by
    intro X hP hw hK hc i pins s σ H E I hf st hg;subst hP hw hK;obtain ⟨xs,hq,hx⟩:=hg;obtain ⟨its,rv,p⟩:=Bv I hq;obtain ⟨⟨old,he⟩,hi⟩:=st;obtain ⟨oi,ei,di⟩:=Ba hi;obtain ⟨oa,na,ea,da⟩:=C9 p;have hT:s.TypeIs (.ref e) "enumerate":=⟨_,he,rfl⟩;have hl:=rv.length;unfold pyNext;refine wpAny_bind (wpAny_attempt (wpAny_callSpecial?_slot (name:=Str.ofString "__next__") hT F.slot_enumerate_next (wpAny_call_entry F.slot_enumerate_next hT F.entry_enumerate_next ?_ (F.args_enumerate_next_1 _))));show wpAny _ _ (field (.ref e) 2 >>= _) _ _ _;refine wpAny_bind (wpAny_field he rfl (x:= .ref it) rfl ?_);refine wpAny_bind (EV (A:=X.A.in1) (I.ok.hd hc) hi p (by simp;omega) λ h' x eb hx'=> ?_);obtain ⟨o,ho,hc2⟩:=hx';exact wpAny_bind (wpAny_isInstance (T:="StopIteration") (b:=true) ⟨o,ho,hc2⟩ isSubtype_stop (wpAny_pure ⟨rfl,I.turnedL (t':=s.toks) [e,it] hf λ b o hb z=>eb b o (λ q=>hb (by simp [q])) z⟩))
  self:=λ _ _ _ _ _ st h=>by
    obtain ⟨⟨old,he⟩,_⟩:=st;exact wpAny_pyIter_enum he h
section
variable {X:Cx} {elts:List Expr} {k:Nat} {tpos:Pos} {K:PySem.W.Frag}
def Kb (K:PySem.W.Frag) (ta:TA):TI:=λ σ H R=>ta σ H λ vs H1=>∃ tp a,vs=[.ref a]/\(∃ xs,SqS tp K H1 a xs)/\R (KW tp K a) H1
theorem KH {l:Expr} {ta:TA} {p pos kp cp:Pos} {cj:Nat} (hg:Gl X "enumerate") (hm:X.mg "enumerate"=none) (ha:PA X [l] ta) (hK:X.K=K:=by rfl) (hs:starEach [l] X.env=[(false,eval l X.env)]:=by rfl):
    PI X (.Tuple elts k tpos) (.Call (.Name "enumerate" p) [l] [⟨some "start", .Constant (.int 1) cj cp,kp⟩] pos) (Kb K ta):=by
  subst hK;intro pins s σ H R I h;refine wpAny_Call_Name_kw (CT I hg hm FV (Hs (by rw [hs];rfl) rfl (PyProof.Rows.evalArgs_kw2 rfl ?_ (by rw [hs];rfl))));refine thn (ha pos pins s σ H _ I h) λ us s1 ⟨vs,H1,I1,r1,q1⟩=>PyProof.Rows.kwAll_cons ?_;refine Ac pins s1 σ H1 (λ v H2=>v= .int 1/\H2=H1) I1 ⟨rfl,rfl⟩ |> λ z=>thn z λ u s2 ⟨v,H2,I2,r2,ev,eh⟩=> ?_
  subst ev eh;obtain ⟨t,rfl⟩:=r2;refine PyProof.Rows.kwAll_nil ?_;obtain ⟨tp,a,e,⟨xs,hq⟩,q⟩:=q1;subst e;cases r1 with
  | cons r rr=>
    cases rr;cases r;obtain ⟨its,rv,pl⟩:=Bv I2 hq;refine HS ?_;refine Ft pl ⟨_,rfl,λ h' he hk hsz=> ?_⟩;refine wpAny_pyIter_enum he ?_;have hz:(s2.heap.push { cls:= .type (F6 tp),data:= .fields #[.ref a, .int 0 0] }).objs.size=s2.heap.objs.size+1:=Heap.size_push ..;have hk2:∀ b o,s2.heap.get? b=some o->h'.get? b=some o:=λ b o z=>hk b o (Heap.get?_push_of_some _ z);have I3:=I2.kept (t':=s2.toks) hk2;have st:Bg tp h' s2.heap.objs.size a 0:=Az DV λ o z=>hk _ o z;refine ⟨_,[_,s2.heap.objs.size],_,_,H2,rfl,I3,HQ tp a _ _ (by rw [hz];exact Nat.succ_ne_self _),⟨⟨_,he⟩,st⟩,λ b hb=> ?_,q⟩;have hb':s2.heap.objs.size<=b:=by
      rcases List.mem_cons.mp hb with z | z
      · rw [z,hz];exact Nat.le_succ _
      · have z:b=s2.heap.objs.size:=by simpa using z
        rw [z];exact Nat.le_refl _
    exact I2.fpOk hb' (I2.hok.fresh hb')
end
def Isq (tp:Bool) (K:PySem.W.Frag) (a:Addr):It:=if tp=true then Itt K a else Itl K a
section
variable {X:Cx} {tg:Expr} {K:PySem.W.Frag}
def iSq (K:PySem.W.Frag) (tl:TE):TI:=λ σ H R=>tl σ H λ x H1=>∃ tp a,x= .ref a/\(∃ xs,SqS tp K H1 a xs)/\R (Isq tp K a) H1
theorem Ov {l:Expr} {tl:TE} (hl:PE X l tl) (hK:X.K=K:=by rfl):PI X tg l (iSq K tl):=by
  subst hK;intro pins s σ H R I h;refine thn (hl pins s σ H _ I h) λ v s1 ⟨x,H1,I1,r1,q1⟩=> ?_;obtain ⟨tp,a,e,⟨xs,hq⟩,q⟩:=q1;subst e;cases r1;cases tp with
  | false=>
    obtain ⟨its,rv,p,hz⟩:=I1.list (show SqL X.K H1 a xs from hq);refine wpAny_pyIter_list p.isList ?_;refine ⟨s1.heap.objs.size,[s1.heap.objs.size],_,_,H1,rfl,I1.kept (t':=s1.toks) λ b o e=>Heap.get?_push_of_some _ e,F9 a _,⟨_,Heap.get?_push_size _ rfl,rfl,rfl⟩,λ b hb=> ?_,q⟩;have e:b=s1.heap.objs.size:=by simpa using hb
    subst e;exact I1.fpOk (Nat.le_refl _) (I1.hok.fresh (Nat.le_refl _))
  | true=>
    obtain ⟨its,rv,p,hz⟩:=I1.tuple (show SqT X.K H1 a xs from hq);refine wpAny_pyIter_tuple (show s1.heap.IsTuple a its.toArray from p) ?_;refine ⟨s1.heap.objs.size,[s1.heap.objs.size],_,_,H1,rfl,I1.kept (t':=s1.toks) λ b o e=>Heap.get?_push_of_some _ e,Fe a _,⟨_,Heap.get?_push_size _ rfl,rfl,rfl⟩,λ b hb=> ?_,q⟩;have e:b=s1.heap.objs.size:=by simpa using hb
    subst e;exact I1.fpOk (Nat.le_refl _) (I1.hok.fresh (Nat.le_refl _))
end
structure FSrc (J:It) (g:TG) (H:Hp) (n:Nat) (set:Nat->St->St):Prop where
  go:∀ i H',i<n->Same H H'->J.go i H'
  stop:∀ H',Same H H'->J.stop n H'
  yld:∀ i σ H' x H'' (R:St->Hp->Prop),i<n->Same H H'->J.yld i H' x H''->(∀ H3,Same H' H3->R (set i σ) H3)->g x σ H'' R
theorem C3 {J:It} {g:TG} {H:Hp} {n:Nat} {set:Nat->St->St} {tb:TS} {D:Ends} {σ:St} (S:FSrc J g H n set) (Pv:Nat->St->Hp->Prop) (h0:Pv 0 σ H) (hk:∀ i σ H',Pv i σ H'->Same H H')
    (hs:∀ i σ H' H3,i<n->Pv i σ H'->Same H' H3->tb { D with nx:=Pv (i+1),ct:=Pv (i+1),bk:=D.nx } (set i σ) H3) (hd:∀ σ H',Pv n σ H'->D.nx σ H'):
    ∃ W:Nat->Nat->St->Hp->Prop,(∃ m,W 0 m σ H)/\∀ i m σ H,W i m σ H->
      (J.stop i H/\D.nx σ H)\/(J.go i H/\∃ N:St->Hp->Prop,(∀ σ' H',N σ' H'->∃ m',m'<m/\W (i+1) m' σ' H')/\∀ x H',J.yld i H x H'->g x σ H' λ σ2 H2=>tb { D with nx:=N,ct:=N,bk:=D.nx } σ2 H2):=by
  refine ⟨λ i m σ H'=>m=n - i/\i<=n/\Pv i σ H',⟨n,by simp,Nat.zero_le _,h0⟩,?_⟩;rintro i m σ H1 ⟨rfl,hi,p⟩;by_cases hlt:i<n
  · exact .inr ⟨S.go i H1 hlt (hk _ _ _ p),Pv (i+1),λ σ' H' p'=>⟨n - (i+1),by omega,rfl,hlt,p'⟩,λ x H' y=>S.yld i σ H1 x H' _ hlt (hk _ _ _ p) y λ H3 s3=>hs i σ H1 H3 hlt p s3⟩
  · have e:i=n:=by omega
    subst e;exact .inl ⟨S.stop H1 (hk _ _ _ p),hd σ H1 p⟩
section
variable {K:PySem.W.Frag} {H:Hp} {a b:Addr} {xs zs:List V} {tp t1 t2:Bool} {i1 i2:Nat}
theorem O6 (h:SqS tp K H a xs):FSrc (Isq tp K a) (AA i1) H xs.length (λ i σ=>σ.set i1 (some (xs.getD i .non))):=by
  cases tp with
  | false=>exact {
      go:=λ i H' hi s=>⟨xs,xs[i],SqS.same (tp:=false) h s,by simp [hi]⟩
      stop:=λ H' s=>⟨xs,SqS.same (tp:=false) h s,Nat.le_refl _⟩
      yld:=λ i σ H' x H'' R hi s y k=>by
        obtain ⟨e,hv⟩:=y;subst e;have e:x=xs.getD i .non:=by
          rw [List.getD_eq_getElem?_getD,hv xs (SqS.same (tp:=false) h s)];rfl
        subst e;exact k _ (Same.refl _) }
  | true=>exact {
      go:=λ i H' hi s=>⟨xs,xs[i],SqS.same (tp:=true) h s,by simp [hi]⟩
      stop:=λ H' s=>⟨xs,SqS.same (tp:=true) h s,Nat.le_refl _⟩
      yld:=λ i σ H' x H'' R hi s y k=>by
        obtain ⟨e,hv⟩:=y;subst e;have e:x=xs.getD i .non:=by
          rw [List.getD_eq_getElem?_getD,hv xs (SqS.same (tp:=true) h s)];rfl
        subst e;exact k _ (Same.refl _) }
theorem Fu {lo:Int} {n:Nat}:FSrc (Itr lo n) (AA i1) H n (λ i σ=>σ.set i1 (some (.int (lo+i)))) where
  go:=λ i H' hi s=>hi
  stop:=λ H' s=>Nat.le_refl _
  yld:=λ i σ H' x H'' R hi s y k=>by
    obtain ⟨e,hv⟩:=y;subst e hv;exact k _ (Same.refl _)
theorem KF (h:SqS tp K H a xs):FSrc (KW tp K a) (Fh K 2 (Be (AA i1) (Be (AA i2) FR))) H xs.length (λ i σ=>(σ.set i1 (some (.int ((i+1:Nat):Int)))).set i2 (some (xs.getD i .non))) where
  go:=λ i H' hi s=>⟨xs,xs[i],h.same s,by simp [hi]⟩
  stop:=λ H' s=>⟨xs,h.same s,Nat.le_refl _⟩
  yld:=λ i σ H' x H'' R hi s y k=>by
    obtain ⟨p,v,hp,rfl,rfl,hv⟩:=y;have e:v=xs.getD i .non:=by
      rw [List.getD_eq_getElem?_getD,hv xs (h.same s)];rfl
    subst e;exact ⟨p,_,rfl,SqT.of Ag,rfl,_,_,rfl,_,_,rfl,rfl,k _ (Ai hp)⟩
theorem FSrc.src {J:It} {g:TG} {n:Nat} {set:Nat->St->St} {σ0:St} (S:FSrc J g H n set) (kp:∀ i,i<n->Kp σ0 (set i σ0)):SrcOk J g σ0 H n (λ i=>set i σ0) where
  go:=S.go
  stop:=S.stop
  yld:=λ i H' x H'' R hi s y k=>S.yld i σ0 H' x H'' R hi s y k
  kp:=kp
theorem Jh {σ0:St} (h:SqS tp K H a xs) (h0:σ0[0]?=some none) (h1:σ0[1]?=some none):SrcOk (KW tp K a) (Fh K 2 (Be (AA 0) (Be (AA 1) FR))) σ0 H xs.length (λ i=>(σ0.set 0 (some (.int ((i+1:Nat):Int)))).set 1 (some (xs.getD i .non))):=
  (KF h).src λ i _=>((Kp.refl _).set h0).set h1
end
theorem bA (a b:Nat):Builtin.bitAnd (a:Int) (b:Int)=((a &&& b:Nat):Int):=by
  rw [PyProof.Rows.bitAnd_pp (by omega) (by omega)];rfl
theorem bO (a b:Nat):Builtin.bitOr (a:Int) (b:Int)=((a ||| b:Nat):Int):=by
  have h:=MM.or_add_and a b;rw [PyProof.Rows.bitOr_and,bA];omega
theorem Gp (m:Nat):((Builtin.Int.intBits (m:Int):Nat):Int)=((MM.bits m:Nat):Int):=by
  unfold Builtin.Int.intBits MM.bits;by_cases h:m=0
  · subst h;rfl
  · have e:((m:Int) == 0)=false:=by simp [h]
    rw [e,if_neg h];simp
theorem Ho (n:Nat):(1:Int)*2 ^ n=((2 ^ n:Nat):Int):=by
  rw [Int.one_mul];push_cast;rfl
section
variable {X:Cx}
def rBits:V->List V->Hp->VK->Prop:=λ x vs H Q=>∃ i:Int,x= .int i/\vs=[]/\Q (.int (Builtin.Int.intBits i:Nat)) H
theorem FP:MtM X "int.bit_length" rBits:=by
  intro pins s σ H x vs v us Q I rx rv h;obtain ⟨i,rfl,rfl,q⟩:=h;obtain ⟨t,rfl⟩:=rx;have hus:=rv.zero;subst hus;exact PyProof.Rows.call_int_bit_length ⟨.int _,H,I.tok _,⟨_,rfl⟩,q⟩
end
section
variable {H:Hp} {Q:VK} {σ:St} {D:Ends} {te:TE} {ti:TIp} {i:Nat} {x:V}
theorem LY {m:Nat} (h:Q (.int (MM.bits m:Nat)) H):rBits (.int (m:Nat)) [] H Q:=⟨m,rfl,rfl,by rw [Gp];exact h⟩
theorem Ni (e:σ[i]?=some (some x)) (h:te σ H λ y H1=>ti x y H1 λ z H2=>D.nx (σ.set i (some z)) H2):O0 i te ti D σ H:=⟨x,e,h⟩
end
abbrev nV (n:Nat):V:= .int (n:Nat)
theorem AH {ns:List Nat} {i:Nat} (h:i<(ns.map nV).length):(ns.map nV).getD i .non= .int (ns.getD i 0:Nat):=by
  have h':i<ns.length:=by simpa using h
  simp [List.getD_eq_getElem?_getD,h']
theorem J4 {ns:List Int} {i:Nat} (h:i<(ns.map V.int).length):(ns.map V.int).getD i .non= .int (ns.getD i 0):=by
  have h':i<ns.length:=by simpa using h
  simp [List.getD_eq_getElem?_getD,h']
theorem C8 {ns:List Int} {k:Int} (h0:0<=k) (h1:k<ns.length):atI (ns.map V.int) k=some (.int (ns.getD k.toNat 0)):=by
  obtain ⟨j,rfl⟩:∃ j:Nat,k=j:=⟨k.toNat,by omega⟩;have h':j<ns.length:=by omega
  refine A6 ?_;rw [show ((j:Int)).toNat=j by omega];simp [List.getD_eq_getElem?_getD,h']
theorem E7 {ns:List Nat} {k:Int} (h0:0<=k) (h1:k<ns.length):atI (ns.map nV) k=some (.int (ns.getD k.toNat 0:Nat)):=by
  obtain ⟨j,rfl⟩:∃ j:Nat,k=j:=⟨k.toNat,by omega⟩;have h':j<ns.length:=by omega
  refine A6 ?_;rw [show ((j:Int)).toNat=j by omega];simp [List.getD_eq_getElem?_getD,h']
theorem Je {ns:List Nat} {i:Nat} (h:i<ns.length):ns.take (i+1)=ns.take i++[ns.getD i 0]:=by
  rw [List.take_succ_eq_append_getElem h];simp [List.getD_eq_getElem?_getD,h]
theorem AF {J:It} {g:TG} {σ0:St} {H:Hp} {n:Nat} {st:Nat->St} {te:TE} {Q:VK} {D:Addr} {G:Nat->Int} (S:SrcOk J g σ0 H n st) (hD:H D=none) (hn:n<=100000)
    (he:∀ i H' (R:VK),i<n->Same H H'->(∀ H3,Same H' H3->R (.int (G i)) H3)->te (st i) H' R)
    (hd:∀ H',Same H H'->H' D=some (.lst (((List.range n).map G).map V.int))->Q (.ref D) H'):CM J σ0 g JC te Q H D:=by
  refine EY (m:=0) (G:=λ i=> .int (G i)) S hD hn (λ i H' R hi s k=>he i H' R hi s λ H3 s3=>k H3 _ s3 (.int _)) λ H' ys s hl r=> ?_;have e:(List.range n).map (λ i=>Dt.int (G i))=((List.range n).map G).map Dt.int:=by rw [List.map_map];rfl
  rw [e] at r;obtain ⟨b,eb,hb,fb⟩:=IF r;cases eb;exact hd H' s hb
theorem E6 {J:It} {g:TG} {σ0:St} {H:Hp} {n:Nat} {st:Nat->St} {tc:TT} {te:TE} {Q:VK} {D:Addr} {p:Nat->Bool} {G:Nat->Int} (S:SrcOk J g σ0 H n st) (hD:H D=none) (hn:n<=100000)
    (ht:∀ i H' (R:Bool->Hp->Prop),i<n->Same H H'->(∀ H3,Same H' H3->R (p i) H3)->tc (st i) H' R)
    (he:∀ i H' (R:VK),i<n->p i=true->Same H H'->(∀ H3,Same H' H3->R (.int (G i)) H3)->te (st i) H' R)
    (hd:∀ H',Same H H'->H' D=some (.lst ((((List.range n).filter p).map G).map V.int))->Q (.ref D) H'):CM J σ0 g tc te Q H D:=by
  refine Gb (m:=0) (p:=p) (G:=λ i=> .int (G i)) S hD hn ht (λ i H' R hi hp s k=>he i H' R hi hp s λ H3 s3=>k H3 _ s3 (.int _)) λ H' ys s hl r=> ?_;have e:((List.range n).filter p).map (λ i=>Dt.int (G i))=(((List.range n).filter p).map G).map Dt.int:=by rw [List.map_map];rfl
  rw [e] at r;obtain ⟨b,eb,hb,fb⟩:=IF r;cases eb;exact hd H' s hb
theorem DR {J:It} {g:TG} {σ0:St} {H:Hp} {n:Nat} {st:Nat->St} {te:TE} {Q:VK} {D:Addr} {G:Nat->Bool} (S:SrcOk J g σ0 H n st) (hD:H D=none) (hn:n<=100000)
    (he:∀ i H' (R:VK),i<n->Same H H'->(∀ H3,Same H' H3->R (.bl (G i)) H3)->te (st i) H' R)
    (hd:∀ H',Same H H'->H' D=some (.lst (((List.range n).map G).map V.bl))->Q (.ref D) H'):CM J σ0 g JC te Q H D:=by
  refine EY (m:=0) (G:=λ i=> .bl (G i)) S hD hn (λ i H' R hi s k=>he i H' R hi s λ H3 s3=>k H3 _ s3 (.bl _)) λ H' ys s hl r=> ?_;have e:ys=((List.range n).map G).map V.bl:=by
    cases r with
    | @lst _ _ vs _ q f b l ee=>
      rw [hl] at q;cases q;refine List.ext_getElem (by simpa using l) λ i h1 h2=> ?_;have hi:i<n:=by simpa using h2
      have:=ee i ys[i] (.bl (G i)) (by simp [h1]) (by simp [hi]);cases hv:ys[i] <;> rw [hv] at this <;> cases this;simp
  rw [e] at hl;exact hd H' s hl
def IW (P:Program) (w:World) (K:PySem.W.Frag) (mg:Str->Option Value) (base:Heap) (x:Str) (C:Addr) (k:Nat) (ps:List Str) (sp:Sp):Prop:=
  ∃ f fd,mg x=some (.ref C)/\Mk K C f/\FnOk P w K mg base CX0 k f fd ps sp/\Binds K fd ps []
def BK (P:Program) (w:World) (K:PySem.W.Frag) (mg:Str->Option Value) (base:Heap) (C:Addr) (m:Str) (k:Nat) (ps:List Str) (sp:Sp):Prop:=
  ∃ f fd,Cls K C/\Meth K C m f/\FnOk P w K mg base CX0 k f fd ps sp/\Binds K fd ps []
section
variable {X:Cx} {x m:Str} {C:Addr} {k:Nat} {ps:List Str} {sp:Sp} {o e:Expr} {es:List Expr} {t:TA} {ta:TE} {p pos apos:Pos}
theorem Fo (h:IW X.prog X.w X.K X.mg X.base x C k ps sp) (hr:Room (k+1) X.A) (ha:PA X (e::es) t) (hg:Gl X x:=by rfl) (hdb:(x == ("__debug__":Str))=false:=by decide)
    (he:starEach (e::es) X.env=(false,eval e X.env)::starEach es X.env:=by rfl) (hpl:(backTo pos (starEach es X.env)).any (·.1)=false:=by rfl):
    PE X (.Call (.Name x p) (e::es) [] pos) (Ik C sp [] E0 t):=by
  obtain ⟨f,fd,hm,M,F,hb⟩:=h;exact LR M F hr hg hm hb .nil IU ha hdb he hpl
theorem Ks {pl:Sem Bool} (he:PE X o ta) (h:BK X.prog X.w X.K X.mg X.base C m k ps sp) (hr:Room k X.A) (ha:PA X (e::es) t)
    (hst:starEach (e::es) X.env=(false,eval e X.env)::starEach es X.env:=by rfl) (hpl:(backTo pos (starEach es X.env)).any (·.1)=false:=by rfl)
    (ht:eval (.Call (.Attribute o m apos) (e::es) [] pos) X.env=(do
      let ov <-eval o X.env
      standAt apos.atName
      let (f,first) <-holding [ov] (getMethod ov m pl)
      callWith pos f first (backTo pos (starEach (e::es) X.env)) (backToKw pos (keywordEach [] X.env))):=by rfl):
    PE X (.Call (.Attribute o m apos) (e::es) [] pos) (FY C m sp [] E0 ta t):=by
  obtain ⟨f,fd,c,hm,F,hb⟩:=h;exact LP (pl:=pl) he c hm F hr hb .nil IU ha hst hpl ht
theorem AU {pl:Sem Bool} (he:PE X o ta) (h:BK X.prog X.w X.K X.mg X.base C m k ps sp) (hr:Room k X.A)
    (ht:eval (.Call (.Attribute o m apos) [] [] pos) X.env=(do
      let ov <-eval o X.env
      standAt apos.atName
      let (f,first) <-holding [ov] (getMethod ov m pl)
      callWith pos f first (backTo pos (starEach [] X.env)) (backToKw pos (keywordEach [] X.env))):=by rfl):
    PE X (.Call (.Attribute o m apos) [] [] pos) (FY C m sp [] E0 ta LW):=by
  obtain ⟨f,fd,c,hm,F,hb⟩:=h;exact K6 (pl:=pl) he c hm F hr hb .nil IU ht
end
structure Kind (K:PySem.W.Frag) (C:Addr):Prop where
  cl:Cls K C
  ha:PySem.W.findIn K (.ref C) "__class__"=some (some (.builtin "object.__class__"))
  hn:PySem.W.specialIn K (.builtin "object.__class__") "__get__"=some (some (.builtin "getset_descriptor.__get__"))
  htk:PySem.W.takesIn K (.builtin "object.__class__")=some true
  hm:PySem.W.mroIn K C (.type "object")=some true
section
variable {K:PySem.W.Frag} {H:Hp} {Q:VK} {σ:St} {D:Ends} {te tv:TE} {t:TA} {a C dx:Addr} {fs:List (Str × V)} {f:Str} {v:V} {sp:Sp}
theorem M8 (h:te σ H λ x H1=>∃ a C dx fs v,x= .ref a/\H1 a=some (.ins C dx fs)/\Cls K C/\NoAttr K C f/\fs.lookup f=some v/\Q v H1):Nb K te f σ H Q:=h
theorem NT (h:tv σ H λ y H1=>te σ H1 λ x H2=>∃ a C dx fs,x= .ref a/\H2 a=some (.ins C dx fs)/\Cls K C/\NoAttr K C f/\fs.length<1000/\D.nx σ (upd H2 a (.ins C dx (Ce f y fs)))):O2 K te tv f D σ H:=h
theorem Kx {y:V} (e:H a=some (.ins C dx fs)) (c:Cls K C) (n:NoAttr K C f) (l:fs.length<1000) (h:D.nx σ (upd H a (.ins C dx (Ce f y fs)))):∃ a' C' dx' fs',V.ref a= .ref a'/\H a'=some (.ins C' dx' fs')/\Cls K C'/\NoAttr K C' f/\fs'.length<1000/\D.nx σ (upd H a' (.ins C' dx' (Ce f y fs'))):=⟨a,C,dx,fs,rfl,e,c,n,l,h⟩
theorem Lg (h:t σ H λ vs H1=>∀ x dx,H1 x=none->H1 dx=none->dx≠x->sp (.ref x::vs) (upd (upd H1 dx (.own x)) x (.ins C dx [])) (λ v H2=>v= .non/\Q (.ref x) H2) E0):Ik C sp [] E0 t σ H Q:=by
  unfold Ik;simpa using h
theorem L1 {m:Str} (h:te σ H λ x H1=>∃ a dx fs,x= .ref a/\H1 a=some (.ins C dx fs)/\fs.lookup m=none/\t σ H1 λ vs H2=>sp (x::vs) H2 Q E0):FY C m sp [] E0 te t σ H Q:=by
  unfold FY;simpa using h
end
theorem Kw {r r':R2} {ta tb tc:TE} {σ:St} {H:Hp} {Q:VK} (h:ta σ H λ x H1=>tb σ H1 λ y H2=>r x y H2 λ z H3=>∃ k,z= .bl k/\(if k=true then tc σ H3 λ w' H4=>r' y w' H4 Q else Q (.bl false) H3)):JZ r r' ta tb tc σ H Q:=h
def GN (x:V) (a b:Int):Bool:=match x with | .int i=>decide (a<=i)&&decide (i<=b) | _=>false
theorem Ha {b b':Bool} {Q:VK} {H:Hp} (e:b=b') (h:Q (.bl b') H):Q (.bl b) H:=e▸h
theorem EO {b:Bool} {A B:Prop} (h1:b=true->A) (h2:b=false->B):if b=true then A else B:=by
  cases b with
  | true=>exact h1 rfl
  | false=>exact h2 rfl
theorem KN {H:Hp} {x dx:Addr} {o:HO} {u:HO} (h1:H x=none) (h2:H dx=none):Same H (upd (upd H dx u) x o):=λ b q e=>by
  rw [Av (AD e h1),Av (AD e h2)];exact e
mutual
def eqD:Dt->Dt->Bool
  | .non, .non=>true
  | .bl a, .bl b=>a == b
  | .int a, .int b=>a == b
  | .str a, .str b=>a == b
  | .bl a, .int b=>(if a then 1 else 0) == b
  | .int a, .bl b=>a == (if b then 1 else 0)
  | .lst xs, .lst ys=>Ca xs ys
  | .tup xs, .tup ys=>Ca xs ys
  | _,_=>false
def Ca:List Dt->List Dt->Bool
  | [],[]=>true
  | x::xs,y::ys=>eqD x y&&Ca xs ys
  | _,_=>false
end
theorem CP:∀ {xs ys:List Dt},xs.length≠ys.length->Ca xs ys=false
  | [],[],h=>absurd rfl h
  | [],_::_,_=>by unfold Ca;rfl
  | _::_,[],_=>by unfold Ca;rfl
  | x::xs,y::ys,h=>by
    unfold Ca;rw [CP (xs:=xs) (ys:=ys) (λ e=>h (by simp [e])),Bool.and_false]
theorem CS:∀ {xs ys:List Dt},xs.length=ys.length->Ca xs ys=(List.range xs.length).all λ i=>eqD (xs.getD i .non) (ys.getD i .non)
  | [],[],_=>by unfold Ca;rfl
  | [],_::_,h=>by simp at h
  | _::_,[],h=>by simp at h
  | x::xs,y::ys,h=>by
    unfold Ca;rw [CS (xs:=xs) (ys:=ys) (by simpa using h),List.length_cons,List.range_succ_eq_map,List.all_cons,List.all_map];rfl
mutual
theorem E8:∀ d:Dt,eqD d d=true
  | .non=>by unfold eqD;rfl
  | .bl a=>by unfold eqD;simp
  | .int a=>by unfold eqD;simp
  | .str a=>by unfold eqD;simp
  | .lst xs=>by unfold eqD;exact El xs
  | .tup xs=>by unfold eqD;exact El xs
theorem El:∀ d:List Dt,Ca d d=true
  | []=>by unfold Ca;rfl
  | x::xs=>by unfold Ca;rw [E8 x,El xs];rfl
end
theorem Rp.inj {H:Hp} {F G:Addr->Prop} {n m:Nat} {v:V} {d e:Dt} (r:Rp H F n v d) (r2:Rp H G m v e):d=e:=by
  induction r generalizing m e with
  | non=>cases r2;rfl
  | bl b=>cases r2;rfl
  | int i=>cases r2;rfl
  | str z=>cases r2;rfl
  | @lst n a vs ds h f b l el ih=>
    cases r2 with
    | @lst m _ vs2 ds2 h2 f2 b2 l2 el2=>
      rw [h] at h2;cases h2;congr 1;refine List.ext_getElem (by omega) λ i h1 h3=> ?_;have hv:i<vs.length:=by omega
      exact ih i vs[i] ds[i] (by simp [hv]) (by simp [h1]) (el2 i vs[i] ds2[i] (by simp [hv]) (by simp [h3]))
    | tup h2 _ _ _=>rw [h] at h2;cases h2
  | @tup n a vs ds h b l el ih=>
    cases r2 with
    | @tup m _ vs2 ds2 h2 b2 l2 el2=>
      rw [h] at h2;cases h2;congr 1;refine List.ext_getElem (by omega) λ i h1 h3=> ?_;have hv:i<vs.length:=by omega
      exact ih i vs[i] ds[i] (by simp [hv]) (by simp [h1]) (el2 i vs[i] ds2[i] (by simp [hv]) (by simp [h3]))
    | lst h2 _ _ _ _=>rw [h] at h2;cases h2
section
variable {X:Cx} {pins:List (Addr × Obj)} {σ:St} {H:Hp} {s:Shared}
theorem ES {F G:Addr->Prop} {n:Nat} {xs ys:List V} {ds es:List Dt} {its its2:List Value} {A:Around} (r:Vals xs its) (r2:Vals ys its2) (l1:xs.length=ds.length) (l2:ys.length=es.length)
    (el:∀ (i:Nat) (v:V) (d:Dt),xs[i]?=some v->ds[i]?=some d->Rp H F n v d) (el2:∀ (i:Nat) (v:V) (d:Dt),ys[i]?=some v->es[i]?=some d->Rp H G n v d)
    (ih:∀ {v u:V} {d e:Dt} {rv ru:Value},Rp H F n v d->Rp H G n u e->RelV v rv->RelV u ru->SeqAt.EqAt A s rv ru (eqD d e)):
    ∀ j (h1:j<its.toArray.size) (h2:j<its2.toArray.size),SeqAt.EqAt A s its.toArray[j] its2.toArray[j] (eqD (ds.getD j .non) (es.getD j .non)):=λ j h1 h2=>by
  have k1:=r.length;have k2:=r2.length;have h1':j<its.length:=by simpa using h1
  have h2':j<its2.length:=by simpa using h2
  have g1:xs[j]?=some (xs.getD j .non):=by rw [List.getD_eq_getElem?_getD,List.getElem?_eq_getElem (by omega)];rfl
  have g2:ys[j]?=some (ys.getD j .non):=by rw [List.getD_eq_getElem?_getD,List.getElem?_eq_getElem (by omega)];rfl
  have d1:ds[j]?=some (ds.getD j .non):=by rw [List.getD_eq_getElem?_getD,List.getElem?_eq_getElem (by omega)];rfl
  have d2:es[j]?=some (es.getD j .non):=by rw [List.getD_eq_getElem?_getD,List.getElem?_eq_getElem (by omega)];rfl
  obtain ⟨u,e1,ru⟩:=r.get g1;obtain ⟨u2,e2,ru2⟩:=r2.get g2;have q1:its.toArray[j]=u:=by rw [List.getElem?_eq_getElem h1'] at e1;simpa using Option.some.inj e1
  have q2:its2.toArray[j]=u2:=by rw [List.getElem?_eq_getElem h2'] at e2;simpa using Option.some.inj e2
  rw [q1,q2];exact ih (el j _ _ g1 d1) (el2 j _ _ g2 d2) ru ru2
theorem Da (A:Around):A.in1.units=A.units+1:=rfl
theorem K1 (I:Inv X pins σ H s) {F G:Addr->Prop}:∀ {n:Nat} {A:Around} {v u:V} {d e:Dt} {rv ru:Value},Rp H F n v d->Rp H G n u e->RelV v rv->RelV u ru->A.units+n<cLine->SeqAt.EqAt A s rv ru (eqD d e):=by
  intro n;have sc:∀ {n m:Nat} {A:Around} {v u:V} {d e:Dt} {rv ru:Value},Rp H F n v d->Rp H G m u e->(CW d||BQ d)=false->(CW e||BQ e)=false->RelV v rv->RelV u ru->SeqAt.EqAt A s rv ru (eqD d e):=by
    intro n m A v u d e rv ru r r2 n1 n2 rr rr2;cases r with
    | non=>
      cases rr;cases r2 with
      | non=>
        cases rr2;simp only [eqD];exact (show SeqAt.EqAt A s Value.none Value.none true from SeqAt.EqAt.same _)
      | bl x2=>
        cases rr2;simp only [eqD];exact SeqAt.EqAt.none_bool _
      | int x2=>
        obtain ⟨t2,rfl⟩:=rr2;simp only [eqD];exact SeqAt.EqAt.none_int _ _
      | str x2=>
        obtain ⟨t2,rfl⟩:=rr2;simp only [eqD];exact SeqAt.EqAt.none_str _ _
      | lst _ _ _ _ _=>cases n2
      | tup _ _ _ _=>cases n2
    | bl x1=>
      cases rr;cases r2 with
      | non=>
        cases rr2;simp only [eqD];exact SeqAt.EqAt.bool_none _
      | bl x2=>
        cases rr2;simp only [eqD];exact SeqAt.EqAt.bool_bool _ _
      | int x2=>
        obtain ⟨t2,rfl⟩:=rr2;simp only [eqD];exact SeqAt.EqAt.bool_int _ _ _
      | str x2=>
        obtain ⟨t2,rfl⟩:=rr2;simp only [eqD];exact SeqAt.EqAt.bool_str _ _ _
      | lst _ _ _ _ _=>cases n2
      | tup _ _ _ _=>cases n2
    | int x1=>
      obtain ⟨t1,rfl⟩:=rr;cases r2 with
      | non=>
        cases rr2;simp only [eqD];exact SeqAt.EqAt.int_none _ _
      | bl x2=>
        cases rr2;simp only [eqD];exact SeqAt.EqAt.int_bool _ _ _
      | int x2=>
        obtain ⟨t2,rfl⟩:=rr2;simp only [eqD];exact SeqAt.EqAt.int_int _ _ _ _
      | str x2=>
        obtain ⟨t2,rfl⟩:=rr2;simp only [eqD];exact SeqAt.EqAt.int_str _ _ _ _
      | lst _ _ _ _ _=>cases n2
      | tup _ _ _ _=>cases n2
    | str x1=>
      obtain ⟨t1,rfl⟩:=rr;cases r2 with
      | non=>
        cases rr2;simp only [eqD];exact SeqAt.EqAt.str_none _ _
      | bl x2=>
        cases rr2;simp only [eqD];exact SeqAt.EqAt.str_bool _ _ _
      | int x2=>
        obtain ⟨t2,rfl⟩:=rr2;simp only [eqD];exact SeqAt.EqAt.str_int _ _ _ _
      | str x2=>
        obtain ⟨t2,rfl⟩:=rr2;simp only [eqD];exact SeqAt.EqAt.str_str _ _ _ _
      | lst _ _ _ _ _=>cases n2
      | tup _ _ _ _=>cases n2
    | lst _ _ _ _ _=>cases n1
    | tup _ _ _ _=>cases n1
  induction n with
  | zero=>
    intro A v u d e rv ru r r2 rr rr2 hu;exact sc r r2 (by cases r <;> rfl) (by cases r2 <;> rfl) rr rr2
  | succ n ih=>
    intro A v u d e rv ru r r2 rr rr2 hu;have hu':A.units<cLine:=by omega
    cases h1:(CW d||BQ d) with
    | false=>
      cases h2:(CW e||BQ e) with
      | false=>exact sc r r2 h1 h2 rr rr2
      | true=>
        cases r2 with
        | @lst _ b ys es q2 f2 b2 l2 el2=>
          obtain rfl:ru=Value.ref b:=rr2;obtain ⟨its2,rv2,pl2,_⟩:=I.list (SqL.of q2);cases r with
          | non=>cases rr;simp only [eqD];exact SeqAt.EqAt.none_list pl2.isList hu'
          | bl x1=>cases rr;simp only [eqD];exact SeqAt.EqAt.bool_list _ pl2.isList hu'
          | int x1=>obtain ⟨t,rfl⟩:=rr;simp only [eqD];exact SeqAt.EqAt.int_list _ _ pl2.isList hu'
          | str x1=>obtain ⟨t,rfl⟩:=rr;simp only [eqD];exact SeqAt.EqAt.str_list _ _ pl2.isList hu'
          | lst _ _ _ _ _=>cases h1
          | tup _ _ _ _=>cases h1
        | @tup _ b ys es q2 b2 l2 el2=>
          obtain rfl:ru=Value.ref b:=rr2;obtain ⟨its2,rv2,pl2,_⟩:=I.tuple (SqT.of q2);have pl2:s.heap.IsTuple b its2.toArray:=pl2;cases r with
          | non=>cases rr;simp only [eqD];exact SeqAt.EqAt.none_tuple pl2 hu'
          | bl x1=>cases rr;simp only [eqD];exact SeqAt.EqAt.bool_tuple _ pl2 hu'
          | int x1=>obtain ⟨t,rfl⟩:=rr;simp only [eqD];exact SeqAt.EqAt.int_tuple _ _ pl2 hu'
          | str x1=>obtain ⟨t,rfl⟩:=rr;simp only [eqD];exact SeqAt.EqAt.str_tuple _ _ pl2 hu'
          | lst _ _ _ _ _=>cases h1
          | tup _ _ _ _=>cases h1
        | _=>cases h2
    | true=>
      cases r with
      | @lst _ a xs ds q1 f1 b1 l1 el1=>
        obtain rfl:rv=Value.ref a:=rr;obtain ⟨its,rv1,pl,_⟩:=I.list (SqL.of q1);have k1:=rv1.length;cases r2 with
        | @lst _ b ys es q2 f2 b2 l2 el2=>
          obtain rfl:ru=Value.ref b:=rr2;obtain ⟨its2,rv2,pl2,_⟩:=I.list (SqL.of q2);have k2:=rv2.length;by_cases hab:a=b
          · subst hab;have e:=(Rp.lst (n:=n) q1 f1 b1 l1 el1).inj (Rp.lst (n:=n) q2 f2 b2 l2 el2);rw [e,E8];exact SeqAt.EqAt.same _
          · refine SeqAt.EqAt.of_refs hab ?_;simp only [eqD];by_cases hl:ds.length=es.length
            · rw [CS hl];have q:=SeqAt.RcAt.lists (A:=A) (e:=λ i=>eqD (ds.getD i .non) (es.getD i .non)) pl.isList pl2.isList (by simp;omega) hu' (ES rv1 rv2 l1 l2 el1 el2 λ r r2 rr rr2=>ih r r2 rr rr2 (by rw [Da];omega));rw [show its.toArray.size=ds.length by simp;omega] at q;exact q
            · rw [CP hl];exact SeqAt.RcAt.lists_lengths pl.isList pl2.isList (by simp;omega) hu'
        | @tup _ b ys es q2 b2 l2 el2=>
          obtain rfl:ru=Value.ref b:=rr2;obtain ⟨its2,rv2,pl2,_⟩:=I.tuple (SqT.of q2);simp only [eqD];exact SeqAt.EqAt.list_tuple pl.isList (show s.heap.IsTuple b its2.toArray from pl2) hu'
        | non=>cases rr2;simp only [eqD];exact SeqAt.EqAt.list_none pl.isList hu'
        | bl x1=>cases rr2;simp only [eqD];exact SeqAt.EqAt.list_bool _ pl.isList hu'
        | int x1=>obtain ⟨t,rfl⟩:=rr2;simp only [eqD];exact SeqAt.EqAt.list_int _ _ pl.isList hu'
        | str x1=>obtain ⟨t,rfl⟩:=rr2;simp only [eqD];exact SeqAt.EqAt.list_str _ _ pl.isList hu'
      | @tup _ a xs ds q1 b1 l1 el1=>
        obtain rfl:rv=Value.ref a:=rr;obtain ⟨its,rv1,pl,_⟩:=I.tuple (SqT.of q1);have pl:s.heap.IsTuple a its.toArray:=pl;have k1:=rv1.length;cases r2 with
        | @tup _ b ys es q2 b2 l2 el2=>
          obtain rfl:ru=Value.ref b:=rr2;obtain ⟨its2,rv2,pl2,_⟩:=I.tuple (SqT.of q2);have pl2:s.heap.IsTuple b its2.toArray:=pl2;have k2:=rv2.length;by_cases hab:a=b
          · subst hab;have e:=(Rp.tup (n:=n) (F:=F) q1 b1 l1 el1).inj (Rp.tup (n:=n) (F:=G) q2 b2 l2 el2);rw [e,E8];exact SeqAt.EqAt.same _
          · refine SeqAt.EqAt.of_refs hab ?_;simp only [eqD];have q:=SeqAt.RcAt.tuples (A:=A) (e:=λ i=>eqD (ds.getD i .non) (es.getD i .non)) pl pl2 hu' (ES rv1 rv2 l1 l2 el1 el2 λ r r2 rr rr2=>ih r r2 rr rr2 (by rw [Da];omega));have e1:its.toArray.size=ds.length:=by simp;omega
            have e2:its2.toArray.size=es.length:=by simp;omega
            rw [e1,e2] at q;by_cases hl:ds.length=es.length
            · rw [CS hl];rw [<-hl,Nat.min_self,beq_self_eq_true,Bool.and_true] at q;exact q
            · rw [CP hl];rw [beq_eq_false_iff_ne.mpr hl,Bool.and_false] at q;exact q
        | @lst _ b ys es q2 f2 b2 l2 el2=>
          obtain rfl:ru=Value.ref b:=rr2;obtain ⟨its2,rv2,pl2,_⟩:=I.list (SqL.of q2);simp only [eqD];exact SeqAt.EqAt.tuple_list pl pl2.isList hu'
        | non=>cases rr2;simp only [eqD];exact SeqAt.EqAt.tuple_none pl hu'
        | bl x1=>cases rr2;simp only [eqD];exact SeqAt.EqAt.tuple_bool _ pl hu'
        | int x1=>obtain ⟨t,rfl⟩:=rr2;simp only [eqD];exact SeqAt.EqAt.tuple_int _ _ pl hu'
        | str x1=>obtain ⟨t,rfl⟩:=rr2;simp only [eqD];exact SeqAt.EqAt.tuple_str _ _ pl hu'
      | _=>cases h1
def OF (neg:Bool):R2:=λ x y H Q=>∃ (n:Nat) (d e:Dt),n<=30/\Rp H FT n x d/\Rp H FT n y e/\(CW d&&CW e||BQ d&&BQ e)=true/\Q (.bl (if neg then !eqD d e else eqD d e)) H
theorem MK (hu:X.A.units+64<cLine):OpR X (compareOp .Eq) (OF false):=by
  intro pins s σ H x y v u Q I rx ry h;obtain ⟨n,d,e,hn,r,r2,hs,q⟩:=h;cases r with
  | @lst m a xs ds q1 f1 b1 l1 el1=>
    cases r2 with
    | @lst _ b ys es q2 f2 b2 l2 el2=>
      obtain rfl:v=Value.ref a:=rx;obtain rfl:u=Value.ref b:=ry;obtain ⟨its,rv1,pl,_⟩:=I.list (SqL.of q1);obtain ⟨its2,rv2,pl2,_⟩:=I.list (SqL.of q2);have k1:=rv1.length;have k2:=rv2.length;have q:Q (.bl (Ca ds es)) H:=by
        have q:=q;unfold eqD at q;exact q
      by_cases hl:ds.length=es.length
      · refine SeqAt.eq_listAt (e:=λ i=>eqD (ds.getD i .non) (es.getD i .non)) pl.isList pl2.isList (by simp;omega) (by omega) (ES rv1 rv2 l1 l2 el1 el2 λ r r2 rr rr2=>K1 I r r2 rr rr2 (by rw [Da];omega)) ⟨.bl _,H,I,rfl,?_⟩;rw [show its.toArray.size=ds.length by simp;omega, <-CS hl];exact q
      · refine SeqAt.eq_list_lengthsAt pl.isList pl2.isList (by simp;omega) (by omega) ⟨.bl _,H,I,rfl,?_⟩;rw [<-CP hl];exact q
    | _=>cases hs
  | @tup m a xs ds q1 b1 l1 el1=>
    cases r2 with
    | @tup _ b ys es q2 b2 l2 el2=>
      obtain rfl:v=Value.ref a:=rx;obtain rfl:u=Value.ref b:=ry;obtain ⟨its,rv1,pl,_⟩:=I.tuple (SqT.of q1);obtain ⟨its2,rv2,pl2,_⟩:=I.tuple (SqT.of q2);have k1:=rv1.length;have k2:=rv2.length;have q:Q (.bl (Ca ds es)) H:=by
        have q:=q;unfold eqD at q;exact q
      refine SeqAt.eq_tupleAt (e:=λ i=>eqD (ds.getD i .non) (es.getD i .non)) (show s.heap.IsTuple a its.toArray from pl) (show s.heap.IsTuple b its2.toArray from pl2) (by omega) (ES rv1 rv2 l1 l2 el1 el2 λ r r2 rr rr2=>K1 I r r2 rr rr2 (by rw [Da];omega)) ⟨.bl _,H,I,rfl,?_⟩;have e1:its.toArray.size=ds.length:=by simp;omega
      have e2:its2.toArray.size=es.length:=by simp;omega
      rw [e1,e2];by_cases hl:ds.length=es.length
      · rw [<-hl,Nat.min_self,beq_self_eq_true,Bool.and_true, <-CS hl];exact q
      · rw [beq_eq_false_iff_ne.mpr hl,Bool.and_false, <-CP hl];exact q
    | _=>cases hs
  | _=>cases hs
end
end L2
namespace L2
open PySem PySem.Spec PyProof.Rows
abbrev dN (n:Nat):Dt:= .int (n:Nat)
def dL (ns:List Nat):Dt:= .lst (ns.map dN)
def dT (ns:List Nat):Dt:= .tup (ns.map dN)
def dS (zs:List Str):Dt:= .lst (zs.map .str)
section
variable {H:Hp} {F:Addr->Prop} {n:Nat} {v:V}
theorem Kc {α:Type} {f:α->V} {g:α->Dt} (uniq:∀ (a:α) (v:V),Rp H F n v (g a)->v=f a) {vs:List V} {as:List α} (l:vs.length=(as.map g).length)
    (e:∀ (i:Nat) (v:V) (d:Dt),vs[i]?=some v->(as.map g)[i]?=some d->Rp H F n v d):vs=as.map f:=by
  refine List.ext_getElem (by simpa using l) λ i h1 h2=> ?_;have h3:i<as.length:=by simpa using h2
  rw [List.getElem_map];exact uniq _ _ (e i vs[i] (g as[i]) (by simp [h1]) (by simp [h3]))
theorem Nc (a:Str) (v:V) (r:Rp H F n v (.str a)):v= .str a:=by cases r;rfl
theorem OP {zs:List Str} (r:Rp H F n v (dS zs)):∃ a,v= .ref a/\H a=some (.lst (zs.map V.str))/\F a/\zs.length<=100000:=by
  unfold dS at r;cases r with
  | @lst m a vs _ h f b l e=>
    have q:=Kc (f:=V.str) (λ a v r=>Nc a v r) l e;subst q;exact ⟨a,rfl,h,f,by simpa using b⟩
theorem J7 {α:Type} {f:α->V} {g:α->Dt} {as:List α} (k:∀ a∈as,Rp H F n (f a) (g a)):∀ (i:Nat) (v:V) (d:Dt),(as.map f)[i]?=some v->(as.map g)[i]?=some d->Rp H F n v d:=by
  intro i v d h1 h2;rw [List.getElem?_map] at h1 h2;cases e:as[i]? with
  | none=>rw [e] at h1;cases h1
  | some a=>
    rw [e] at h1 h2;cases h1;cases h2;exact k a (List.mem_of_getElem? e)
theorem Ol {a:Addr} {ns:List Nat} (h:H a=some (.lst (ns.map nV))) (f:F a) (b:ns.length<=100000):Rp H F (n+1) (.ref a) (dL ns):= .lst h f (by simpa using b) (by simp) (J7 λ k _=> .int _)
theorem Li {a:Addr} {ns:List Nat} (h:H a=some (.tup (ns.map nV))) (b:ns.length<=100000):Rp H F (n+1) (.ref a) (dT ns):= .tup h (by simpa using b) (by simp) (J7 λ k _=> .int _)
theorem Fn {α β:Type} (f:α->β) (as:List α) (i:Nat) (x:β) (y:α) (h:i<as.length):(as.map f).getD i x=f (as.getD i y):=by simp [List.getD_eq_getElem?_getD,h]
theorem DM {zs:List Str} {i:Nat} (h:i<(zs.map V.str).length):(zs.map V.str).getD i .non= .str (zs.getD i Str.empty):=Fn V.str zs i .non Str.empty (by simpa using h)
theorem getD_mem {α:Type} {as:List α} {i:Nat} {y:α} (h:i<as.length):as.getD i y∈as:=by
  rw [List.getD_eq_getElem?_getD,List.getElem?_eq_getElem h];exact List.getElem_mem h
end
section
variable {H:Hp} {a:Addr} {kvs:List (Key × V)}
end
theorem JO {xs:List V} {k:Int} (h:0<=k):Bq xs (some k) none=xs.drop k.toNat:=by
  unfold Bq;have e2:HT.sIx xs.length xs.length none=xs.length:=rfl;rw [e2];have e1:HT.sIx xs.length 0 (some k)=min k.toNat xs.length:=by
    unfold HT.sIx;simp only;split <;> omega
  rw [e1];by_cases q:k.toNat<=xs.length
  · rw [Nat.min_eq_left q,List.take_of_length_le (by simp)]
  · rw [Nat.min_eq_right (by omega),List.drop_of_length_le (Nat.le_refl _),List.drop_of_length_le (by omega)];simp
theorem E4 {xs:List V} {k:Int} (h:0<=k):Bq xs none (some k)=xs.take k.toNat:=by
  unfold Bq;have e2:HT.sIx xs.length 0 none=0:=rfl;rw [e2,List.drop_zero];have e1:HT.sIx xs.length xs.length (some k)=min k.toNat xs.length:=by
    unfold HT.sIx;simp only;split <;> omega
  rw [e1,Nat.sub_zero];by_cases q:k.toNat<=xs.length
  · rw [Nat.min_eq_left q]
  · rw [Nat.min_eq_right (by omega),List.take_of_length_le (Nat.le_refl _),List.take_of_length_le (by omega)]
section
variable {K:PySem.W.Frag} {wi:TI} {own:List Str} {fr:List (Str × Nat)} {g:TG} {tc:TT} {te tl:TE} {tb:TS} {D:Ends} {σ:St} {H:Hp} {Q:VK} {R:It->Hp->Prop} {ta:TA}
theorem LJ (h:wi σ H λ J H1=>∀ D,H1 D=none->CM J (Bu own fr σ) g tc te Q H1 D):Dj wi own fr g tc te σ H Q:=h
theorem MT (h:wi σ H λ J H1=>∃ W:Nat->Nat->St->Hp->Prop,(∃ m,W 0 m σ H1)/\∀ i m σ H,W i m σ H->
  (J.stop i H/\D.nx σ H)\/(J.go i H/\∃ N:St->Hp->Prop,(∀ σ' H',N σ' H'->∃ m',m'<m/\W (i+1) m' σ' H')/\∀ x H',J.yld i H x H'->g x σ H' λ σ2 H2=>tb { D with nx:=N,ct:=N,bk:=D.nx } σ2 H2)):OV wi g tb D σ H:=h
theorem OH (h:tl σ H λ x H1=>∃ a,x= .ref a/\(∃ xs,SqL K H1 a xs)/\R (Itl K a) H1):KU K tl σ H R:=h
theorem OG (h:tl σ H λ x H1=>∃ a,x= .ref a/\(∃ xs,SqT K H1 a xs)/\R (Itt K a) H1):Nz K tl σ H R:=h
theorem O8 (h:tl σ H λ x H1=>∃ tp a,x= .ref a/\(∃ xs,SqS tp K H1 a xs)/\R (Isq tp K a) H1):iSq K tl σ H R:=h
theorem Og (h:ta σ H λ vs H1=>∃ a,vs=[.ref a]/\(∃ xs,SqL K H1 a xs)/\R (Ite K a) H1):MI K ta σ H R:=h
theorem Od (h:ta σ H λ vs H1=>∃ tp a,vs=[.ref a]/\(∃ xs,SqS tp K H1 a xs)/\R (KW tp K a) H1):Kb K ta σ H R:=h
theorem O1 (h:ta σ H λ vs H1=>∃ t1 t2 a b,vs=[.ref a, .ref b]/\(∃ xs,SqS t1 K H1 a xs)/\(∃ ys,SqS t2 K H1 b ys)/\R (Izs t1 t2 K a b) H1):iZs K ta σ H R:=h
theorem Oi (h:ta σ H λ vs H1=>∃ j:Int,vs=[.int j]/\ -(2 ^ 62)<=j/\j<2 ^ 62/\R (Itr 0 j.toNat) H1):Mt ta σ H R:=h
theorem OW (h:ta σ H λ vs H1=>∃ i j:Int,vs=[.int i, .int j]/\(-(2 ^ 62)<=i/\i<2 ^ 62/\ -(2 ^ 62)<=j/\j<2 ^ 62)/\R (Itr i (j - i).toNat) H1):Ms ta σ H R:=h
end
theorem ER {K:PySem.W.Frag} {n:Nat} {t:TGs} {a:Addr} {xs:List V} {σ:St} {H:Hp} {QS:St->Hp->Prop} (h:SqT K H a xs) (l:xs.length=n) (k:t xs σ H QS):Fh K n t (.ref a) σ H QS:=⟨a,xs,rfl,h,l,k⟩
theorem Kv {t:TG} {u:TGs} {v:V} {vs:List V} {σ:St} {H:Hp} {QS:St->Hp->Prop} (k:t v σ H λ σ' H'=>u vs σ' H' QS):Be t u (v::vs) σ H QS:=⟨v,vs,rfl,k⟩
theorem LD {σ:St} {H:Hp} {QS:St->Hp->Prop} (k:QS σ H):FR [] σ H QS:=⟨rfl,k⟩
theorem Hk {J:It} {g:TG} {H0 H:Hp} {n:Nat} {set:Nat->St->St} {tb:TS} {D:Ends} {σ:St} (S:FSrc J g H0 n set) (Pv:Nat->St->Hp->Prop) (h0:Pv 0 σ H) (hk:∀ i σ H',Pv i σ H'->Same H0 H')
    (hs:∀ i σ H' H3,i<n->Pv i σ H'->Same H' H3->tb { D with nx:=Pv (i+1),ct:=Pv (i+1),bk:=D.nx } (set i σ) H3) (hd:∀ σ H',Pv n σ H'->D.nx σ H'):
    ∃ W:Nat->Nat->St->Hp->Prop,(∃ m,W 0 m σ H)/\∀ i m σ H,W i m σ H->
      (J.stop i H/\D.nx σ H)\/(J.go i H/\∃ N:St->Hp->Prop,(∀ σ' H',N σ' H'->∃ m',m'<m/\W (i+1) m' σ' H')/\∀ x H',J.yld i H x H'->g x σ H' λ σ2 H2=>tb { D with nx:=N,ct:=N,bk:=D.nx } σ2 H2):=by
  refine ⟨λ i m σ H'=>m=n - i/\i<=n/\Pv i σ H',⟨n,by simp,Nat.zero_le _,h0⟩,?_⟩;rintro i m σ H1 ⟨rfl,hi,p⟩;by_cases hlt:i<n
  · exact .inr ⟨S.go i H1 hlt (hk _ _ _ p),Pv (i+1),λ σ' H' p'=>⟨n - (i+1),by omega,rfl,hlt,p'⟩,λ x H' y=>S.yld i σ H1 x H' _ hlt (hk _ _ _ p) y λ H3 s3=>hs i σ H1 H3 hlt p s3⟩
  · have e:i=n:=by omega
    subst e;exact .inl ⟨S.stop H1 (hk _ _ _ p),hd σ H1 p⟩
theorem Cc {H:Hp} {i1 n:Nat}:FSrc (Itr 0 n) (AA i1) H n (λ i σ=>σ.set i1 (some (.int (i:Nat)))):=by
  have:=Fu (H:=H) (i1:=i1) (lo:=0) (n:=n);simpa using this
theorem BO {n:Nat} {σ0:St} {H:Hp} (h0:σ0[0]?=some none):SrcOk (Itr 0 n) (AA 0) σ0 H n (λ i=>σ0.set 0 (some (.int (i:Nat)))):=by
  have:=Eg (H:=H) (lo:=0) (n:=n) h0;simpa using this
theorem Oe {A B:Prop} (h:B):if (!true)=true then A else B:=by simpa using h
theorem O5 {A B:Prop} (h:A):if (!false)=true then A else B:=by simpa using h
theorem NS {α:Type} (f:α->Str) (xs:List α):Dt.lst (xs.map λ x=>Dt.str (f x))=dS (xs.map f):=by unfold dS;rw [List.map_map];rfl
theorem Mc {n:Nat} (G:Nat->Nat):(((List.range n).map λ i=>((G i:Nat):Int))).sum=(((List.range n).map G).sum:Nat):=by
  induction n with
  | zero=>rfl
  | succ n ih=>rw [List.range_succ,List.map_append,List.map_append,List.sum_append,List.sum_append,ih];simp
end L2
namespace L2
theorem getD_el {α:Type} {as:List α} {i:Nat} {y:α} (h:i<as.length):as.getD i y=as[i]:=by
  rw [List.getD_eq_getElem?_getD,List.getElem?_eq_getElem h];rfl
end L2
namespace L2
open PySem PySem.Spec PyProof.Rows
theorem Ij {n j y:Nat} (h:j<n):(List.range n).getD j y=j:=by
  rw [getD_el (by simpa using h),List.getElem_range]
theorem AN {α:Type} (f:Nat->α) {n j:Nat} {y:α} (h:j<n):((List.range n).map f).getD j y=f j:=by
  rw [Fn f (List.range n) j y 0 (by simpa using h),Ij h]
def OD (i j:Int):Prop:=0<j/\j<2 ^ 200
theorem JJ {j:Int} (h0:0<j) (h:j<2 ^ 200):j.natAbs.log2<9000:=by
  have h1:j.natAbs<2 ^ 200:=by omega
  have:=(Nat.log2_lt (show j.natAbs≠0 by omega)).mpr h1;omega
theorem As {X:Cx}:OpR X (binaryOp .FloorDiv) (rI OD λ i j=> .int (i / j)):=opI λ i j _ _ _ _ _ hc q=>by
  rw [<-Int.fdiv_eq_ediv_of_nonneg i (by have:=hc.1;omega)] at q;exact floordiv_int (by have:=hc.1;omega) q (.inl (PyProof.noPylong_of_log2 (JJ hc.1 hc.2)))
section
variable {prog:Program} {w:World} {A:Around} {E:Value->Shared->Prop} {s:Shared} {T:String} {r d:Addr} {n:Nat} {P:Nat->Value->Prop} {St:Nat->Heap->Prop}
end
section
variable {prog:Program} {w:World} {A:Around} {E:Value->Shared->Prop} {s:Shared}
end
section
variable {X:Cx} {K:PySem.W.Frag} {e o:Expr} {ta:TA} {to:TE} {p p2 pos pos2 apos cpos:Pos}
end
section
variable {X:Cx} {K:PySem.W.Frag} {e o:Expr} {es:List Expr} {ta to:TE} {t:TA} {f name:Str} {pos apos cpos:Pos} {T id:String} {r:V->List V->Hp->VK->Prop}
theorem EA (he:PE X e ta) (hb:attributeBase e f X.env (eval e X.env)=eval e X.env) (hK:X.K=K:=by rfl):PE X (.Attribute e f pos) (Nb K ta f):=by
  subst hK;exact NN he hb
theorem M3 (pa:PlainAttrs T) (slot:Slot T name id) (hty:typeOf (.builtin id)=pure (.type "method_descriptor")) (hm:MtR X id r) (ho:PE X o to) (hK:X.K=K:=by rfl)
    (hbase:attributeBase o name X.env (eval o X.env)=eval o X.env:=by rfl) (hline:(apos.endLine == cpos.line)=true:=by rfl):PE X (.Call (.Attribute o name apos) [] [] cpos) (NX K T r to):=by
  subst hK;exact Nr pa slot hty hm ho hbase hline
theorem FW (pa:PlainAttrs T) (slot:Slot T name id) (hty:typeOf (.builtin id)=pure (.type "method_descriptor")) (hm:MtR X id r) (ho:PE X o to) (ha:PA X (e::es) t) (hK:X.K=K:=by rfl)
    (hbase:attributeBase o name X.env (eval o X.env)=eval o X.env:=by rfl)
    (hfew:((backTo cpos (starEach (e::es) X.env)).all (λ x=> !x.1)&&(backToKw cpos (keywordEach [] X.env)).all (λ x=>x.1.isSome)
      && decide ((e::es).length+([]:List Keyword).length+(if ([]:List Keyword).isEmpty then 0 else 1)<30))=true:=by rfl)
    (hline:(apos.endLine == cpos.line)=true:=by rfl) (hs:starEach (e::es) X.env=(false,eval e X.env)::starEach es X.env:=by rfl) (hplain:(backTo cpos (starEach es X.env)).any (·.1)=false:=by rfl):
    PE X (.Call (.Attribute o name apos) (e::es) [] cpos) (tBM K T r to t):=by
  subst hK;exact Oa pa slot hty hm ho ha hbase hfew hline hs hplain
end
section
variable {prog:Program} {w:World} {A:Around} {E:Value->Shared->Prop} {s:Shared}
end
section
variable {X:Cx} {K:PySem.W.Frag} {e o:Expr} {ta:TA} {to:TE} {p p2 pos pos2 apos cpos:Pos}
end
section
variable {X:Cx} {k:Nat} {e o:Expr} {es:List Expr} {t:TA} {to:TE} {pos:Pos} {S:Addr->Sp->Prop}
end
theorem arg1 {α:Type} {P:List α->Prop} (h:∀ a0,P [a0]):∀ us:List α,us.length=1->P us:=λ us hl=>match us,hl with | [a0],_=>h a0
theorem arg2 {α:Type} {P:List α->Prop} (h:∀ a0 a1,P [a0,a1]):∀ us:List α,us.length=2->P us:=λ us hl=>match us,hl with | [a0,a1],_=>h a0 a1
theorem arg3 {α:Type} {P:List α->Prop} (h:∀ a0 a1 a2,P [a0,a1,a2]):∀ us:List α,us.length=3->P us:=λ us hl=>match us,hl with | [a0,a1,a2],_=>h a0 a1 a2
theorem arg4 {α:Type} {P:List α->Prop} (h:∀ a0 a1 a2 a3,P [a0,a1,a2,a3]):∀ us:List α,us.length=4->P us:=λ us hl=>match us,hl with | [a0,a1,a2,a3],_=>h a0 a1 a2 a3
theorem arg5 {α:Type} {P:List α->Prop} (h:∀ a0 a1 a2 a3 a4,P [a0,a1,a2,a3,a4]):∀ us:List α,us.length=5->P us:=λ us hl=>match us,hl with | [a0,a1,a2,a3,a4],_=>h a0 a1 a2 a3 a4
theorem arg6 {α:Type} {P:List α->Prop} (h:∀ a0 a1 a2 a3 a4 a5,P [a0,a1,a2,a3,a4,a5]):∀ us:List α,us.length=6->P us:=λ us hl=>match us,hl with | [a0,a1,a2,a3,a4,a5],_=>h a0 a1 a2 a3 a4 a5
theorem arg7 {α:Type} {P:List α->Prop} (h:∀ a0 a1 a2 a3 a4 a5 a6,P [a0,a1,a2,a3,a4,a5,a6]):∀ us:List α,us.length=7->P us:=λ us hl=>match us,hl with | [a0,a1,a2,a3,a4,a5,a6],_=>h a0 a1 a2 a3 a4 a5 a6
theorem arg8 {α:Type} {P:List α->Prop} (h:∀ a0 a1 a2 a3 a4 a5 a6 a7,P [a0,a1,a2,a3,a4,a5,a6,a7]):∀ us:List α,us.length=8->P us:=λ us hl=>match us,hl with | [a0,a1,a2,a3,a4,a5,a6,a7],_=>h a0 a1 a2 a3 a4 a5 a6 a7
theorem arg9 {α:Type} {P:List α->Prop} (h:∀ a0 a1 a2 a3 a4 a5 a6 a7 a8,P [a0,a1,a2,a3,a4,a5,a6,a7,a8]):∀ us:List α,us.length=9->P us:=λ us hl=>match us,hl with | [a0,a1,a2,a3,a4,a5,a6,a7,a8],_=>h a0 a1 a2 a3 a4 a5 a6 a7 a8
theorem Hb {M:Model} {A:Around} {E:Value->Shared->Prop} {s:Shared} {scope:Scope} {globals:Addr} {closure:List (Str × Addr)} {qual:Str} {outer:Env} {cx:Str} {Q:Env->Shared->Prop}
    (hc1:∀ n cl,cellsFrom n scope.names cl=(cx,n)::cl) (hc2:∀ h:Heap,pushCells h scope.names=h.push { cls:= .type "cell",data:= .cell none })
    (hQ:Q (newEnv scope s.heap.objs.size globals ((cx,s.heap.objs.size+1)::closure) qual none .none (some outer) builtinsNs) { s with heap:=(s.heap.push { cls:= .type "dict",data:= .dict #[] }).push { cls:= .type "cell",data:= .cell none } }):
    wpAny M A (newFunctionEnv scope globals closure [] qual none .none (some outer)) Q E s:=by
  simp only [newFunctionEnv,Option.isSome_some,if_true];refine wpAny_bind (wpAny_alloc ?_);refine wpAny_bind (wpAny_layCells _ (λ name kind cells=>by cases hkc:kind == NameKind.cell <;> simp [hkc]) _ _ _ _ ?_);rw [hc1,hc2];have e:(s.heap.push { cls:= .type "dict",data:= .dict #[] }).objs.size=s.heap.objs.size+1:=Heap.size_push ..;simp only [e];refine wpAny_bind ?_;rw [List.forIn_nil];exact wpAny_pure (wpAny_pure hQ)
structure BlkScopeC (X:Cx) (scope:Scope) (cx:Str) (own:List Str) (fr:List (Str × Nat)):Prop where
  kind:scope.kind= .function
  onec:∀ y∈scope.names,y.2= .cell->y.1=cx
  isc:scope.names.lookup cx=some .cell
  lay:∀ n cl,cellsFrom n scope.names cl=(cx,n)::cl
  push:∀ h:Heap,pushCells h scope.names=h.push { cls:= .type "cell",data:= .cell none }
  loc:∀ y∈scope.names,y.2= .local->scope.names.lookup y.1=some .local
  free:∀ y∈scope.names,y.2= .free->(X.env.scope.names.lookup y.1=some .cell\/X.env.scope.names.lookup y.1=some .free)
  fr:∀ p∈fr,X.N[p.2]?=some p.1/\(p.1,NameKind.free)∈scope.names
  only:∀ x,(x,NameKind.free)∈scope.names->scope.names.lookup x=some .free
def AX (X:Cx) (scope:Scope) (cx:Str) (own:List Str) (fr:List (Str × Nat)) (C:Addr) (ex:List Addr) (s:Shared) (H:Hp):Cx where
  prog:=X.prog
  w:=X.w
  K:=X.K
  mg:=X.mg
  base:=X.base
  A:=X.A
  N:=own++fr.map (·.1)
  s₀:=s
  H₀:=H
  env:=compEnvC scope ((cx,C+1)::Ar X.env.cells scope.names []) C X.env
  outer:=X.stack
  stack:=X.stack
  ex:=ex
  fn:=λ y=>y == cx
  calm:=X.calm
  pn:=[]
  xe:=λ _ _=>False
section
variable {X:Cx} {pins:List (Addr × Obj)} {σ:St} {H:Hp} {s:Shared} {scope:Scope} {cx:Str} {own:List Str} {fr:List (Str × Nat)} {fp:List Addr}
theorem BlkScopeC.cells (S:BlkScopeC X scope cx own fr) (ok:X.Ok):∀ y∈scope.names,y.2= .free->∃ c,X.env.cells.lookup y.1=some c:=λ y hy e=>ok.has y.1 (S.free y hy e)
theorem Ej {α:Type} {x y:Str} {a:α} {l:List (Str × α)} (h:y≠x):((x,a)::l).lookup y=l.lookup y:=by
  have:(y == x)=false:=by simpa using h
  rw [List.lookup_cons,this]
theorem F4 {α:Type} {x:Str} {a:α} {l:List (Str × α)}:((x,a)::l).lookup x=some a:=by rw [List.lookup_cons,beq_self_eq_true]
theorem Inv.blockC {h':Heap} {t':Nat} {m:Str->Option Value} (I:Inv X pins σ H s) (S:BlkScopeC X scope cx own fr) (hf:∀ b∈fp,BP X pins H b) (hlt:∀ b∈fp,b<s.heap.objs.size)
    (hns:h'.Ns s.heap.objs.size m) (hce:h'.IsCell (s.heap.objs.size+1) none) (k:∀ b o,s.heap.get? b=some o->h'.get? b=some o):
    Inv (AX X scope cx own fr s.heap.objs.size fp s H) [] (Bu own fr σ) H { s with heap:=h',toks:=t' }:=by
  have cs:∀ x c,(Ar X.env.cells scope.names []).lookup x=some c->X.env.cells.lookup x=some c:=DC _ _ (λ _ _ e=>by simp at e);have ck:∀ c v,s.heap.IsCell c v->h'.IsCell c v:=λ c v ⟨o,ho,hd⟩=>⟨o,k _ _ ho,hd⟩;have kf:∀ x,(x,NameKind.free)∈scope.names->∃ c,X.env.cells.lookup x=some c/\(Ar X.env.cells scope.names []).lookup x=some c:=λ x hx=>by
    obtain ⟨c0,e0⟩:=S.cells I.ok (x, .free) hx rfl;obtain ⟨c,e⟩:=Dq (cells:=X.env.cells) scope.names [] x (.inl ⟨hx,c0,e0⟩);exact ⟨c,cs _ _ e,e⟩
  have rel:∀ x,(compEnvC scope ((cx,s.heap.objs.size+1)::Ar X.env.cells scope.names []) s.heap.objs.size X.env).kindOf x=(scope.names.lookup x).map λ k=>if (k == NameKind.free&&X.env.scope.kind == .function&&X.env.kindOf x == some .cell)=true then NameKind.cell else k:=λ x=>Cv X.env x scope.names
  have nx:∀ y,(y,NameKind.free)∈scope.names->y≠cx:=λ y hy z=>by
    subst z;have:=S.only y hy;rw [S.isc] at this;cases this
  have old:∀ y c,X.env.cells.lookup y=some c->c<s.heap.objs.size:=λ y c e=>by
    obtain ⟨v,o,ho,_⟩:=I.cell y c e;exact Heap.lt_size ho
  have ct:∀ y c,(((cx,s.heap.objs.size+1)::Ar X.env.cells scope.names [])).lookup y=some c->(y=cx/\c=s.heap.objs.size+1)\/(y≠cx/\X.env.cells.lookup y=some c):=λ y c e=>by
    by_cases hy:y=cx
    · subst hy;rw [F4] at e;exact .inl ⟨rfl,(Option.some.inj e).symm⟩
    · rw [Ej hy] at e;exact .inr ⟨hy,cs _ _ e⟩
  have nc:∀ y,scope.names.lookup y=some .cell->y=cx:=λ y e=>S.onec _ (PySem.mem_of_lookup e) rfl;refine ⟨⟨I.ok.mod,S.kind,I.ok.glob,I.ok.blt,Nat.le_refl _,λ x y c e1 e2=> ?inj,λ x hx=> ?_,λ x c e q=> ?cab,I.ok.hd,I.ok.frames, .inl rfl,
    λ b hb=>⟨Nat.ne_of_lt (hlt b hb),λ x c e=> ?exf⟩,I.bs,Nat.le_trans I.ok.bsz I.sz,λ b o e hb=> ?_,λ b hb z=>(List.mem_cons.mp (I.stkSub b z)).elim (hf b hb).2.1 (hf b hb).2.2.1,I.stack,I.stkFree⟩,
    rfl,I.bare,Un.kept k,⟨m,hns,λ i x v e1 e2 e3=> ?_⟩,λ x c e=> ?_,I.hok.fresh (Nat.le_refl _),λ x c e=> ?freeC,λ p hp=>absurd (show p∈([]:List (Addr × Obj)) from hp) (by simp),I.hok.kept k,?_⟩
  case inj=>
    rcases ct x c e1 with ⟨h1,h2⟩ | ⟨h1,h2⟩
    · rcases ct y c e2 with ⟨h3,h4⟩ | ⟨h3,h4⟩
      · rw [h1,h3]
      · have:=old y c h4;rw [h2] at this;exact absurd this (Nat.not_lt.mpr (Nat.le_succ _))
    · rcases ct y c e2 with ⟨h3,h4⟩ | ⟨h3,h4⟩
      · have:=old x c h2;rw [h4] at this;exact absurd this (Nat.not_lt.mpr (Nat.le_succ _))
      · exact I.ok.inj x y c h2 h4
  case cab=>
    have e:(x == cx)=true:=e;have ex:x=cx:=eq_of_beq e;rcases ct x c q with ⟨_,h2⟩ | ⟨h1,_⟩
    · rw [h2];exact Nat.le_succ _
    · exact absurd ex h1
  case exf=>
    rcases ct x c e with ⟨_,h2⟩ | ⟨_,h2⟩
    · have:=hlt b hb;intro z;rw [<-z,h2] at this;exact absurd this (Nat.not_lt.mpr (Nat.le_succ _))
    · exact (hf b hb).2.2.2.2.1 x c h2
  case freeC=>
    rcases ct x c e with ⟨_,h2⟩ | ⟨_,h2⟩
    · rw [h2];exact I.hok.fresh (Nat.le_succ _)
    · exact I.freeC x c h2
  · have hx:(compEnvC scope ((cx,s.heap.objs.size+1)::Ar X.env.cells scope.names []) s.heap.objs.size X.env).kindOf x=some .cell\/(compEnvC scope ((cx,s.heap.objs.size+1)::Ar X.env.cells scope.names []) s.heap.objs.size X.env).kindOf x=some .free:=hx;rw [rel x] at hx;by_cases hxc:x=cx
    · subst hxc;exact ⟨_,F4⟩
    have q:scope.names.lookup x=some .free:=by
      cases e:scope.names.lookup x with
      | none=>rw [e] at hx;simp at hx
      | some kk=>
        rw [e] at hx;simp only [Option.map_some,Option.some.injEq] at hx;by_cases hk:kk= .free
        · rw [hk]
        · have hb:(kk == NameKind.free)=false:=by simpa using hk
          simp only [hb,Bool.false_and,Bool.false_eq_true,if_false] at hx;rcases hx with hx | hx
          · rw [hx] at e;exact absurd (nc x e) hxc
          · exact absurd hx hk
    obtain ⟨c,_,e⟩:=kf x (PySem.mem_of_lookup q);exact ⟨c,(Ej hxc).trans e⟩
  · rcases (hf b hb).2.2.2.1 with z | z
    · exact I.ok.noex b o e z
    · exact absurd (Nat.lt_of_lt_of_le (Heap.lt_size (I.ok.bs b o e).1) z) (Nat.lt_irrefl _)
  · have e1:(own++fr.map (·.1))[i]?=some x:=e1;have e2:(Bu own fr σ)[i]?=some (some v):=e2;unfold Bu at e2;by_cases hi:i<own.length
    · rw [List.getElem?_append_left (by simpa using hi),List.getElem?_map] at e2;rw [List.getElem?_eq_getElem hi] at e2;simp at e2
    · rw [List.getElem?_append_right (by simpa using hi),List.getElem?_map,List.length_map] at e2;rw [List.getElem?_append_right (by omega),List.getElem?_map] at e1;cases ep:fr[i - own.length]? with
      | none=>rw [ep] at e1;simp at e1
      | some p=>
        rw [ep] at e1 e2;simp only [Option.map_some,Option.some.injEq] at e1 e2;subst e1;obtain ⟨h1,h2⟩:=S.fr p (List.mem_of_getElem? ep);have e4:σ[p.2]?=some (some v):=by
          cases q:σ[p.2]? with
          | none=>rw [q] at e2;simp at e2
          | some z=>rw [q] at e2;simp at e2;rw [e2]
        have kx:=S.free _ h2 rfl;obtain ⟨m0,hn0,hl0⟩:=I.loc;obtain ⟨u,r,l⟩:=hl0 p.2 p.1 v h1 e4 (kx.elim (λ z=> .inr (.inl z)) λ z=> .inr (.inr z));refine ⟨u,r,?_⟩;rcases l with ⟨z,_⟩ | ⟨_,c,hc,hcell⟩
        · have z:X.env.scope.names.lookup p.1=some .local:=z;rcases kx with y | y <;> (rw [y] at z;cases z)
        · obtain ⟨c',q1,q2⟩:=kf p.1 h2;rw [hc] at q1;cases q1;refine .inr ⟨?_,c,(Ej (nx _ h2)).trans q2,ck _ _ hcell⟩;show (compEnvC scope ((cx,s.heap.objs.size+1)::Ar X.env.cells scope.names []) s.heap.objs.size X.env).kindOf p.1=some .cell\/(compEnvC scope ((cx,s.heap.objs.size+1)::Ar X.env.cells scope.names []) s.heap.objs.size X.env).kindOf p.1=some .free;have e3:(compEnvC scope ((cx,s.heap.objs.size+1)::Ar X.env.cells scope.names []) s.heap.objs.size X.env).kindOf p.1=some .local\/(compEnvC scope ((cx,s.heap.objs.size+1)::Ar X.env.cells scope.names []) s.heap.objs.size X.env).kindOf p.1=some .cell\/(compEnvC scope ((cx,s.heap.objs.size+1)::Ar X.env.cells scope.names []) s.heap.objs.size X.env).kindOf p.1=some .free:=e3;rcases e3 with e3 | e3
          · exfalso;rw [rel] at e3;cases e:scope.names.lookup p.1 with
            | none=>rw [e] at e3;cases e3
            | some kk=>
              rw [e] at e3;simp only [Option.map_some,Option.some.injEq] at e3;by_cases hk:kk= .free
              · subst hk;split at e3 <;> cases e3
              · have hb:(kk == NameKind.free)=false:=by simpa using hk
                simp only [hb,Bool.false_and,Bool.false_eq_true,if_false] at e3;subst e3;have:=S.only p.1 h2;rw [this] at e;cases e
          · exact e3
  · rcases ct x c e with ⟨_,h2⟩ | ⟨_,h2⟩
    · rw [h2];exact ⟨none,hce⟩
    · obtain ⟨v,z⟩:=I.cell x c h2;exact ⟨v,ck _ _ z⟩
  · unfold Bu;show _=(own++fr.map (·.1)).length;simp
end
section
variable {X:Cx}
theorem Jq {cx:Str} {elt tg iter:Expr} {ifs:List Expr} {scope:Scope} {pos:Pos} {own:List Str} {fr:List (Str × Nat)} {g:TG} {tc:TT} {te:TE} (hc:X.calm=true) (S:BlkScopeC X scope cx own fr)
    (hg:∀ C ex s H,PG (AX X scope cx own fr C ex s H) tg g) (ht:∀ C ex s H,PTs (AX X scope cx own fr C ex s H) ifs tc) (he:∀ C ex s H,PE (AX X scope cx own fr C ex s H) elt te)
    {pins:List (Addr × Obj)} {σ:St} {H:Hp} {s:Shared} {it:Addr} {fp:List Addr} {tn:Nat->Heap->Prop} {J:It} {E:Value->Shared->Prop}
    (I:Inv X pins σ H s) (T:Turn X.prog X.w X.K tg J fp it tn) (st:tn 0 s.heap) (hf:∀ b∈fp,BP X pins H b) {Q:VK}
    (h:∀ D,H D=none->CM J (Bu own fr σ) g tc te Q H D)
    {RR:Value->Addr->Result->Shared->Prop}
    (hR:∀ D C H' s',Inv X pins σ H' s'->(∃ m,s'.heap.Ns C m)->BP X pins H' C->Q (.ref D) H'->RR (.ref D) C (.ok .next) s'):
    wpAny (model X.prog X.w) X.A (newList []) (λ acc s₃=>wpAny (model X.prog X.w) X.A (newFunctionEnv scope X.env.globals (Ar X.env.cells scope.names []) [] X.env.qual none .none (some X.env)) (λ cenv s₄=>
      codeAny (model X.prog X.w) X.A (.compStart (.ListComp elt [⟨tg,iter,ifs,0⟩] scope pos) 0 (.ref it) acc { cenv with scope:=relabel scope X.env }) (RR acc cenv.locals) s₄) E s₃) E s:=by
  have hDn:H s.heap.objs.size=none:=I.fresh;obtain ⟨W,⟨m0,w0⟩,turn⟩:=h s.heap.objs.size hDn;have I3:Inv X pins σ (upd H s.heap.objs.size (.lst [])) { s with heap:=s.heap.push { cls:= .type "list",data:= .seq ([]:List Value).toArray },toks:=s.toks }:=I.lnew .nil (Nat.zero_le _);refine wpAny_newObj_type ?_;generalize hs3:({ s with heap:=s.heap.push { cls:= .type "list",data:= .seq ([]:List Value).toArray } }:Shared)=s3 at I3 ⊢;have I3:Inv X pins σ (upd H s.heap.objs.size (.lst [])) s3:=I3;have old3:∀ b o,s.heap.get? b=some o->s3.heap.get? b=some o:=λ b o e=>by rw [<-hs3];exact Heap.get?_push_of_some _ e
  have hobj:∀ b∈fp,∃ o,s.heap.get? b=some o/\∀ v,o.data≠ .cell v:=T.obj 0 _ st;have hne:∀ b∈fp,b≠s.heap.objs.size:=λ b hb=>by obtain ⟨o,e,_⟩:=hobj b hb;exact Nat.ne_of_lt (Heap.lt_size e)
  have hf3:∀ b∈fp,BP X pins (upd H s.heap.objs.size (.lst [])) b:=λ b hb=>⟨by rw [Av (hne b hb)];exact (hf b hb).1,(hf b hb).2⟩;have hlt3:∀ b∈fp,b<s3.heap.objs.size:=λ b hb=>by obtain ⟨o,e,_⟩:=hobj b hb;exact Heap.lt_size (old3 b o e)
  refine Hb S.lay S.push ?_;generalize hh1:((s3.heap.push { cls:= .type "dict",data:= .dict #[] }).push { cls:= .type "cell",data:= .cell none }:Heap)=h₁;have keep:∀ b o,s3.heap.get? b=some o->h₁.get? b=some o:=λ b o e=>by rw [<-hh1];exact Heap.get?_push_of_some _ (Heap.get?_push_of_some _ e)
  have hns:h₁.Ns s3.heap.objs.size (λ _=>none):=by rw [<-hh1];exact (Heap.Ns.new ..).push _
  have hce:h₁.IsCell (s3.heap.objs.size+1) none:=by
    rw [<-hh1];refine ⟨{ cls:= .type "cell",data:= .cell none },?_,rfl⟩;have:=Heap.get?_push_size (s3.heap.push { cls:= .type "dict",data:= .dict #[] }) (o:={ cls:= .type "cell",data:= .cell none }) rfl;rw [Heap.size_push] at this;exact this
  have J0:=I3.blockC (t':=s3.toks) S hf3 hlt3 hns hce keep;have st3:tn 0 h₁:=T.keep 0 _ _ st λ b hb o e=>keep b o (old3 b o e);have loop:codeAny (model X.prog X.w) X.A (.compLoop (.ListComp elt [⟨tg,iter,ifs,0⟩] scope pos) 0 (.ref it) (.ref s.heap.objs.size) (compEnvC scope ((cx,s3.heap.objs.size+1)::Ar X.env.cells scope.names []) s3.heap.objs.size X.env))
      (RR (.ref s.heap.objs.size) s3.heap.objs.size) { s3 with heap:=h₁ }:=by
    have stat:∀ {H':Hp},(∀ b∈fp,H' b=none)->∀ b∈fp,BP (AX X scope cx own fr s3.heap.objs.size fp s3 (upd H s.heap.objs.size (.lst []))) [] H' b:=λ {H'} hn b hb=>
      ⟨hn b hb,Nat.ne_of_lt (hlt3 b hb),J0.ok.exfs b hb, .inl hb,(J0.ok.exf b hb).2,λ p hp=>absurd (show p∈([]:List (Addr × Obj)) from hp) (by simp)⟩
    refine Ez (λ n s'=>∃ i ys H',Inv (AX X scope cx own fr s3.heap.objs.size fp s3 (upd H s.heap.objs.size (.lst []))) [] (Bu own fr σ) H' s'/\tn i s'.heap/\(∀ b∈fp,H' b=none)/\W i n ys H') ?_ m0
      ⟨0,[],_,J0,st3,λ b hb=>(hf3 b hb).1,w0⟩
    rintro n s4 ⟨i,ys,H4,I4,st4,fr4,w4⟩;rcases turn i n ys H4 w4 with ⟨stop,q⟩ | ⟨go,N,hN,step⟩
    · refine thn (T.done (AX X scope cx own fr s3.heap.objs.size fp s3 (upd H s.heap.objs.size (.lst []))) rfl rfl rfl hc i [] s4 _ H4 (λ _ _=>False) I4 (stat fr4) st4 stop) λ r s5 ⟨hr,I5⟩=> ?_;subst hr;obtain ⟨m,hn,_⟩:=id I5.loc;exact hR _ _ H4 s5 (I3.call' I5.os I5.base I5.hok I5.bare λ b hb=>⟨(hf3 b hb).2.2.2.1,(hf3 b hb).2.1,(hf3 b hb).2.2.2.2.1,(hf3 b hb).2.2.2.2.2⟩) ⟨m,hn⟩ (I3.fpOk (Nat.le_refl _) I5.free) q
    · refine thn (T.item (AX X scope cx own fr s3.heap.objs.size fp s3 (upd H s.heap.objs.size (.lst []))) rfl rfl rfl hc i [] s4 _ H4 (λ _ _=>False) I4 (stat fr4) st4 go) λ r s5 ⟨u,hr,h5⟩=> ?_;subst hr;refine thn h5 λ _ s6 ⟨x,H6,I6,r6,y6,st6,fr6⟩=> ?_;have I6':=I6.pinned (stat fr6) (T.obj _ _ st6);refine thn (hg _ _ _ _ _ s6 _ H6 x u _ I6' r6 (step x H6 y6)) λ _ s7 ⟨σ7,H7,I7,kp,q7⟩=> ?_;refine thn (ht _ _ _ _ _ s7 σ7 H7 _ I7 q7) λ b s8 ⟨H8,I8,q8⟩=> ?_;have again:∀ {s9:Shared} {H9:Hp} {ys':List V},Inv (AX X scope cx own fr s3.heap.objs.size fp s3 (upd H s.heap.objs.size (.lst []))) ([]++Ec fp s6.heap) σ7 H9 s9->N ys' H9->
          ∃ m,m<n/\∃ i ys H',Inv (AX X scope cx own fr s3.heap.objs.size fp s3 (upd H s.heap.objs.size (.lst []))) [] (Bu own fr σ) H' s9/\tn i s9.heap/\(∀ b∈fp,H' b=none)/\W i m ys H':=λ {s9 H9 ys'} I9 n9=>by
        obtain ⟨m',hm,w9⟩:=hN ys' H9 n9;refine ⟨m',hm,i+1,ys',H9,I9.unpinned.weak kp.1.symm kp.2,T.keep _ _ _ st6 λ b hb o e=>(I9.pin (b,o) (List.mem_append_right _ (List.mem_append_right _ (Bj hb e)))).1,λ b hb=> ?_,w9⟩;obtain ⟨o,e,d⟩:=T.obj _ _ st6 b hb;exact (I9.pin (b,o) (List.mem_append_right _ (List.mem_append_right _ (Bj hb e)))).2.1
      cases b with
      | false=>
        rw [if_neg Bool.false_ne_true] at q8 ⊢;exact again I8 q8
      | true=>
        rw [if_pos rfl] at q8 ⊢;refine thn (he _ _ _ _ _ s8 σ7 H8 _ I8 q8) λ xv s9 ⟨y,H9,I9,r9,hD,hl,n9⟩=> ?_;refine thn (Dc _ s9 σ7 H9 (.ref s.heap.objs.size) [y] (.ref s.heap.objs.size) [xv] (λ _ H'=>H'=upd H9 s.heap.objs.size (.lst (ys++[y]))) I9 rfl (.cons r9 .nil) ⟨_,ys,y,rfl,rfl,hD,hl,rfl⟩) λ _ s10 ⟨_,H10,I10,_,q10⟩=> ?_;subst q10;exact again I10 n9
  exact codeAny_compStart_list loop (T.self _ 0 _ _ _ st3 loop)
theorem K7 {cx:Str} {elt tg iter:Expr} {ifs:List Expr} {scope:Scope} {pos:Pos} {own:List Str} {fr:List (Str × Nat)} {wi:TI} {g:TG} {tc:TT} {te:TE} (hc:X.calm=true) (S:BlkScopeC X scope cx own fr) (hi:PI X tg iter wi)
    (hg:∀ C ex s H,PG (AX X scope cx own fr C ex s H) tg g) (ht:∀ C ex s H,PTs (AX X scope cx own fr C ex s H) ifs tc) (he:∀ C ex s H,PE (AX X scope cx own fr C ex s H) elt te)
    (hs:∀ x,foldedSetIterable iter X.env x=pure x:=by intro _;rfl):PE X (.ListComp elt [⟨tg,iter,ifs,0⟩] scope pos) (Dj wi own fr g tc te):=by
  intro pins s σ H Q I h;rw [eval_ListComp];refine wpAny_comprehension_free (use:=none) rfl hs (BU (S.cells I.ok)) S.kind S.loc (thn (hi pins s σ H _ I h) λ xv s₁ h₁=>thn h₁ λ itv s₂ h₂=> ?_);obtain ⟨it,fp,tn,J,H2,rfl,I2,T,st2,f2,h2⟩:=h₂;refine Jq (RR:=λ acc C=>compPost (model X.prog X.w) X.A X.xe none (EP X pins σ Q) acc C) hc S hg ht he I2 T st2 f2 h2 ?_;rintro D C H' s' I' ⟨m,hn⟩ f q;exact ⟨m,hn,λ h' sb=>⟨.ref D,H',I'.turned (t':=s'.toks) (it:=C) (λ b o hb e=>(sb.2 b hb).trans e) f.1 f.2.1 f.2.2.2.1 f.2.2.2.2.1 f.2.2.2.2.2,rfl,q⟩⟩
end
def Fa (sc:Scope) (N:List Str) (scope:Scope) (cx:Str) (own:List Str) (fr:List (Str × Nat)):Bool:=
  decide (scope.kind= .function)&&
  (scope.names.all λ y=>(decide (y.2≠ .cell)||decide (y.1=cx))&&(decide (y.2≠ .local)||decide (scope.names.lookup y.1=some .local))&&
    (decide (y.2≠ .free)||((decide (sc.names.lookup y.1=some .cell)||decide (sc.names.lookup y.1=some .free))&&decide (scope.names.lookup y.1=some .free))))&&
  (fr.all λ p=>decide (N[p.2]?=some p.1)&&decide ((p.1,NameKind.free)∈scope.names))&&
  decide (scope.names.lookup cx=some .cell)&&decide ((own++fr.map (·.1)).Nodup)
section
variable {X:Cx} {scope:Scope} {cx:Str} {own:List Str} {fr:List (Str × Nat)}
theorem BlkScopeC.of (h:Fa X.env.scope X.N scope cx own fr=true) (lay:∀ n cl,cellsFrom n scope.names cl=(cx,n)::cl) (push:∀ h:Heap,pushCells h scope.names=h.push { cls:= .type "cell",data:= .cell none }):BlkScopeC X scope cx own fr:=by
  unfold Fa at h;simp only [Bool.and_eq_true,List.all_eq_true,decide_eq_true_iff,Bool.or_eq_true] at h;obtain ⟨⟨⟨⟨h1,h2⟩,h3⟩,h4⟩,h5⟩:=h;exact ⟨h1,λ y hy e=>(h2 y hy).1.1.resolve_left (λ z=>z e),h4,lay,push,λ y hy e=>(h2 y hy).1.2.resolve_left (λ z=>z e),λ y hy e=>((h2 y hy).2.resolve_left (λ z=>z e)).1,λ p hp=>h3 p hp,λ x hx=>((h2 _ hx).2.resolve_left (λ z=>z rfl)).2⟩
theorem LH {px:Pos} (h:Fa X.env.scope X.N scope cx [cx] fr=true) (C:Addr) (ex:List Addr) (s:Shared) (H:Hp):PG (AX X scope cx [cx] fr C ex s H) (.Name cx px) (AA 0):=by
  unfold Fa at h;simp only [Bool.and_eq_true,List.all_eq_true,decide_eq_true_iff,Bool.or_eq_true] at h;have hl:(relabel scope X.env).names.lookup cx=some .cell:=by
    have:=Cv X.env cx scope.names;rw [h.1.2] at this;exact this
  exact AE h.2 rfl (.inr hl) (.inl (beq_self_eq_true cx))
theorem Eh {elt iter:Expr} {px:Pos} {ifs:List Expr} {pos:Pos} {wi:TI} {tc:TT} {te:TE} (hi:PI X (.Name cx px) iter wi)
    (ht:∀ C ex s H,PTs (AX X scope cx [cx] (B5 X.N scope) C ex s H) ifs tc) (he:∀ C ex s H,PE (AX X scope cx [cx] (B5 X.N scope) C ex s H) elt te)
    (hb:Fa X.env.scope X.N scope cx [cx] (B5 X.N scope)=true:=by with_unfolding_all rfl) (hc:X.calm=true:=by rfl)
    (lay:∀ n cl,cellsFrom n scope.names cl=(cx,n)::cl:=by intro _ _;rfl) (push:∀ h:Heap,pushCells h scope.names=h.push { cls:= .type "cell",data:= .cell none }:=by intro _;rfl)
    (hs:∀ x,foldedSetIterable iter X.env x=pure x:=by intro _;rfl):PE X (.ListComp elt [⟨.Name cx px,iter,ifs,0⟩] scope pos) (Dj wi [cx] (B5 X.N scope) (AA 0) tc te):=
  K7 hc (.of hb lay push) hi (λ C ex s H=>LH hb C ex s H) ht he hs
end
section
variable {X:Cx} {K:PySem.W.Frag} {scope:Scope} {fr:List (Str × Nat)}
theorem Ek {elt iter:Expr} {x:Str} {px:Pos} {ifs:List Expr} {pos:Pos} {wi:TI} {tc:TT} {te:TE} (hi:PI X (.Name x px) iter wi)
    (ht:∀ C ex s H,PTs (AI X scope [x] fr C ex s H) ifs tc) (he:∀ C ex s H,PE (AI X scope [x] fr C ex s H) elt te)
    (hb:CJ X.env.scope X.N scope [x] fr=true:=by with_unfolding_all rfl) (hc:X.calm=true:=by rfl)
    (hs:∀ x,foldedSetIterable iter X.env x=pure x:=by intro _;rfl):PE X (.ListComp elt [⟨.Name x px,iter,ifs,0⟩] scope pos) (Dj wi [x] fr (AA 0) tc te):=
  GW hc (.of hb) hi (λ C ex s H=>Fv hb rfl C ex s H) ht he hs
end
section
variable {X:Cx} {e o:Expr} {es:List Expr} {t:TA} {to:TE} {pos:Pos} {S:Addr->Sp->Prop}
end
def CMulN (i j:Int):Prop:=∃ m n:Nat,i=m/\j=n/\m<2 ^ 900/\n<2 ^ 900
theorem CMulN.ok {i j:Int} (h:CMulN i j):IntMulOk i j:=by
  obtain ⟨m,n,rfl,rfl,h1,h2⟩:=h;have b1:=Gp m;have b2:=Gp n;have c1:=MM.bits_le h1;have c2:=MM.bits_le h2;unfold IntMulOk;have e:Builtin.Int.intTooBig (((Builtin.Int.intBits (m:Int):Nat):Int)+((Builtin.Int.intBits (n:Int):Nat):Int))=false:=by
    unfold Builtin.Int.intTooBig;rw [b1,b2];refine decide_eq_false (λ z=> ?_);have:(1800:Int)<=(bitsLine:Nat):=by decide
    omega
  rw [e];simp
theorem LM {X:Cx}:OpR X (binaryOp .Mult) (rI CMulN λ i j=> .int (i*j)):=opI λ _ _ _ _ _ _ _ hc q=>mul_int q hc.ok
def Mw:List V->Hp->VK->Prop:=λ xs H Q=>∃ i j,xs=[.int i, .int j]/\Q (.int (if j>i then j else i)) H
def Mz:List V->Hp->VK->Prop:=λ xs H Q=>∃ i j,xs=[.int i, .int j]/\Q (.int (if j<i then j else i)) H
section
variable {X:Cx} {K:PySem.W.Frag}
theorem JP (hc:X.calm=true:=by rfl):AS X (.builtin "max") Mw:=JG hc
theorem NK (hc:X.calm=true:=by rfl):AS X (.builtin "min") Mz:=JB hc
end
theorem Lr {H:Hp} {Q:VK} {i j:Int} (h:Q (.int (if j>i then j else i)) H):Mw [.int i, .int j] H Q:=⟨i,j,rfl,h⟩
theorem LG {H:Hp} {Q:VK} {i j:Int} (h:Q (.int (if j<i then j else i)) H):Mz [.int i, .int j] H Q:=⟨i,j,rfl,h⟩
theorem N3 {i j:Nat} {ta:TA} {D:Ends} {σ:St} {H:Hp} (h:ta σ H λ vs H1=>∃ v w,vs=[v,w]/\D.nx ((σ.set i (some v)).set j (some w)) H1):Os i j ta D σ H:=h
theorem NU {x y:V} {R:V->V->Prop} (h:R x y):∃ v w,[x,y]=[v,w]/\R v w:=⟨x,y,rfl,h⟩
theorem Lf {xs:List V} {k l:Int} (h:0<=k) (h2:k<=l):Bq xs (some k) (some l)=(xs.take l.toNat).drop k.toNat:=by
  unfold Bq;have e1:HT.sIx xs.length 0 (some k)=min k.toNat xs.length:=by
    unfold HT.sIx;simp only;split <;> omega
  have e2:HT.sIx xs.length xs.length (some l)=min l.toNat xs.length:=by
    unfold HT.sIx;simp only;split <;> omega
  rw [e1,e2];by_cases q:k.toNat<=xs.length
  · rw [Nat.min_eq_left q];by_cases q2:l.toNat<=xs.length
    · rw [Nat.min_eq_left q2,List.drop_take]
    · rw [Nat.min_eq_right (by omega),List.take_of_length_le (l:=xs) (by omega),List.take_of_length_le (by simp)]
  · rw [List.drop_of_length_le (by omega),List.drop_of_length_le (by simp;omega)];simp
end L2
namespace HT
open PySem PySem.Spec PyProof.Rows
variable {prog:Program} {w:World} {A:Around} {E:Value->Shared->Prop} {s:Shared}
theorem getItem_tuple_whole {t sl:Addr} {items:Array Value} {vl vu:Value} {lo hi:Option Int} {Q:Value->Shared->Prop} (ht:IsTup s.heap t items) (hs:s.heap.IsSliceOf sl vl vu .none) (pl:IsPart vl lo) (pu:IsPart vu hi)
    (w1:sIx items.size 0 lo=0) (w2:sIx items.size items.size hi=items.size) (h:Q (.ref t) s):wpAny (model prog w) A (getItem (.ref t) (.ref sl)) Q E s:=by
  obtain ⟨os,hos,hcs,hds⟩:=id hs;have hTs:s.TypeIs (.ref sl) "slice":=⟨os,hos,hcs⟩;unfold getItem
  try with_reducible refine wpAny_holding ?_
  first | refine wpAny_bind (wpAny_pure ?_) | skip
  refine wpAny_bind (wpAny_sequenceKey ht.typeIs (by decide) ?_);refine wpAny_bind (wpAny_callSpecial?_slot (name:=Str.ofString "__getitem__") ht.typeIs PyProof.Rows.slot_tuple_getitem
    (wpAny_call_entry PyProof.Rows.slot_tuple_getitem ht.typeIs entry_tuple_getitem ?_ (args_tuple_getitem _ _)))
  show wpAny _ _ (Builtin.Tuple.tupleItemsOf (.ref t) >>= _) _ _ s;refine wpAny_bind (tupleItemsOf_ ht ?_);refine wpAny_bind (wpAny_typeOf hTs ?_);rw [if_pos (by decide)];refine wpAny_bind (B8 hs pl pu ?_);have hyes:(((sIx items.size 0 lo:Nat):Int) == 0&&(1:Int) == 1&&(sIx items.size items.size hi - sIx items.size 0 lo) == items.size)=true:=by
    rw [w1,w2];simp
  show wpAny _ _ (if (((sIx items.size 0 lo:Nat):Int) == 0&&(1:Int) == 1&&(sIx items.size items.size hi - sIx items.size 0 lo) == items.size)=true then _ else _) _ _ s;rw [if_pos hyes];unfold Builtin.Tuple.tupleIsExact;refine wpAny_bind (wpAny_bind (wpAny_typeOf ht.typeIs (wpAny_pure ?_)));rw [if_pos (by decide)];exact wpAny_bind (wpAny_rule (wpAny_pure ⟨_,rfl,wpAny_pure h⟩))
end HT
namespace L2
open PySem PySem.Spec PyProof.Rows
theorem DG:∀ {vs:List Value} {ns:List Int},IntsAre vs ns->Vals (ns.map V.int) vs
  | _,_, .nil=> .nil
  | _,_, .cons n t h=> .cons ⟨t,rfl⟩ (DG h)
def KP (K:PySem.W.Frag):List V->Hp->VK->Prop:=λ xs H Q=>∃ (p:Addr) (ns:List Int),xs=[.ref p]/\SqT K H p (ns.map V.int)/\ns.length<64/\∀ (l:Addr) (ms:List Int),H l=none->ms.Perm ns->ms.Pairwise (· <= ·)->Q (.ref l) (upd H l (.lst (ms.map V.int)))
theorem GI:checkCount "sorted" 1 1 1=pure ():=rfl
theorem Ji {X:Cx} {K:PySem.W.Frag} (hK:X.K=K:=by rfl):AS X (.builtin "sorted") (KP K):=by
  subst hK;intro pins s σ H xs us Q I r h;obtain ⟨p,ns,rfl,hq,hl,q⟩:=h;obtain ⟨u,rfl,rx⟩:=DO r;cases rx;obtain ⟨its,rv,ht,hz⟩:=I.tuple hq;have hlen:its.length=ns.length:=by have:=rv.length;simpa using this.symm
  obtain ⟨o,ho,hc,n,hd⟩:=ht;refine Calls.call_function_entry kind_sorted plain_sorted entry_sorted (args_sorted1 _) ?_;show wpAny _ _ (checkCount "sorted" 1 1 1 >>= λ _=>collect (.ref p) >>= λ xs=>newList xs >>= λ l=>holding [l] (call (.builtin "list.sort") [l] []) >>= λ _=>ret l) _ _ _;rw [GI];refine wpAny_bind (wpAny_pure ?_);refine wpAny_bind (wpAny_collect_seq p (.inr rfl) ho hc hd (λ h1 k1=> ?_) ?_)
  · have I1:=I.kept (t':=s.toks) k1;refine wpAny_bind (wpAny_newList ?_ ?_)
    · refine wpAny_bind (wpAny_holding ?_);have hg:(h1.push { cls:=Value.type "list",data:=Data.seq its.toArray }).get? h1.objs.size=some (seqObj "list" its.toArray 0):=Heap.get?_push_size _ rfl;refine wpAny_call_entry slot_list_sort ⟨_,hg,rfl⟩ entry_list_sort ?_ (args_list_sort _);refine list_sort_tree (vs:=its) (ns:=ns) hg (EX rv) (by omega) λ out ns' io pm pw=> ?_;refine ⟨_,rfl,?_⟩;refine wpAny_pure ⟨_,rfl,?_⟩;obtain ⟨e,he⟩:=sortedHeap_at (out:=out) hg;refine ⟨.ref h1.objs.size,_,I1.laid (t':=s.toks) (o:= .lst (ns'.map V.int)) (λ b ob z=> ?_) (Nat.le_refl _) ?_,rfl,q _ ns' (I1.hok.fresh (Nat.le_refl _)) pm pw⟩
      · have hb:=Heap.lt_size z;have hsz:b<(h1.push { cls:=Value.type "list",data:=Data.seq its.toArray }).objs.size:=Nat.lt_trans hb (Heap.lt_size hg);show (sortedHeap _ _ _ _).get? b=_;rw [sortedHeap_old (Nat.ne_of_lt hb) hsz];exact Heap.get?_push_of_some _ z
      · refine ⟨?_,out.toList,e,DG io,?_⟩
        · rw [List.length_map,pm.length_eq];exact Nat.le_trans (Nat.le_of_lt hl) (by decide)
        · show (sortedHeap _ _ _ _).get? _=_;rw [he]
    · show its.toArray.toList.length<=_;simp;exact Nat.le_trans (show its.length<=64 by omega) (by decide)
  · rw [List.size_toArray];exact Nat.le_trans (show its.length<=64 by omega) (by decide)
theorem KO {K:PySem.W.Frag} {H:Hp} {Q:VK} {p:Addr} {ns:List Int} (c:SqT K H p (ns.map V.int)) (n:ns.length<64) (h:∀ (l:Addr) (ms:List Int),H l=none->ms.Perm ns->ms.Pairwise (· <= ·)->Q (.ref l) (upd H l (.lst (ms.map V.int)))):KP K [.ref p] H Q:=⟨p,ns,rfl,c,n,h⟩
def Nw (K:PySem.W.Frag):V->Option Int->Option Int->Hp->VK->Prop:=λ x lo hi H Q=>∃ tp a xs,x= .ref a/\SqS tp K H a xs/\
  ((tp=true/\(HT.sIx xs.length 0 lo=0/\HT.sIx xs.length xs.length hi=xs.length))->False)/\∀ p,H p=none->Q (.ref p) (upd H p (if tp=true then .tup (Bq xs lo hi) else .lst (Bq xs lo hi)))
theorem NJ {X:Cx}:SlR X (Nw X.K):=by
  intro pins s σ H x v vl vu lo hi sl Q I rx hs pl pu h;obtain ⟨tp,a,xs,rfl,hx,hw,q⟩:=h;cases tp with
  | true=>exact KQ pins s σ H _ v vl vu lo hi sl Q I rx hs pl pu ⟨a,xs,rfl,hx,λ z=>hw ⟨rfl,z⟩,λ p hp=>q p hp⟩
  | false=>exact ID pins s σ H _ v vl vu lo hi sl Q I rx hs pl pu ⟨a,xs,rfl,hx,λ p hp=>q p hp⟩
theorem Mi {X:Cx} {K:PySem.W.Frag} (hK:X.K=K:=by rfl):SlR X (Nw K):=by subst hK;exact NJ
def OB (K:PySem.W.Frag):V->Option Int->Option Int->Hp->VK->Prop:=λ x lo hi H Q=>∃ a xs,x= .ref a/\SqT K H a xs/\∀ H' p,Same H H'->SqT K H' p (Bq xs lo hi)->Q (.ref p) H'
theorem Kq {X:Cx} {K:PySem.W.Frag} (hK:X.K=K:=by rfl):SlR X (OB K):=by
  subst hK;intro pins s σ H x v vl vu lo hi sl Q I rx hs pl pu h;obtain ⟨a,xs,rfl,hx,q⟩:=h;by_cases hw:HT.sIx xs.length 0 lo=0/\HT.sIx xs.length xs.length hi=xs.length
  · cases rx;obtain ⟨its,r,ht,hz⟩:=I.tuple hx;have hlen:its.toArray.size=xs.length:=by rw [List.size_toArray];exact r.length.symm
    refine ⟨"tuple",_,PyProof.Rows.slot_tuple_getitem.lookup,ht.typeIs,?_⟩;refine HT.getItem_tuple_whole ht hs pl pu (by rw [hlen];exact hw.1) (by rw [hlen];exact hw.2) ?_;have e:Bq xs lo hi=xs:=by
      unfold Bq;rw [hw.1,hw.2,List.drop_zero,Nat.sub_zero,List.take_of_length_le (Nat.le_refl _)]
    exact ⟨.ref a,H,I,rfl,q H a (Same.refl _) (by rw [e];exact hx)⟩
  · exact KQ pins s σ H _ v vl vu lo hi sl Q I rx hs pl pu ⟨a,xs,rfl,hx,hw,λ p hp=>q _ p (Ai hp) (SqT.of Ag)⟩
def MG (K:PySem.W.Frag):R2:=λ x y H Q=>∃ a b xs ys,x= .ref a/\y= .ref b/\SqT K H a xs/\SqT K H b ys/\xs≠[]/\xs.length+ys.length<=100000/\∀ H' p,Same H H'->SqT K H' p (xs++ys)->Q (.ref p) H'
theorem MX {X:Cx} {K:PySem.W.Frag} (hK:X.K=K:=by rfl):OpR X (binaryOp .Add) (MG K):=by
  subst hK;intro pins s σ H x y v u Q I rx ry h;obtain ⟨a,b,xs,ys,rfl,rfl,ha,hb,hne,hz,q⟩:=h;exact Lw pins s σ H _ _ v u Q I rx ry ⟨a,b,xs,ys,rfl,rfl,ha,hb,hne,Nat.le_trans hz (by decide),λ e=>q H a (Same.refl _) (by rw [e,List.append_nil];exact ha),λ _ p hp=>q _ p (Ai hp) (SqT.of Ag)⟩
theorem Ic {K:PySem.W.Frag} {H:Hp} {Q:VK} {a:Addr} {xs:List V} {lo hi:Option Int} (c:SqT K H a xs) (h:∀ H' p,Same H H'->SqT K H' p (Bq xs lo hi)->Q (.ref p) H'):OB K (.ref a) lo hi H Q:=⟨a,xs,rfl,c,h⟩
theorem Le {K:PySem.W.Frag} {H:Hp} {Q:VK} {a b:Addr} {xs ys:List V} (c:SqT K H a xs) (d:SqT K H b ys) (n:xs≠[]) (l:xs.length+ys.length<=100000) (h:∀ H' p,Same H H'->SqT K H' p (xs++ys)->Q (.ref p) H'):MG K (.ref a) (.ref b) H Q:=⟨a,b,xs,ys,rfl,rfl,c,d,n,l,h⟩
theorem J2 {K:PySem.W.Frag} {H:Hp} {Q:VK} {tp:Bool} {a:Addr} {xs:List V} {lo hi:Option Int} (c:SqS tp K H a xs) (w:¬ (HT.sIx xs.length 0 lo=0/\HT.sIx xs.length xs.length hi=xs.length)) (h:∀ p,H p=none->Q (.ref p) (upd H p (if tp=true then .tup (Bq xs lo hi) else .lst (Bq xs lo hi)))):Nw K (.ref a) lo hi H Q:=
  ⟨tp,a,xs,rfl,c,λ z=>w z.2,h⟩
theorem GY {n:Nat} {d:Nat} {k:Int} (h:0<=k):HT.sIx n d (some k)=min k.toNat n:=by
  unfold HT.sIx;simp only;split <;> omega
theorem G3 {xs:List V} {v:V}:Bq (xs++[v]) (some (-1)) none=[v]:=by
  unfold Bq;have e2:HT.sIx (xs++[v]).length (xs++[v]).length none=(xs++[v]).length:=rfl;have e1:HT.sIx (xs++[v]).length 0 (some (-1))=xs.length:=by
    unfold HT.sIx;simp;omega
  rw [e1,e2];simp
theorem He {xs:List V} {v:V}:Bq (xs++[v]) none (some (-1))=xs:=by
  unfold Bq;have e2:HT.sIx (xs++[v]).length 0 none=0:=rfl;have e1:HT.sIx (xs++[v]).length (xs++[v]).length (some (-1))=xs.length:=by
    unfold HT.sIx;simp;omega
  rw [e1,e2];simp
theorem Gw:∀ a b:List Nat,Ca (a.map dN) (b.map dN)=decide (a=b)
  | [],[]=>by simp [Ca]
  | [],_::_=>by simp [Ca]
  | _::_,[]=>by simp [Ca]
  | x::a,y::b=>by
    rw [List.map_cons,List.map_cons];unfold Ca;rw [Gw a b];have e:eqD (dN x) (dN y)=decide (x=y):=by
      show eqD (.int (x:Int)) (.int (y:Int))=_;unfold eqD;rw [Bool.eq_iff_iff,beq_iff_eq,decide_eq_true_iff];omega
    rw [e,Bool.eq_iff_iff];simp
theorem NP (a b:List Nat):eqD (dL a) (dL b)=decide (a=b):=by
  show eqD (.lst _) (.lst _)=_;unfold eqD;exact Gw a b
theorem N2 (a b:List Nat):eqD (dT a) (dT b)=decide (a=b):=by
  show eqD (.tup _) (.tup _)=_;unfold eqD;exact Gw a b
theorem Ju (as bs:List Str):Dy (as.map V.str) (bs.map V.str)=decide (as=bs):=by
  rw [Bool.eq_iff_iff,decide_eq_true_iff];unfold Dy;simp only [Bool.and_eq_true,beq_iff_eq,List.length_map,List.all_eq_true,List.mem_range];constructor
  · rintro ⟨h1,h2⟩;refine List.ext_getElem h1 λ i ha hb=> ?_;have h3:=h2 i ha;rw [DM (by simpa using ha),DM (by simpa using hb)] at h3;have h4:(as.getD i Str.empty == bs.getD i Str.empty)=true:=h3;rw [beq_iff_eq,getD_el ha,getD_el hb] at h4;exact h4
  · rintro rfl;refine ⟨rfl,λ i hi=> ?_⟩;rw [DM (by simpa using hi)];show (as.getD i Str.empty == as.getD i Str.empty)=true;rw [beq_iff_eq]
theorem IM {K:PySem.W.Frag} {H:Hp} {Q:VK} {l p:Addr} {as bs:List Str} (c:SqL K H l (as.map V.str)) (d:SqL K H p (bs.map V.str)) (h:Q (.bl (decide (as=bs))) H):HN K false (.ref l) (.ref p) H Q:=
  ⟨l,p,_,_,rfl,rfl,c,d,by simp [Bf],by simp [Bf],by rw [Ju];exact h⟩
def rCount:V->List V->Hp->VK->Prop:=λ x vs H Q=>∃ z y,x= .str z/\vs=[.str y]/\Q (.int (Txt.count z y)) H
theorem IL {X:Cx}:MtM X "str.count" rCount:=by
  intro pins s σ H x vs v us Q I rx rv h;obtain ⟨z,y,rfl,rfl,q⟩:=h;obtain ⟨t,rfl⟩:=rx;obtain ⟨u,rfl,ru⟩:=rv.one;obtain ⟨u',rfl⟩:=ru;exact SC.count ⟨.int _,H,I.tok _,⟨_,rfl⟩,q⟩
theorem JT {H:Hp} {Q:VK} {z y:Str} (h:Q (.int (Txt.count z y)) H):rCount (.str z) [.str y] H Q:=⟨z,y,rfl,rfl,h⟩
def f2 (o:Obj):Option Value:=match o.data with
  | .fields vs=>vs[2]?
  | _=>none
section
variable {M:Model} {A:Around} {E:Value->Shared->Prop} {s:Shared}
end
section
variable {P:Program} {w:World} {K:PySem.W.Frag} {mg:Str->Option Value} {base:Heap} {N:List Str} {qual:Str} {scope:Scope} {f:Addr} {cd:Value} {A:Around} {outer:List Env} {s₀:Shared} {H₀:Hp} {E:XK}
end
section
variable {X:Cx} {pins:List (Addr × Obj)} {σ:St} {H:Hp} {s s₁:Shared} {E:XK} {e:Value}
end
section
variable {X:Cx} {pins pins0:List (Addr × Obj)} {σ:St} {H:Hp} {s:Shared} {xe:Value->Shared->Prop}
end
end L2
namespace L2
open PySem PySem.Spec PyProof.Rows PySem.W
end L2
namespace HT
open PySem PySem.Spec PyProof.Rows PySem.W PySem.Calls PySem.Builtin PySem.Builtin.ObjectAttr PySem.Builtin.Getset_descriptor
def ExcAt (a C:Addr) (h:Heap):Prop:=∃ o,h.get? a=some o/\o.cls= .ref C
structure ExcKind (K:Frag) (C:Addr):Prop where
  cl:(clsIn K C).isSome=true
  ga:findIn K (.ref C) "__getattribute__"=some (some (.builtin "BaseException.__getattribute__"))
  ng:findIn K (.ref C) "__getattr__"=some none
  hb:mroIn K C (.type "BaseException")=some true
  ha:findIn K (.ref C) "__class__"=some (some (.builtin "object.__class__"))
  hn:specialIn K (.builtin "object.__class__") "__get__"=some (some (.builtin "getset_descriptor.__get__"))
  htk:takesIn K (.builtin "object.__class__")=some true
  hm:mroIn K C (.type "object")=some true
theorem ExcAt.type {M:Model} {h:Heap} {a C:Addr} (x:ExcAt a C h):Looks M h (typeOf (.ref a)) (.ref C):=by
  obtain ⟨o,e,c⟩:=x;exact c▸(Looks.ld e).andThen .now
section
variable {prog:Program} {w:World} {A:Around} {E:Value->Shared->Prop} {s:Shared} {K:Frag} {a C:Addr}
end
end HT
namespace L2
open PySem PySem.Spec PyProof.Rows
end L2
namespace HT
open PySem PySem.Spec PyProof.Rows PySem.W
end HT
namespace L2
open PySem PySem.Spec PyProof.Rows
section
variable {X:Cx} {x:Str} {C:Addr} {k:Nat} {ps:List Str} {sp:Sp} {E:XK} {e:Expr} {es:List Expr} {t:TA} {p pos:Pos}
end
section
variable {P:Program} {w:World} {K:PySem.W.Frag} {mg:Str->Option Value} {base:Heap}
end
end L2
namespace HT
open PySem PySem.Spec PyProof.Rows PySem.SeqAt
open PySem.AutoSeq1 (wpAny_loadPart')
open PySem.MeetsSeq PySem.MeetsSeq2 PySem.MeetsSeq3
section
variable {A:Around} {s:Shared}
end
end HT
namespace L2
open PySem PySem.Spec PyProof.Rows
inductive DX where
  | d (d:Dt) | dic | tdic (rest:List Dt)
inductive Rx (H:Hp) (n:Nat):V->DX->Prop
  | d {v:V} {d:Dt} (r:Rp H FT n v d):Rx H n v (.d d)
  | dic {a:Addr} (h:H a=some (.dK [])):Rx H n (.ref a) .dic
  | tdic {t a:Addr} {ws:List V} {ds:List Dt} (ht:H t=some (.tup (.ref a::ws))) (h:H a=some (.dK [])) (l:ws.length=ds.length) (e:∀ (i:Nat) (v:V) (d:Dt),ws[i]?=some v->ds[i]?=some d->Rp H FT n v d):Rx H n (.ref t) (.tdic ds)
section
variable {X:Cx} {pins:List (Addr × Obj)} {σ:St} {H:Hp} {s:Shared}
end
end L2
namespace L2
open PySem PySem.Spec PyProof.Rows PySem.W
def exO (a:Addr) (o:Obj):HO:= .ext λ h=>h.get? a=some o
section
variable {P:Program} {w:World} {K:PySem.W.Frag} {mg:Str->Option Value} {base:Heap} {N:List Str} {qual:Str} {scope:Scope} {f:Addr} {cd:Value} {cl:List (Str × Addr)} {A:Around} {outer:List Env} {s:Shared} {H:Hp} {E:XK}
structure ClOkL (N:List Str) (scope:Scope) (cl:List (Str × Addr)) (h:Heap) (H:Hp) (vs:List V):Prop where
  len:vs.length=N.length
  inj:∀ x y c,cl.lookup x=some c->cl.lookup y=some c->x=y
  has:∀ x,(scope.names.lookup x=some .cell\/scope.names.lookup x=some .free)->∃ c,cl.lookup x=some c
  val:∀ (i:Nat) (x:Str) (v:V),N[i]?=some x->vs[i]?=some v->∃ c u,scope.names.lookup x=some .free/\cl.lookup x=some c/\RelV v u/\h.IsCell c (some u)
  cell:∀ x c,cl.lookup x=some c->(∃ v,h.IsCell c v)/\H c=none
end
def OE (qual:Str) (oc:Obj):Prop:=∃ vs t,oc.data= .fields vs/\vs[1]?=some (.str qual t)
structure LamX (X:Cx) (c P:Addr):Prop where
  code:X.env.code= .ref c
  hd:CodeHd X.base c P
  blt:X.base.BuiltinsAt X.mg P
section
variable {X:Cx} {pins:List (Addr × Obj)} {σ:St} {H:Hp} {s:Shared}
end
structure LamOk (params:Arguments) (scope:Scope):Prop where
  kind:scope.kind= .function
  co:scope.isCoroutine=false
  gen:scope.isGenerator=false
  cell:∀ x∈scope.names,x.2≠ .cell
  bind:∀ (qual:Str) (body:Expr) (cl:List (Str × Addr)) (pm cdv ctv:Value),bindArgs (kla_fn "<lambda>" qual params body scope cl pm cdv ctv) ⟨[],[]⟩=pure []
section
variable {P:Program} {w:World} {K:PySem.W.Frag} {mg:Str->Option Value} {base:Heap}
structure ThAt (s:Shared) (H:Hp) (outer:List Env) (f c':Addr) (oc:Obj) (N:List Str) (qual:Str) (scope:Scope) (cl:List (Str × Addr)) (params:Arguments) (body:Expr) (pm ctv:Value) (vs:List V):Prop where
  hf:s.heap.get? f=some (kla_obj "<lambda>" qual params body scope cl pm c' ctv)
  hf0:H f=none
  nf:f∉frs outer
  hc:H c'=some (exO c' oc)
  hoc:OE qual oc
  C:ClOkL N scope cl s.heap H vs
  nc:∀ x c,cl.lookup x=some c->c∉frs outer
  lo:LamOk params scope
end
end L2
namespace L2
open PySem PySem.Spec PyProof.Rows
section
variable {X:Cx} {K:PySem.W.Frag} {e lo st:Expr} {te tl ts:TE} {pos p2:Pos}
end
section
variable {J:It} {g:TG} {σ0:St} {H:Hp} {n:Nat} {st:Nat->St} {te:TE} {Q:VK} {D:Addr}
end
end L2
namespace L2
open PySem PySem.Spec PyProof.Rows PySem.W
section
variable {prog:Program} {w:World} {A:Around} {E:Value->Shared->Prop} {s:Shared}
end
section
variable {X:Cx} {pins:List (Addr × Obj)} {σ:St} {H:Hp} {s:Shared} {A:Around} {E:Value->Shared->Prop}
end
section
variable {X:Cx} {K:PySem.W.Frag}
end
end L2
namespace L2
open PySem PySem.Spec PyProof.Rows
section
variable {X:Cx} {e o:Expr} {es:List Expr} {t:TA} {to:TE} {pos:Pos} {S:Addr->Sp->Prop} {E:XK}
end
section
variable {X:Cx} {K:PySem.W.Frag} {tg l:Expr} {ta:TA} {p pos:Pos}
end
section
variable {K:PySem.W.Frag} {σ0:St} {H:Hp} {a:Addr} {xs:List V}
end
section
variable {X:Cx} {scope:Scope} {cx:Str}
end
structure FnA (K:PySem.W.Frag) (m q:Str) (st:Stmt) (ps:List Str) (f:Addr) (fd:FuncData):Prop where
  fn:Fun K m q st f fd
  bi:Binds K fd ps []
section
variable {K:PySem.W.Frag} {mg:Str->Option Value} {m q x:Str} {st:Stmt} {ps:List Str} {f:Addr} {fd:FuncData}
theorem def_mk (a:mg x=some (.ref f)) (F:Fun K x x st f fd) (b:∀ us:List Value,us.length=ps.length->bindArgs fd ⟨us,[]⟩=pure (ps.zip us)):DefAt K mg x st ps f fd:=⟨F,a, .all b⟩
theorem fnA_mk (F:Fun K m q st f fd) (b:∀ us:List Value,us.length=ps.length->bindArgs fd ⟨us,[]⟩=pure (ps.zip us)):FnA K m q st ps f fd:=⟨F, .all b⟩
theorem exc_mk {C:Addr} (a:PySem.W.isClsIn K C=true) (b:PySem.W.findIn K (.ref C) "__getattribute__"=some (some (.builtin "BaseException.__getattribute__"))) (c:PySem.W.findIn K (.ref C) "__getattr__"=some none) (d:PySem.W.mroIn K C (.type "BaseException")=some true) (e:PySem.W.findIn K (.ref C) "__class__"=some (some (.builtin "object.__class__")))
    (f:PySem.W.specialIn K (.builtin "object.__class__") "__get__"=some (some (.builtin "getset_descriptor.__get__"))) (g:PySem.W.takesIn K (.builtin "object.__class__")=some true) (h:PySem.W.mroIn K C (.type "object")=some true):HT.ExcKind K C:=⟨a,b,c,d,e,f,g,h⟩
theorem ci_mk {n:Int} {t:Tok} (h:mg x=some (.int n t)):∃ t,mg x=some (.int n t):=⟨t,h⟩
theorem cs_mk {z:Str} {t:Tok} (h:mg x=some (.str z t)):∃ t,mg x=some (.str z t):=⟨t,h⟩
theorem own_nil:Own mg []:=λ _ h=>by cases h
theorem own_cons {xs:List Str} (a:mg x=none) (h:Own mg xs):Own mg (x::xs):=λ y hy=>by
  rcases List.mem_cons.mp hy with rfl | hy
  · exact a
  · exact h y hy
end
def Nxt (N:St->Hp->Prop):St->Hp->Prop:=N
structure Cut (u:TS) (D:Ends) (N:St->Hp->Prop):Prop where
  go:∀ σ H,u D σ H->N σ H
theorem Mg {t u:TS} {D:Ends} {σ:St} {H:Hp} (h:∀ N,Cut u D N->t { D with nx:=Nxt N } σ H):O9 t u D σ H:=h (u D) ⟨λ _ _ x=>x⟩
theorem NV {u:TS} {D:Ends} {N:St->Hp->Prop} {σ:St} {H:Hp} (k:Cut u D N) (h:u D σ H):Nxt N σ H:=k.go _ _ h
end L2
namespace MR
open PySem PySem.StrLaws MS
def sg (b:Bool):Nat:=if b=true then 49 else 48
def txt (f:Nat->Bool) (P:Nat):Str:=⟨((List.range P).map λ i=>sg (f i)).toArray⟩
theorem txt_list (f:Nat->Bool) (P:Nat):(txt f P).cps.toList=(List.range P).map λ i=>sg (f i):=by simp [txt]
theorem txt_len (f:Nat->Bool) (P:Nat):(txt f P).length=P:=by simp [txt,Str.length]
def JV (f:Nat->Bool) (i m:Nat):Prop:=∀ k,k<m->f (i+k)=true
theorem GL {f:Nat->Bool} {P j:Nat} (h:j<P):((List.range P).map λ i=>sg (f i))[j]?=some (sg (f j)):=by simp [h]
structure Mx (f:Nat->Bool) (P M:Nat):Prop where
  le:∀ i m,i+m<=P->JV f i m->m<=M
  ex:∃ i,i+M<=P/\JV f i M
structure Best (f:Nat->Bool) (P M i:Nat):Prop where
  mx:∀ i m,i+m<=P->JV f i m->m<=M
  le:i+M<=P
  on:JV f i M
  fst:∀ k,k<i->¬ (k+M<=P/\JV f k M)
end MR
namespace MP
open PySem PySem.StrLaws MS MR Builtin.Str
def Per {α:Type} (g:Nat->α) (N d:Nat):Prop:=N%d=0/\∀ i,i+d<N->g i=g (i+d)
structure Least {α:Type} (g:Nat->α) (N d:Nat):Prop where
  h1:1<=d
  h2:d<=N
  per:Per g N d
  min:∀ d',1<=d'->d'<d->¬ Per g N d'
theorem Least.uniq {α:Type} {g:Nat->α} {N d e:Nat} (a:Least g N d) (b:Least g N e):d=e:=by
  rcases Nat.lt_trichotomy d e with z | z | z
  · exact absurd a.per (b.min d a.h1 z)
  · exact z
  · exact absurd b.per (a.min e b.h1 z)
theorem Gh {α β:Type} {g:Nat->α} {h:Nat->β} {N d:Nat} (e:∀ i j,i<N->j<N->(g i=g j↔h i=h j)):Per g N d↔Per h N d:=by
  unfold Per;refine and_congr_right λ _=>forall_congr' λ i=> ?_;constructor
  · intro q hi;exact (e i (i+d) (by omega) hi).mp (q hi)
  · intro q hi;exact (e i (i+d) (by omega) hi).mpr (q hi)
theorem Least.congr {α β:Type} {g:Nat->α} {h:Nat->β} {N d:Nat} (e:∀ i j,i<N->j<N->(g i=g j↔h i=h j)) (a:Least g N d):Least h N d:=
  ⟨a.h1,a.h2,(Gh e).mp a.per,λ d' x y z=>a.min d' x y ((Gh e).mpr z)⟩
theorem per_full {α:Type} (g:Nat->α) (N:Nat):Per g N N:=⟨Nat.mod_self N,λ i hi=>by omega⟩
theorem drop_iff {α:Type} {xs:List α} {y:α} {d:Nat} (hd:d<=xs.length):xs.drop d=xs.take (xs.length - d)↔∀ i,i+d<xs.length->xs.getD i y=xs.getD (i+d) y:=by
  constructor
  · intro e i hi;have h:=congrArg (λ l=>l[i]?) e;simp only [List.getElem?_drop,List.getElem?_take] at h;rw [if_pos (by omega)] at h;rw [List.getD_eq_getElem?_getD,List.getD_eq_getElem?_getD, <-h,Nat.add_comm d i]
  · intro h;refine List.ext_getElem (by simp) λ i h1 h2=> ?_;have hi:i+d<xs.length:=by simp at h1;omega
    have:=h i hi;rw [L2.getD_el (by omega),L2.getD_el hi] at this;simp only [List.getElem_drop,List.getElem_take];rw [this];congr 1;omega
theorem rep_iff {α:Type} {y:α} {d:Nat} (hd:1<=d):∀ (k:Nat) (xs:List α),xs.length=d*k->(xs=(List.replicate k (xs.take d)).flatten↔∀ i,i+d<xs.length->xs.getD i y=xs.getD (i+d) y)
  | 0,xs,h=>by
    have:xs=[]:=List.eq_nil_of_length_eq_zero (by simpa using h);subst this;simp
  | k+1,xs,h=>by
    have hk:xs.length=d*k+d:=by rw [h,Nat.mul_succ]
    have hl:(xs.take d).length=d:=by rw [List.length_take];omega
    have hfl:((List.replicate k (xs.take d)).flatten).length=d*k:=by
      rw [List.length_flatten,List.map_replicate,List.sum_replicate_nat,hl,Nat.mul_comm]
    constructor
    · intro e i hi;have e1:xs=(List.replicate k (xs.take d)).flatten++xs.take d:=by
        have e2:List.replicate (k+1) (xs.take d)=List.replicate k (xs.take d)++[xs.take d]:=List.replicate_succ';rw [e2,List.flatten_append] at e;simpa using e
      have e3:xs=xs.take d++(List.replicate k (xs.take d)).flatten:=by
        rw [List.replicate_succ,List.flatten_cons] at e;exact e
      have a1:xs[i]?=((List.replicate k (xs.take d)).flatten)[i]?:=by
        have:xs[i]?=((List.replicate k (xs.take d)).flatten++xs.take d)[i]?:=congrArg (λ l=>l[i]?) e1;rw [List.getElem?_append_left (by omega)] at this;exact this
      have a2:xs[i+d]?=((List.replicate k (xs.take d)).flatten)[i]?:=by
        have:xs[i+d]?=(xs.take d++(List.replicate k (xs.take d)).flatten)[i+d]?:=congrArg (λ l=>l[i+d]?) e3;rw [List.getElem?_append_right (by omega),hl,show i+d - d=i by omega] at this;exact this
      rw [List.getD_eq_getElem?_getD,List.getD_eq_getElem?_getD,a1,a2]
    · intro hp;have ld:(xs.drop d).length=d*k:=by rw [List.length_drop];omega
      have hdrop:∀ i,(xs.drop d).getD i y=xs.getD (i+d) y:=λ i=>by
        rw [List.getD_eq_getElem?_getD,List.getD_eq_getElem?_getD,List.getElem?_drop,Nat.add_comm]
      rw [List.replicate_succ,List.flatten_cons];have e0:xs=xs.take d++xs.drop d:=(List.take_append_drop d xs).symm;rcases Nat.eq_zero_or_pos k with z | z
      · subst z;have:xs.drop d=[]:=List.eq_nil_of_length_eq_zero (by simpa using ld);simp;rw [List.take_of_length_le (by omega)]
      · have et:(xs.drop d).take d=xs.take d:=by
          refine List.ext_getElem (by rw [List.length_take,hl,ld];have:=Nat.le_mul_of_pos_right d z;omega) λ i h1 h2=> ?_;have hi:i<d:=by rw [hl] at h2;exact h2
          have hle:d<=d*k:=Nat.le_mul_of_pos_right d z;have:=hp i (by omega);rw [L2.getD_el (by omega),L2.getD_el (by omega)] at this;simp only [List.getElem_take,List.getElem_drop];rw [this];congr 1;omega
        have ih:=(rep_iff hd k (xs.drop d) ld).mpr λ i hi=>by
          rw [hdrop,hdrop];exact hp (i+d) (by omega)
        rw [et] at ih;rw [<-ih];exact e0
def stepQ (rs:List Nat) (n s:Nat):Bool:=(List.range rs.length).all λ i=>(List.range n).all λ e=>(rs.getD i 0).testBit e == (rs.getD ((i+rs.length - 1)%rs.length) 0).testBit ((e+n - s)%n)
theorem stepQ_iff {rs:List Nat} {n s:Nat}:stepQ rs n s=true↔∀ i,i<rs.length->∀ e,e<n->(rs.getD i 0).testBit e=(rs.getD ((i+rs.length - 1)%rs.length) 0).testBit ((e+n - s)%n):=by
  unfold stepQ;simp only [List.all_eq_true,List.mem_range,beq_iff_eq]
def stepO (rs:List Nat) (n:Nat):Option Nat:=(List.range n).find? (stepQ rs n)
theorem stepO_some {rs:List Nat} {n s:Nat} (h1:s<n) (h2:stepQ rs n s=true) (h3:∀ j,j<s->stepQ rs n j=false):stepO rs n=some s:=by
  unfold stepO;rw [List.find?_range_eq_some];exact ⟨h2,List.mem_range.mpr h1,λ j hj=>by rw [h3 j hj];rfl⟩
theorem stepO_none {rs:List Nat} {n:Nat} (h3:∀ j,j<n->stepQ rs n j=false):stepO rs n=none:=by
  unfold stepO;rw [List.find?_eq_none];intro j hj;rw [h3 j (List.mem_range.mp hj)];decide
theorem stepO_lt {rs:List Nat} {n s:Nat} (h:stepO rs n=some s):s<n:=by
  unfold stepO at h;rw [List.find?_range_eq_some] at h;exact List.mem_range.mp h.2.1
theorem Hf {e n s:Nat} (he:e<n) (hs:s<n):(e+n - s)%n=if e<s then e+n - s else e - s:=by
  split
  · rw [Nat.mod_eq_of_lt (by omega)]
  · rw [show e+n - s=(e - s)+n by omega,Nat.add_mod_right,Nat.mod_eq_of_lt (by omega)]
theorem turn_bit {m n s e:Nat} (hm:m<2 ^ n) (hs:s<n) (he:e<n):((m*2 ^ s ||| m >>> (n - s)) &&& (2 ^ n - 1)).testBit e=m.testBit ((e+n - s)%n):=by
  rw [Hf he hs,Nat.testBit_and,MM.full_bit,Nat.testBit_or,Nat.testBit_mul_two_pow,Nat.testBit_shiftRight];by_cases h:e<s
  · rw [if_pos h,decide_eq_false (by omega),show n - s+e=e+n - s by omega];simp [he]
  · rw [if_neg h,decide_eq_true (show s<=e by omega)];have:m.testBit (n - s+e)=false:=Nat.testBit_lt_two_pow (Nat.lt_of_lt_of_le hm (Nat.pow_le_pow_right (by decide) (by omega)));rw [this];simp [he]
theorem turn_lt (m n s:Nat):((m*2 ^ s ||| m >>> (n - s)) &&& (2 ^ n - 1))<2 ^ n:=Nat.and_lt_two_pow _ (by have:=Nat.two_pow_pos n;omega)
theorem eq_bits {a b n:Nat} (ha:a<2 ^ n) (hb:b<2 ^ n):a=b↔∀ e,e<n->a.testBit e=b.testBit e:=by
  constructor
  · rintro rfl e _;rfl
  · intro h;refine Nat.eq_of_testBit_eq λ i=> ?_;by_cases hi:i<n
    · exact h i hi
    · rw [Nat.testBit_lt_two_pow (Nat.lt_of_lt_of_le ha (Nat.pow_le_pow_right (by decide) (by omega))),Nat.testBit_lt_two_pow (Nat.lt_of_lt_of_le hb (Nat.pow_le_pow_right (by decide) (by omega)))]
theorem txt_inj {f g:Nat->Bool} {P:Nat}:txt f P=txt g P↔∀ e,e<P->f e=g e:=by
  constructor
  · intro h e he;have h2:((List.range P).map λ i=>sg (f i))[e]?=((List.range P).map λ i=>sg (g i))[e]?:=by rw [<-txt_list, <-txt_list,h]
    rw [GL he,GL he] at h2;have h3:=Option.some.inj h2
    revert h3
    cases f e <;> cases g e <;> simp [sg]
  · intro h;have:(List.range P).map (λ i=>sg (f i))=(List.range P).map λ i=>sg (g i):=List.map_congr_left λ i hi=>by rw [h i (List.mem_range.mp hi)]
    unfold txt;rw [this]
theorem Md {a b:Str} (h:a.cps.toList=b.cps.toList):a=b:=by
  have:=Array.toList_inj.mp h;cases a;cases b;cases this;rfl
theorem KY {f:Nat->Bool} {P k:Nat} (h:k<=P):(Txt.slice (txt f P) none (some ((k:Nat):Int))).cps.toList=((List.range P).map λ i=>sg (f i)).take k:=by
  have hl:=txt_len f P;have ei:Builtin.Str.strSliceIndices none (some ((k:Nat):Int)) 1 (txt f P).length=Builtin.Str.strSliceIndices (some ((0:Nat):Int)) (some ((k:Nat):Int)) 1 (txt f P).length:=sliceIdx_none_lo _ _;have e2:List.filterMap (λ j=>(txt f P).cps[j]?) (Builtin.Str.strSliceIndices none (some ((k:Nat):Int)) 1 (txt f P).length)=((List.range P).map λ i=>sg (f i)).take k:=by
    rw [ei,sliced_plain (txt f P) (a:=0) (b:=k) (Nat.zero_le k) (by omega),List.drop_zero,txt_list,Nat.sub_zero]
  have el:(Builtin.Str.strSliceIndices none (some ((k:Nat):Int)) 1 (txt f P).length).length=k:=by
    rw [ei,strSliceIndices_plain (a:=0) (b:=k) (Nat.zero_le k) (by omega)];simp
  unfold Txt.slice;rw [e2,el,hl];split
  · rename_i hc
    simp at hc;rw [txt_list,List.take_of_length_le (by simp;omega)]
  · simp
theorem J6 {f:Nat->Bool} {P k:Nat} (h:k<=P):(Txt.slice (txt f P) (some ((k:Nat):Int)) none).cps.toList=((List.range P).map λ i=>sg (f i)).drop k:=by
  have hl:=txt_len f P;have ei:Builtin.Str.strSliceIndices (some ((k:Nat):Int)) none 1 (txt f P).length=Builtin.Str.strSliceIndices (some ((k:Nat):Int)) (some (((txt f P).length:Nat):Int)) 1 (txt f P).length:=sliceIdx_none_hi _ _;have e2:List.filterMap (λ j=>(txt f P).cps[j]?) (Builtin.Str.strSliceIndices (some ((k:Nat):Int)) none 1 (txt f P).length)=((List.range P).map λ i=>sg (f i)).drop k:=by
    rw [ei,sliced_plain (txt f P) (a:=k) (b:=(txt f P).length) (by omega) (Nat.le_refl _),txt_list,List.take_of_length_le (by simp;omega)]
  have el:(Builtin.Str.strSliceIndices (some ((k:Nat):Int)) none 1 (txt f P).length).length=P - k:=by
    rw [ei,strSliceIndices_plain (a:=k) (b:=(txt f P).length) (by omega) (Nat.le_refl _)];simp [hl]
  unfold Txt.slice;rw [e2,el,hl];split
  · rename_i hc
    simp at hc;rw [txt_list];rcases (show k=0\/P=0 by omega) with z | z
    · subst z;simp
    · subst z;simp
  · simp
theorem turned_txt {f:Nat->Bool} {n s:Nat} (hs:s<n):Txt.slice (txt f n) (some ((n - s:Nat):Int)) none++Txt.slice (txt f n) none (some ((n - s:Nat):Int))=txt (λ e=>f ((e+n - s)%n)) n:=by
  refine Md ?_;show ((Txt.slice (txt f n) (some ((n - s:Nat):Int)) none).cps++(Txt.slice (txt f n) none (some ((n - s:Nat):Int))).cps).toList=_;rw [Array.toList_append,J6 (by omega),KY (by omega),txt_list];refine List.ext_getElem (by simp;try omega) λ e h1 h2=> ?_;have he:e<n:=by simpa using h2
  rw [List.getElem_map,List.getElem_range,Hf he hs];by_cases h:e<s
  · rw [List.getElem_append_left (by simp;omega),if_pos h];simp;congr 2;omega
  · rw [List.getElem_append_right (by simp;omega),if_neg h];simp;congr 2;omega
def pc (m n:Nat):Nat:=((List.range n).filter m.testBit).length
theorem count_txt (f:Nat->Bool) (P:Nat) (b:Bool):Txt.count (txt f P) ⟨#[sg b]⟩=((((List.range P).filter λ i=>f i == b).length:Nat):Int):=by
  unfold Txt.count;rw [LL,txt_list,txt_len];unfold Cr;have e:(List.range' 0 (P+1)).filter (λ i=>decide (((List.range P).map λ i=>sg (f i))[i]?=some (sg b)))=(List.range P).filter λ i=>f i == b:=by
    rw [<-List.range_eq_range',List.range_succ,List.filter_append];have e1:[P].filter (λ i=>decide (((List.range P).map λ i=>sg (f i))[i]?=some (sg b)))=[]:=by
      simp
    rw [e1,List.append_nil];refine List.filter_congr λ i hi=> ?_;rw [GL (List.mem_range.mp hi)];cases f i <;> cases b <;> decide
  rw [e]
def lone (pt:List Nat) (a:Nat):Bool:=(pt.all λ p=>pc p a == 1)||pt.all λ p=>pc p a == a - 1
def sortS (a d:Nat) (pt:List Nat):Str:=
  if a≠d\/a<2 then Str.ofString "other"
  else if a=2 then (if pt=[1,2]\/pt=[2,1] then Str.ofString "plain" else Str.ofString "other")
  else if stepO pt a=some 1\/stepO pt a=some (a - 1) then Str.ofString "twill"
  else if a<5\/stepO pt a=none\/lone pt a=false then Str.ofString "other"
  else if stepO pt a=some 0 then Str.ofString "other" else Str.ofString "satin"
theorem plain_all:∀ x,x<4->∀ y,y<4->(decide (pc x 2=1/\pc y 2=1)&&decide (((List.range 2).filter λ p=>([x,y].getD p 0).testBit 0 == true).length=1/\((List.range 2).filter λ p=>([x,y].getD p 0).testBit 1 == true).length=1))=decide ([x,y]=[1,2]\/[x,y]=[2,1]):=by decide
theorem perm12 {x y:Nat} {ms:List Int} (p:ms.Perm ([x,y].map λ n:Nat=>(n:Int))) (s:ms.Pairwise (· <= ·)):ms=[1,2]↔([x,y]=[1,2]\/[x,y]=[2,1]):=by
  constructor
  · rintro rfl;have h1:(1:Int)∈[x,y].map λ n:Nat=>(n:Int):=p.mem_iff.mp (by simp);have h2:(2:Int)∈[x,y].map λ n:Nat=>(n:Int):=p.mem_iff.mp (by simp);simp at h1 h2;simp;omega
  · intro h;have hl:ms.length=2:=by rw [p.length_eq];rfl
    have hp:ms.Perm [1,2]:=by
      rcases h with h | h
      · rw [h] at p;exact p
      · rw [h] at p;exact p.trans (List.Perm.swap ..)
    have hs:([1,2]:List Int).Pairwise (· <= ·):=by simp
    exact hp.eq_of_pairwise (λ a b _ _ h1 h2=>Int.le_antisymm h1 h2) s hs
end MP
open L2
local macro_rules | `(tactic| walk_at "t") => `(tactic| first | (with_reducible first | refine Mg λ _ _ => ?_ | refine NV (by assumption) ?_ | refine NE ?_ | refine Lx ?_ | refine Qq ?_ | refine OM ?_ | refine O7 ?_ | refine Np ?_ | refine Ot ?_ | refine N0 ?_ | refine NZ ?_ | refine M5 ?_ | refine Nd ?_ | refine Nk ?_ | refine Ng ?_ | refine LU ?_ | refine Om ?_ | refine Oz ?_ | refine OU ?_ | refine M4 ?_ | refine LC ?_ | refine MN ?_ | refine L4 ?_ | refine OT ?_ | refine M6 ?_ | refine Lk ?_ | refine N1 ?_ | refine LB ?_ | refine NR ?_ | refine Nt ?_ | refine Ox ?_ | refine Mf ?_ | refine OR ?_ | refine Lu ?_ | refine Jx ?_ | refine NY ?_ | refine KJ ?_ | refine Hz ?_ | refine L7 ?_ | refine NM ?_ | refine Oy ?_ | refine Oe ?_ | refine O5 ?_ | refine LJ ?_ | refine MT ?_ | refine OH ?_ | refine OG ?_ | refine O8 ?_ | refine Og ?_ | refine Od ?_ | refine O1 ?_ | refine Oi ?_ | refine OW ?_ | refine Kv ?_ | refine LD ?_ | refine N3 ?_ | refine NU ?_ | refine Lr ?_ | refine LG ?_ | refine JT ?_ | refine Kw ?_ | refine M8 ?_ | refine NT ?_ | refine Lg ?_ | refine L1 ?_) | ((with_reducible apply NI); exact rfl) | (with_reducible refine NG (by simp only [List.length_cons, List.length_nil]; decide) ?_))
local macro_rules | `(tactic| walk_at "s") => `(tactic| first | walk_at "t" | (with_reducible refine MU ?_))
local macro_rules | `(tactic| walk_at "w") => `(tactic| repeat walk_at "s")
local macro_rules | `(tactic| wrow_has $H $n) => do let t := ((n.getId.toString.drop 1).toString); let i := λ (a : String) => Lean.mkIdent (Lean.Name.mkSimple (a ++ t)); `(tactic| (generalize e : upd $H $(i "p") _ = $(i "H"); have $(i "s"):ident : Same $H $(i "H") := (by rw [<-e]; exact Ai $(i "n")); have $(i "g"):ident := (congrFun e $(i "p")).symm.trans Ag; clear e))
local macro_rules | `(tactic| row_lines $H $n) => do let t := ((n.getId.toString.drop 1).toString); let i := λ (a : String) => Lean.mkIdent (Lean.Name.mkSimple (a ++ t)); `(tactic| (intro $(i "p"):ident $(i "n"):ident; wrow_has $H $n))
local macro_rules | `(tactic| walk_at "x") => `(tactic| repeat first | walk_at "s" | (with_reducible refine Ak (by decide) ?_))
namespace K20
open PySem L2 PySem.Spec PyProof.Rows
seal L2.PE L2.PT L2.PW L2.PA L2.PS L2.PSs L2.PI L2.PG L2.PTs L2.PGs
section
variable {P:Program} {w:World} {K:PySem.W.Frag} {mg:Str->Option Value} {base:Heap}
structure Cs where
  Cloth:Addr
structure Txt (K:PySem.W.Frag) (mg:Str->Option Value) (c:Cs):Prop where
  own:Own mg ["isinstance","int","bool","str","list","tuple","len","all","range","sum","zip","enumerate","min","max","sorted"]
  g_Cloth:mg "Cloth"=some (.ref c.Cloth)
  kd_Cloth:Kind K c.Cloth
  is_Cloth:PySem.W.kitOne K (.ref c.Cloth) (.ref c.Cloth)=some true
  na_Cloth_width:NoAttr K c.Cloth "width"
  na_Cloth_rows:NoAttr K c.Cloth "rows"
  k_MOST_ENDS:∃ t,mg "MOST_ENDS"=some (.int 60 t)
  k_MOST_PICKS:∃ t,mg "MOST_PICKS"=some (.int 60 t)
  k_LEAST_TWILL:∃ t,mg "LEAST_TWILL"=some (.int 3 t)
  k_LEAST_SATIN:∃ t,mg "LEAST_SATIN"=some (.int 5 t)
def IE (K:PySem.W.Frag):Sp:=λ vs H Q _=>∃ (a:Addr) (ns:List Int),vs=[.ref a]/\SqL K H a (ns.map V.int)/\ns.length<=63/\∀ H',Q (.bl true) H'
end
section
variable {P:Program} {w:World} {K:PySem.W.Frag} {mg:Str->Option Value} {base:Heap} {c:Cs}
def Ep:Sp:=λ vs H Q _=>∃ n:Nat,vs=[.int n]/\1<=n/\n<=1000/\Q (.int ((2 ^ (n - 1):Nat):Int)) H
abbrev Fi:Stmt:=top 7
theorem JK:FnScope ["number"] ["number"] (Aj Fi):=⟨rfl,rfl,rfl,by decide +kernel,rfl,by decide +kernel,by decide +kernel⟩
theorem JL {f:Addr} {fd:FuncData} (F:Fun K "bit_of" "bit_of" Fi f fd) (T:Txt K mg c):FnOk P w K mg base CX0 1 f fd ["number"] Ep:=by
  refine F.ok JK (λ vs H Q E h=> ?_) (λ cdv A outer s H vs Q E hr h=> ?_)
  · obtain ⟨n,rfl,_⟩:=h;rfl
  · obtain ⟨n,rfl,h1,h2,q⟩:=h;refine ⟨_,(Ah (Al (Ad AW Ac (Ad AY (pv 0) Ac)))),?_⟩;walk_at "w";refine Ak ⟨by omega,by omega,by decide⟩ ?_;rw [show ((n:Int) - 1).toNat=n - 1 by omega,Ho];exact q
def Fj (K:PySem.W.Frag):Sp:=λ vs H Q _=>∃ tp a,∃ ns:List Nat,vs=[.ref a]/\SqS tp K H a (ns.map nV)/\(∀ n∈ns,1<=n/\n<=1000)/\∀ H',Same H H'->Q (.int ((MM.mOf ns:Nat):Int)) H'
abbrev Ed:Stmt:=top 8
theorem sc_mask_of:FnScope ["numbers","mask","number"] ["numbers"] (Aj Ed):=⟨rfl,rfl,rfl,by decide +kernel,rfl,by decide +kernel,by decide +kernel⟩
theorem HH {f:Addr} {fd:FuncData} (F:Fun K "mask_of" "mask_of" Ed f fd) (T:Txt K mg c) (c_bit_of:Ao P w K mg base "bit_of" 1 ["number"] Ep):FnOk P w K mg base CX0 2 f fd ["numbers"] (Fj K):=by
  refine F.ok sc_mask_of (λ vs H Q E h=> ?_) (λ cdv A outer s H vs Q E hr h=> ?_)
  · obtain ⟨tp,a,ns,rfl,_⟩:=h;rfl
  · obtain ⟨tp,a,ns,rfl,sa,hn,q⟩:=h;refine ⟨_,(Ae (Ax (i:=1) sc_mask_of.nd rfl (Or.inl rfl) Ac)
      (Ae (CO PassesOwn.never rfl (Ov (K:=K) (pv 0)) (AE (i:=2) sc_mask_of.nd rfl (Or.inl rfl)) (Ah (NB (i:=1) sc_mask_of.nd rfl (Or.inl rfl) (Af c_bit_of hr (Aa (pv 2) Ab)) N6)))
      (Ah (Al (pv 1))))),?_⟩
    walk_at "w";refine ⟨tp,a,rfl,⟨_,sa⟩,C3 (O6 sa) (λ i σ H3=>∃ x,σ=[some (.ref a),some (.int ((MM.mOf (ns.take i):Nat):Int)),x]/\Same H H3) ⟨_,rfl,Same.refl _⟩ (λ i σ H3 ⟨_,_,s⟩=>s) ?_ ?_⟩
    · rintro i σ H' H3 hi ⟨x,rfl,s'⟩ s3;have hi':i<ns.length:=by simpa using hi
      have hm:ns.getD i 0∈ns:=by rw [List.getD_eq_getElem?_getD,List.getElem?_eq_getElem hi'];exact List.getElem_mem hi'
      rw [AH hi];walk_at "w";refine Ni rfl ?_;walk_at "w";refine ⟨_,rfl,(hn _ hm).1,(hn _ hm).2,?_⟩;walk_at "w";rw [bO, <-MM.mOf_snoc, <-Je hi'];exact ⟨_,rfl,s'.trans s3⟩
    · rintro σ H3 ⟨x,rfl,s3⟩;walk_at "w";rw [List.length_map,List.take_length];exact q H3 s3
def Cy:Sp:=λ vs H Q _=>∃ n:Nat,vs=[.int n]/\n<=1000/\Q (.int ((2 ^ n - 1:Nat):Int)) H
abbrev Ei:Stmt:=top 9
theorem HV:FnScope ["most"] ["most"] (Aj Ei):=⟨rfl,rfl,rfl,by decide +kernel,rfl,by decide +kernel,by decide +kernel⟩
theorem HW {f:Addr} {fd:FuncData} (F:Fun K "mask_to" "mask_to" Ei f fd) (T:Txt K mg c):FnOk P w K mg base CX0 1 f fd ["most"] Cy:=by
  refine F.ok HV (λ vs H Q E h=> ?_) (λ cdv A outer s H vs Q E hr h=> ?_)
  · obtain ⟨n,rfl,_⟩:=h;rfl
  · obtain ⟨n,rfl,h1,q⟩:=h;refine ⟨_,(Ah (Al (Ad AY (Ad AW Ac (pv 0)) Ac))),?_⟩;walk_at "w";refine Ak ⟨by omega,by omega,by decide⟩ ?_;walk_at "w";have hp:0<2 ^ n:=Nat.two_pow_pos n;rw [show ((n:Int)).toNat=n by omega,Ho,show ((2 ^ n:Nat):Int) - 1=((2 ^ n - 1:Nat):Int) by omega];exact q
def B0:Sp:=λ vs H Q _=>∃ m n:Nat,vs=[.int m, .int n]/\1<=n/\n<=1000/\Q (.bl (m.testBit (n - 1))) H
theorem LI (m i:Nat):(!decide (((m &&& 2 ^ i:Nat):Int)=0))=m.testBit i:=by
  have e:(m &&& 2 ^ i)=(m.testBit i).toNat*2 ^ i:=by
    refine Nat.eq_of_testBit_eq λ j=> ?_;rw [Nat.testBit_and,Nat.testBit_two_pow];by_cases h:i=j
    · subst h;cases hb:m.testBit i <;> simp
    · cases hb:m.testBit i <;> simp [h,Nat.testBit_two_pow]
  rw [e];have hp:0<2 ^ i:=Nat.two_pow_pos i;cases m.testBit i with
  | false=>simp
  | true=>
    rw [decide_eq_false (by rw [Bool.toNat_true];omega)];rfl
abbrev Cd:Stmt:=top 10
theorem FM:FnScope ["mask","number"] ["mask","number"] (Aj Cd):=⟨rfl,rfl,rfl,by decide +kernel,rfl,by decide +kernel,by decide +kernel⟩
theorem FF {f:Addr} {fd:FuncData} (F:Fun K "has_number" "has_number" Cd f fd) (T:Txt K mg c) (c_bit_of:Ao P w K mg base "bit_of" 1 ["number"] Ep):FnOk P w K mg base CX0 2 f fd ["mask","number"] B0:=by
  refine F.ok FM (λ vs H Q E h=> ?_) (λ cdv A outer s H vs Q E hr h=> ?_)
  · obtain ⟨m,n,rfl,_⟩:=h;rfl
  · obtain ⟨m,n,rfl,h1,h2,q⟩:=h;refine ⟨_,(Ah (Al (AL G0 (Ad DW (pv 0) (Af c_bit_of hr (Aa (pv 1) Ab))) Ac (An _)))),?_⟩;walk_at "w";refine ⟨n,rfl,h1,h2,?_⟩;walk_at "w";rw [bA,LI];exact q
def Di:Sp:=λ vs H Q _=>∃ m:Nat,vs=[.int m]/\m<2 ^ 900/\∀ H' p,Same H H'->H p=none->H' p=some (.lst ((MM.nOf m).map nV))->Q (.ref p) H'
abbrev Cj:Stmt:=top 11
theorem FO:FnScope ["mask"] ["mask"] (Aj Cj):=⟨rfl,rfl,rfl,by decide +kernel,rfl,by decide +kernel,by decide +kernel⟩
theorem FK {f:Addr} {fd:FuncData} (F:Fun K "numbers_of" "numbers_of" Cj f fd) (T:Txt K mg c) (c_has_number:Ao P w K mg base "has_number" 2 ["mask","number"] B0):FnOk P w K mg base CX0 3 f fd ["mask"] Di:=by
  refine F.ok FO (λ vs H Q E h=> ?_) (λ cdv A outer s H vs Q E hr h=> ?_)
  · obtain ⟨m,rfl,_⟩:=h;rfl
  · obtain ⟨m,rfl,h1,q⟩:=h;have hb:=MM.bits_le h1;refine ⟨_,(Ah (Al (B9 (C6 rfl (T.own _ (by decide)) (Aa Ac (Aa (Ad AB (M3 (K:=K) PySem.F.plainAttrs_int PySem.F.slot_int_bit_length PySem.F.type_int_bit_length FP (pv 0)) Ac) Ab))) (λ _ _ _ _=>(IJ (AT (Af c_has_number hr (Aa (pv 1) (Aa (pv 0) Ab)))))) (λ _ _ _ _=>(pv 0))))),?_⟩;walk_at "w";refine tyI ?_;refine LY ?_;walk_at "w";refine ⟨_,_,rfl,⟨by decide,by decide,by omega,by omega⟩,λ D hD=> ?_⟩;rw [show ((MM.bits m:Nat)+1 - 1:Int).toNat=MM.bits m by omega];refine E6 (p:=m.testBit) (G:=λ i=>1+(i:Int)) (Eg rfl) hD (by omega) ?_ ?_ ?_
    · intro i H' R hi s k;walk_at "w";refine ⟨m,i+1,by rw [show (1:Int)+(i:Nat)=((i+1:Nat):Int) by omega],by omega,by omega,?_⟩;rw [show i+1 - 1=i by omega];exact ⟨_,rfl,k H' (Same.refl _)⟩
    · intro i H' R hi hp s k;walk_at "w";exact k H' (Same.refl _)
    · intro H' s hl;refine q H' D s hD ?_;rw [hl];unfold MM.nOf;rw [List.map_map,List.map_map];congr 2;refine List.map_congr_left λ i _=> ?_;show V.int (1+(i:Int))=V.int ((i+1:Nat):Int);congr 1;omega
def Et (K:PySem.W.Frag):Sp:=λ vs H Q _=>∃ x,vs=[x]/\Ty K H x/\Q (.bl (KM x)) H
abbrev DE:Stmt:=top 13
theorem Hi:FnScope ["thing"] ["thing"] (Aj DE):=⟨rfl,rfl,rfl,by decide +kernel,rfl,by decide +kernel,by decide +kernel⟩
theorem G7 {f:Addr} {fd:FuncData} (F:Fun K "is_whole" "is_whole" DE f fd) (T:Txt K mg c):FnOk P w K mg base CX0 1 f fd ["thing"] (Et K):=by
  refine F.ok Hi (λ vs H Q E h=> ?_) (λ cdv A outer s H vs Q E hr h=> ?_)
  · obtain ⟨x,rfl,_⟩:=h;rfl
  · obtain ⟨x,rfl,⟨n,ty⟩,k⟩:=h;refine ⟨_,(Ah (Al (CY (Am (Du (K:=K)) rfl (T.own _ (by decide)) boot_isinstance (Aa (pv 0) (Aa (CK rfl (T.own _ (by decide)) boot_int) Ab))) (CL (ND (Am (Du (K:=K)) rfl (T.own _ (by decide)) boot_isinstance (Aa (pv 0) (Aa (CK rfl (T.own _ (by decide)) boot_bool) Ab)))))))),?_⟩;walk_at "w";refine Cm ty (LE ty) ?_;walk_at "w";refine EO (λ hc=> ?_) (λ hc=> ?_)
    · walk_at "w";refine Cm ty (Kg ty) ?_;walk_at "w";exact Ha (by cases x <;> first | rfl | exact absurd hc Bool.false_ne_true) k
    · exact Ha (by cases x <;> first | rfl | exact absurd hc.symm Bool.false_ne_true) k
def Ey (K:PySem.W.Frag):Sp:=λ vs H Q _=>∃ x a b,vs=[x, .int a, .int b]/\Ty K H x/\Q (.bl (GN x a b)) H
abbrev Ds:Stmt:=top 14
theorem G9:FnScope ["thing","least","most"] ["thing","least","most"] (Aj Ds):=⟨rfl,rfl,rfl,by decide +kernel,rfl,by decide +kernel,by decide +kernel⟩
theorem G8 {f:Addr} {fd:FuncData} (F:Fun K "is_among" "is_among" Ds f fd) (T:Txt K mg c) (c_is_whole:Ao P w K mg base "is_whole" 1 ["thing"] (Et K)):FnOk P w K mg base CX0 2 f fd ["thing","least","most"] (Ey K):=by
  refine F.ok G9 (λ vs H Q E h=> ?_) (λ cdv A outer s H vs Q E hr h=> ?_)
  · obtain ⟨x,a,b,rfl,_⟩:=h;rfl
  · obtain ⟨x,a,b,rfl,ty,k⟩:=h;refine ⟨_,(Ah (Al (CY (Af c_is_whole hr (Aa (pv 0) Ab)) (CL (G2 Mh Mh (pv 1) (pv 0) (pv 2)))))),?_⟩;walk_at "w";refine ⟨x,rfl,ty,?_⟩;walk_at "w";refine EO (λ hc=> ?_) (λ hc=> ?_)
    · cases x with
      | int i=>
        walk_at "w";refine EO (λ h1=> ?_) (λ h1=> ?_)
        · walk_at "w";exact Ha (by show _=(decide (a<=i)&&decide (i<=b));rw [h1,Bool.true_and]) k
        · walk_at "w";exact Ha (by show _=(decide (a<=i)&&decide (i<=b));rw [h1,Bool.false_and]) k
      | _=>exact absurd hc Bool.false_ne_true
    · exact Ha (by cases x <;> first | rfl | exact absurd hc.symm Bool.false_ne_true) k
def ClAt (C:Addr) (H:Hp) (x:Addr) (n:Nat) (rs:List Nat):Prop:=∃ dx t,H x=some (.ins C dx [("width",nV n),("rows", .ref t)])/\H t=some (.tup (rs.map nV))
theorem ClAt.same {C:Addr} {H H':Hp} {x:Addr} {n:Nat} {rs:List Nat} (h:ClAt C H x n rs) (s:Same H H'):ClAt C H' x n rs:=by
  obtain ⟨dx,t,h1,h2⟩:=h;exact ⟨dx,t,s _ _ h1,s _ _ h2⟩
structure ClOk (n:Nat) (rs:List Nat):Prop where
  n1:1<=n
  n2:n<=60
  p1:1<=rs.length
  p2:rs.length<=60
  lt:∀ r∈rs,r<2 ^ n
def Dg:Sp:=λ vs H Q _=>∃ (n:Nat) (a:Addr) (rs:List Nat),vs=[.int n, .ref a]/\H a=some (.lst (rs.map nV))/\ClOk n rs/\∀ H',Same H H'->Q .non H'
abbrev Co:Stmt:=top 16
theorem FE:FnScope ["ends","rows"] ["ends","rows"] (Aj Co):=⟨rfl,rfl,rfl,by decide +kernel,rfl,by decide +kernel,by decide +kernel⟩
theorem FU {f:Addr} {fd:FuncData} (F:Fun K "need_cloth" "need_cloth" Co f fd) (T:Txt K mg c) (c_is_among:Ao P w K mg base "is_among" 2 ["thing","least","most"] (Ey K)) (c_mask_to:Ao P w K mg base "mask_to" 1 ["most"] Cy):FnOk P w K mg base CX0 3 f fd ["ends","rows"] Dg:=by
  refine F.ok FE (λ vs H Q E h=> ?_) (λ cdv A outer s H vs Q E hr h=> ?_)
  · obtain ⟨n,a,rs,rfl,_⟩:=h;rfl
  · obtain ⟨n,a,rs,rfl,ha,ok,k⟩:=h;refine ⟨_,(Ae (AR (BY (AT (Af c_is_among hr (Aa (pv 0) (Aa Ac (Aa (IR T.k_MOST_ENDS) Ab)))))) (Ah Fs) Aw)
      (Ae (AR (PW.pt (CC (BY (AT (Am (Du (K:=K)) rfl (T.own _ (by decide)) boot_isinstance (Aa (pv 1) (Aa (CK rfl (T.own _ (by decide)) A8) Ab))))) (BX (BY (AT (Af c_is_among hr (Aa (Am (CN (K:=K)) rfl (T.own _ (by decide)) boot_len (Aa (pv 1) Ab)) (Aa Ac (Aa (IR T.k_MOST_PICKS) Ab))))))))) (Ah Fs) Aw)
      (Ah (AR (BY (AT (Am (Hv (K:=K)) rfl (T.own _ (by decide)) Cb (Aa (B9 (Dn (K:=K) (pv 1)) (λ _ _ _ _=>Ay) (λ _ _ _ _=>(Af c_is_among hr (Aa (pv 0) (Aa Ac (Aa (Af c_mask_to (hr.mono (by decide)) (Aa (pv 1) Ab)) Ab)))))) Ab)))) (Ah Fs) Aw)))),?_⟩
    walk_at "w";refine ⟨_,_,_,rfl,⟨_, .int _⟩,?_⟩;walk_at "w";have e1:GN (.int n) 1 60=true:=by
      have:=ok.n1;have:=ok.n2;show (decide ((1:Int)<=n)&&decide ((n:Int)<=60))=true;simp;omega
    rw [e1];refine Hz ?_;walk_at "w";refine Cm (.lst ha) (kb (b:=true) (by decide +kernel)) ?_;walk_at "w";refine Bx (SqL.of ha) ?_;walk_at "w";refine ⟨_,_,_,rfl,⟨_, .int _⟩,?_⟩;walk_at "w";have e2:GN (.int ((rs.map nV).length:Nat)) 1 60=true:=by
      have:=ok.p1;have:=ok.p2;rw [List.length_map];show (decide ((1:Int)<=(rs.length:Nat))&&decide (((rs.length:Nat):Int)<=60))=true;simp;omega
    rw [e2];refine Hz ?_;walk_at "w";refine ⟨a,rfl,⟨_,SqL.of ha⟩,λ D hD=> ?_⟩;refine DR (G:=λ _=>true) (A0 (SqL.of ha) rfl) hD (by have:=ok.p2;rw [List.length_map];omega) ?_ ?_
    · intro i H' R hi s kk;have hi':i<rs.length:=by simpa using hi
      rw [AH hi];walk_at "w";refine ⟨n,rfl,by have:=ok.n2;omega,?_⟩;walk_at "w";refine ⟨_,_,_,rfl,⟨_, .int _⟩,?_⟩;have e3:GN (.int (rs.getD i 0:Nat)) 0 ((2 ^ n - 1:Nat):Int)=true:=by
        have hm:rs.getD i 0∈rs:=by rw [List.getD_eq_getElem?_getD,List.getElem?_eq_getElem hi'];exact List.getElem_mem hi'
        have:=ok.lt _ hm;have hp:0<2 ^ n:=Nat.two_pow_pos n;show (decide ((0:Int)<=(rs.getD i 0:Nat))&&decide (((rs.getD i 0:Nat):Int)<=((2 ^ n - 1:Nat):Int)))=true;simp only [Bool.and_eq_true,decide_eq_true_eq];omega
      rw [e3];exact kk H' (Same.refl _)
    · intro H' s hl;walk_at "w";refine Fk (SqL.of hl) ?_;walk_at "w";have e4:((List.range (rs.map nV).length).map λ _=>true).all id=true:=by simp
      rw [e4];refine Hz ?_;walk_at "w";exact k H' s
def AO (c:Cs):Sp:=λ vs H Q _=>∃ (x dx:Addr) (n:Nat) (a:Addr) (rs:List Nat),vs=[.ref x, .int n, .ref a]/\H x=some (.ins c.Cloth dx [])/\H a=some (.lst (rs.map nV))/\ClOk n rs/\
  ∀ H',(∀ b o,H b=some o->b≠x->H' b=some o)->ClAt c.Cloth H' x n rs->Q .non H'
abbrev Bl:Stmt:=A3 (top 17) 0
theorem DP:FnScope ["self","ends","rows"] ["self","ends","rows"] (Aj Bl):=⟨rfl,rfl,rfl,by decide +kernel,rfl,by decide +kernel,by decide +kernel⟩
theorem DS {f:Addr} {fd:FuncData} (F:Fun K "__init__" "Cloth.__init__" Bl f fd) (T:Txt K mg c) (c_need_cloth:Ao P w K mg base "need_cloth" 3 ["ends","rows"] Dg):FnOk P w K mg base CX0 4 f fd ["self","ends","rows"] (AO c):=by
  refine F.ok DP (λ vs H Q E h=> ?_) (λ cdv A outer s H vs Q E hr h=> ?_)
  · obtain ⟨x,dx,n,a,rs,rfl,_⟩:=h;rfl
  · obtain ⟨x,dx,n,a,rs,rfl,hx,ha,ok,k⟩:=h;refine ⟨_,(Ae (GM (Af c_need_cloth hr (Aa (pv 1) (Aa (pv 2) Ab))))
      (Ae (K3 (pv 0) (pv 1) rfl)
      (Ah (K3 (pv 0) (BB (Lb (K:=K)) rfl (T.own _ (by decide)) CV (Aa (pv 2) Ab)) rfl)))),?_⟩
    walk_at "w";refine ⟨n,a,rs,rfl,ha,ok,λ H1 s1=> ?_⟩;walk_at "w";refine Kx (s1 _ _ hx) T.kd_Cloth.cl T.na_Cloth_width (by decide) ?_;walk_at "w";have nax:a≠x:=Oh ha hx (by intro z;cases z);refine J8 (SqL.of (by rw [Av nax];exact s1 _ _ ha)) λ t ht=> ?_;walk_at "w";have nxt:x≠t:=AD Ag ht;refine Kx (by rw [Av nxt];exact Ag) T.kd_Cloth.cl T.na_Cloth_rows (by show 1<1000;decide) ?_;walk_at "w";refine k _ (λ b o e hb=> ?_) ⟨dx,t,Ag,by rw [Av (Ne.symm nxt),Ag]⟩;have hbt:b≠t:=λ z=>by
      subst z;rw [Av hb,s1 _ _ e] at ht;cases ht
    rw [Av hb,Av hbt,Av hb];exact s1 _ _ e
theorem KL {c:Cs} {H:Hp} {R:Addr->Hp->Prop} {n:Nat} {a:Addr} {rs:List Nat} (ha:H a=some (.lst (rs.map nV))) (ok:ClOk n rs) (h:∀ H' x,Same H H'->H x=none->ClAt c.Cloth H' x n rs->R x H'):
    ∀ x dx,H x=none->H dx=none->dx≠x->AO c [.ref x, .int n, .ref a] (upd (upd H dx (.own x)) x (.ins c.Cloth dx [])) (λ v H2=>v= .non/\R x H2) E0:=by
  intro x dx hx hdx ne;have s0:=KN (o:=HO.ins c.Cloth dx []) (u:= .own x) hx hdx;exact ⟨x,dx,n,a,rs,rfl,Ag,s0 _ _ ha,ok,λ H' kp at'=>⟨rfl,h H' x (λ b o e=>kp b o (s0 b o e) (AD e hx)) hx at'⟩⟩
abbrev GC:Stmt:=A3 (top 17) 1
theorem K8:FnScope ["self"] ["self"] (Aj GC):=⟨rfl,rfl,rfl,by decide +kernel,rfl,by decide +kernel,by decide +kernel⟩
def AC (c:Cs):Sp:=λ vs H Q _=>∃ x n rs,vs=[.ref x]/\ClAt c.Cloth H x n rs/\Q (nV n) H
abbrev Ct:Stmt:=A3 (top 17) 2
theorem FC:FnScope ["self"] ["self"] (Aj Ct):=⟨rfl,rfl,rfl,by decide +kernel,rfl,by decide +kernel,by decide +kernel⟩
theorem FQ {f:Addr} {fd:FuncData} (F:Fun K "ends" "Cloth.ends" Ct f fd) (T:Txt K mg c):FnOk P w K mg base CX0 1 f fd ["self"] (AC c):=by
  refine F.ok FC (λ vs H Q E h=> ?_) (λ cdv A outer s H vs Q E hr h=> ?_)
  · obtain ⟨x,n,rs,rfl,_⟩:=h;rfl
  · obtain ⟨x,n,rs,rfl,⟨dx,t,h1,h2⟩,k⟩:=h;refine ⟨_,(Ah (Al (EA (K:=K) (pv 0) rfl))),?_⟩;walk_at "w";exact ⟨_,_,_,_,_,rfl,h1,T.kd_Cloth.cl,T.na_Cloth_width,rfl,k⟩
def BG (c:Cs):Sp:=λ vs H Q _=>∃ x n rs,vs=[.ref x]/\ClAt c.Cloth H x n rs/\Q (nV rs.length) H
abbrev BV:Stmt:=A3 (top 17) 3
theorem EZ:FnScope ["self"] ["self"] (Aj BV):=⟨rfl,rfl,rfl,by decide +kernel,rfl,by decide +kernel,by decide +kernel⟩
theorem E9 {f:Addr} {fd:FuncData} (F:Fun K "picks" "Cloth.picks" BV f fd) (T:Txt K mg c):FnOk P w K mg base CX0 1 f fd ["self"] (BG c):=by
  refine F.ok EZ (λ vs H Q E h=> ?_) (λ cdv A outer s H vs Q E hr h=> ?_)
  · obtain ⟨x,n,rs,rfl,_⟩:=h;rfl
  · obtain ⟨x,n,rs,rfl,⟨dx,t,h1,h2⟩,k⟩:=h;refine ⟨_,(Ah (Al (Am (CN (K:=K)) rfl (T.own _ (by decide)) boot_len (Aa (EA (K:=K) (pv 0) rfl) Ab)))),?_⟩;walk_at "w";refine ⟨_,_,_,_,_,rfl,h1,T.kd_Cloth.cl,T.na_Cloth_rows,rfl,?_⟩;walk_at "w";refine Ir (SqT.of h2) ?_;rw [List.length_map];exact k
theorem L5 (f:Nat->Bool) (w:Nat):MM.mOf (((List.range w).filter f).map (· + 1))=MM.ofB f w:=by
  refine Nat.eq_of_testBit_eq λ i=> ?_;rw [MM.mOf_bit,MM.ofB_bit,Bool.eq_iff_iff,List.any_eq_true];constructor
  · rintro ⟨n,hn,e⟩;obtain ⟨k,hk,rfl⟩:=List.mem_map.mp hn;obtain ⟨h1,h2⟩:=List.mem_filter.mp hk;have e:k+1 - 1=i:=of_decide_eq_true e;have e:k=i:=by omega
    subst e;simp [List.mem_range.mp h1,h2]
  · intro h;simp only [Bool.and_eq_true,decide_eq_true_eq] at h;exact ⟨i+1,List.mem_map.mpr ⟨i,List.mem_filter.mpr ⟨List.mem_range.mpr h.1,h.2⟩,rfl⟩,by simp⟩
def BL (rs:List Nat) (e:Nat):Nat:=MM.ofB (λ p=>(rs.getD p 0).testBit (e - 1)) rs.length
def BJ (c:Cs):Sp:=λ vs H Q _=>∃ x n rs,∃ e:Nat,vs=[.ref x,nV e]/\ClAt c.Cloth H x n rs/\rs.length<=60/\1<=e/\e<=60/\∀ H',Same H H'->Q (nV (BL rs e)) H'
abbrev Bd:Stmt:=A3 (top 17) 5
theorem Dp:FnScope ["self","end"] ["self","end"] (Aj Bd):=⟨rfl,rfl,rfl,by decide +kernel,rfl,by decide +kernel,by decide +kernel⟩
theorem Dx {f:Addr} {fd:FuncData} (F:Fun K "column_at" "Cloth.column_at" Bd f fd) (T:Txt K mg c) (c_mask_of:Ao P w K mg base "mask_of" 2 ["numbers"] (Fj K)) (c_has_number:Ao P w K mg base "has_number" 2 ["mask","number"] B0):FnOk P w K mg base CX0 3 f fd ["self","end"] (BJ c):=by
  refine F.ok Dp (λ vs H Q E h=> ?_) (λ cdv A outer s H vs Q E hr h=> ?_)
  · obtain ⟨x,n,rs,e,rfl,_⟩:=h;rfl
  · obtain ⟨x,n,rs,e,rfl,⟨dx,t,h1,h2⟩,hl,e1,e2,k⟩:=h;refine ⟨_,(Ah (Al (Af c_mask_of hr (Aa (Fd (K:=K) (KH (K:=K) rfl (T.own _ (by decide)) (Aa (EA (K:=K) (pv 0) rfl) Ab)) (λ _ _ _ _=>(IJ (AT (Af c_has_number hr (Aa (pv 1) (Aa (pv 2) Ab)))))) (λ _ _ _ _=>(pv 0))) Ab)))),?_⟩;walk_at "w";refine ⟨_,_,_,_,_,rfl,h1,T.kd_Cloth.cl,T.na_Cloth_rows,rfl,?_⟩;walk_at "w";refine ⟨true,t,rfl,⟨_,SqT.of h2⟩,λ D hD=> ?_⟩;refine E6 (p:=λ i=>(rs.getD i 0).testBit (e - 1)) (G:=λ i=>((i+1:Nat):Int)) (Jh (tp:=true) (SqT.of h2) rfl rfl) hD (by rw [List.length_map];omega) ?_ ?_ ?_
    · intro i H' R hi s kk;rw [AH hi];walk_at "w";refine ⟨rs.getD i 0,e,rfl,e1,by omega,?_⟩;exact ⟨_,rfl,kk H' (Same.refl _)⟩
    · intro i H' R hi hp s kk;walk_at "w";exact kk H' (Same.refl _)
    · intro H' s hl2;walk_at "w";have e:((((List.range (rs.map nV).length).filter λ i=>(rs.getD i 0).testBit (e - 1)).map λ i=>((i+1:Nat):Int)).map V.int)=(((List.range rs.length).filter λ i=>(rs.getD i 0).testBit (e - 1)).map (· + 1)).map nV:=by
        rw [List.length_map,List.map_map,List.map_map];rfl
      rw [e] at hl2;refine ⟨false,D,_,rfl,SqL.of hl2,λ n hn=> ?_,λ H2 s2=> ?_⟩
      · obtain ⟨j,hj,rfl⟩:=List.mem_map.mp hn;have:=List.mem_range.mp (List.mem_filter.mp hj).1;omega
      · rw [L5];exact k H2 (s.trans s2)
def fE (rs:List Nat) (e:Nat):Nat->Bool:=λ p=>(rs.getD p 0).testBit e
def fP (rs:List Nat) (p:Nat):Nat->Bool:=λ e=> !(rs.getD p 0).testBit e
theorem G6 (rs:List Nat) (e:Nat):BL rs (e+1)=MM.ofB (fE rs e) rs.length:=rfl
theorem Iq (n:Nat) (G:Nat->Nat):((List.range n).map λ i=>((G i:Nat):Int)).map V.int=((List.range n).map G).map nV:=by
  rw [List.map_map,List.map_map];rfl
def De (c:Cs):Sp:=λ vs H Q _=>∃ x n rs,vs=[.ref x]/\ClAt c.Cloth H x n rs/\ClOk n rs/\∀ H' p,Same H H'->H p=none->H' p=some (.lst (((List.range n).map λ e=>BL rs (e+1)).map nV))->Q (.ref p) H'
abbrev CA:Stmt:=top 19
theorem FJ:FnScope ["cloth"] ["cloth"] (Aj CA):=⟨rfl,rfl,rfl,by decide +kernel,rfl,by decide +kernel,by decide +kernel⟩
theorem Fz {f:Addr} {fd:FuncData} (F:Fun K "columns_of" "columns_of" CA f fd) (T:Txt K mg c) (d_Cloth_column_at:BK P w K mg base c.Cloth "column_at" 3 ["self","end"] (BJ c)) (d_Cloth_ends:BK P w K mg base c.Cloth "ends" 1 ["self"] (AC c)):FnOk P w K mg base CX0 4 f fd ["cloth"] (De c):=by
  refine F.ok FJ (λ vs H Q E h=> ?_) (λ cdv A outer s H vs Q E hr h=> ?_)
  · obtain ⟨x,n,rs,rfl,_⟩:=h;rfl
  · obtain ⟨x,n,rs,rfl,C0,ok,k⟩:=h;have C1:=C0;obtain ⟨dx,t,h1,h2⟩:=C0;have n2:=ok.n2;refine ⟨_,(Ah (Al (B9 (C6 rfl (T.own _ (by decide)) (Aa Ac (Aa (Ad AB (AU (pv 0) d_Cloth_ends (hr.mono (by decide))) Ac) Ab))) (λ _ _ _ _=>Ay) (λ _ _ _ _=>(Ks (pv 1) d_Cloth_column_at hr (Aa (pv 0) Ab)))))),?_⟩;walk_at "w";refine ⟨_,_,_,rfl,h1,rfl,?_⟩;walk_at "w";refine ⟨x,n,rs,rfl,C1,?_⟩;walk_at "w";refine ⟨_,_,rfl,⟨by decide,by decide,by omega,by omega⟩,λ D hD=> ?_⟩;rw [show ((n:Int)+1 - 1).toNat=n by omega];refine AF (G:=λ i=>((BL rs (i+1):Nat):Int)) (Eg rfl) hD (by omega) ?_ ?_
    · intro i H' R hi s kk;rw [show (1:Int)+(i:Nat)=((i+1:Nat):Int) by omega];walk_at "w";refine ⟨_,_,_,rfl,s _ _ h1,rfl,?_⟩;walk_at "w";exact ⟨x,n,rs,i+1,rfl,C1.same s,ok.p2,by omega,by omega,kk⟩
    · intro H' s hl;rw [Iq] at hl;exact k H' D s hD hl
def BD (K:PySem.W.Frag):Sp:=λ vs H Q _=>∃ tp a,∃ ms:List Nat,vs=[.ref a]/\SqS tp K H a (ms.map nV)/\1<=ms.length/\ms.length<=60/\∀ H' d,Same H H'->MP.Least (λ i=>ms.getD i 0) ms.length d->Q (nV d) H'
abbrev Bc:Stmt:=top 23
theorem sc_least_told_over:FnScope ["masks","many","least"] ["masks"] (Aj Bc):=⟨rfl,rfl,rfl,by decide +kernel,rfl,by decide +kernel,by decide +kernel⟩
theorem Dz {f:Addr} {fd:FuncData} (F:Fun K "least_told_over" "least_told_over" Bc f fd) (T:Txt K mg c):FnOk P w K mg base CX0 1 f fd ["masks"] (BD K):=by
  refine F.ok sc_least_told_over (λ vs H Q E h=> ?_) (λ cdv A outer s H vs Q E hr h=> ?_)
  · obtain ⟨tp,a,ms,rfl,_⟩:=h;rfl
  · obtain ⟨tp,a,ms,rfl,sa,h1,h2,k⟩:=h;refine ⟨_,(Ae (Ax (i:=1) sc_least_told_over.nd rfl (Or.inl rfl) (Am (CN (K:=K)) rfl (T.own _ (by decide)) boot_len (Aa (pv 0) Ab)))
      (Ae (CO PassesOwn.never rfl (C6 rfl (T.own _ (by decide)) (Aa Ac (Aa (pv 1) Ab))) (AE (i:=2) sc_least_told_over.nd rfl (Or.inl rfl)) (Ah (AR (PW.pt (GQ (Ap Bb (Ad Aq (pv 1) (pv 2)) Ac (An _)) (EW (Ap (MK hr.units) (AK (Mi (K:=K)) (pv 0) (AQ (pv 2)) A4) (AK (Mi (K:=K)) (pv 0) A4 (AQ (Ad AY (pv 1) (pv 2)))) (An _))))) (Ah (Al (pv 2))) Aw)))
      (Ah (Al (pv 1))))),?_⟩
    walk_at "w";refine Gq sa ?_;rw [List.length_map];walk_at "w";refine ⟨_,_,rfl,⟨by decide,by decide,by omega,by omega⟩,?_⟩;rw [show ((ms.length:Int) - 1).toNat=ms.length - 1 by omega];refine C3 (Fu (lo:=1) (n:=ms.length - 1)) (λ i σ H3=>∃ x,σ=[some (.ref a),some (nV ms.length),x]/\Same H H3/\∀ j,1<=j->j<i+1->¬ MP.Per (λ i=>ms.getD i 0) ms.length j) ⟨_,rfl,Same.refl _,λ j a b=>by omega⟩ (λ i σ H3 ⟨_,_,s,_⟩=>s) ?_ ?_
    · rintro i σ H' H3 hi ⟨x,rfl,s',no⟩ s3;have sH:=s'.trans s3;rw [show (1:Int)+(i:Nat)=((i+1:Nat):Int) by omega];walk_at "w";refine Ak (by show (0:Int)<_;omega) ?_;walk_at "w";have em:((ms.length:Nat):Int)%((i+1:Nat):Int)=((ms.length%(i+1):Nat):Int):=by push_cast;rfl
      rw [em];refine Bw (λ hm=> ?_) (λ hm=> ?_)
      · walk_at "w";refine J2 (sa.same sH) (by rw [GY (by omega),List.length_map];omega) λ p4 hp4=> ?_;rw [JO (by omega),Int.toNat_natCast, <-List.map_drop];walk_at "w";have s4:=Ai (o:=if tp=true then HO.tup ((ms.drop (i+1)).map nV) else HO.lst ((ms.drop (i+1)).map nV)) hp4;have h4:upd H3 p4 (if tp=true then HO.tup ((ms.drop (i+1)).map nV) else HO.lst ((ms.drop (i+1)).map nV)) p4=_:=Ag;generalize upd H3 p4 (if tp=true then HO.tup ((ms.drop (i+1)).map nV) else HO.lst ((ms.drop (i+1)).map nV))=H4 at s4 h4 ⊢;rw [show ((ms.length:Nat):Int) - ((i+1:Nat):Int)=((ms.length - (i+1):Nat):Int) by omega];refine J2 (sa.same (sH.trans s4)) (by show ¬ (_/\HT.sIx _ _ _=_);rw [GY (by omega),List.length_map];omega) λ p5 hp5=> ?_;rw [E4 (by omega),Int.toNat_natCast, <-List.map_take];have s5:=Ai (o:=if tp=true then HO.tup ((ms.take (ms.length - (i+1))).map nV) else HO.lst ((ms.take (ms.length - (i+1))).map nV)) hp5;have h5:upd H4 p5 (if tp=true then HO.tup ((ms.take (ms.length - (i+1))).map nV) else HO.lst ((ms.take (ms.length - (i+1))).map nV)) p5=_:=Ag;replace h4:=s5 _ _ h4;have s05:=sH.trans (s4.trans s5);generalize upd H4 p5 (if tp=true then HO.tup ((ms.take (ms.length - (i+1))).map nV) else HO.lst ((ms.take (ms.length - (i+1))).map nV))=H5 at h4 h5 s05 ⊢;walk_at "w";have hper:MP.Per (λ i=>ms.getD i 0) ms.length (i+1)↔ms.drop (i+1)=ms.take (ms.length - (i+1)):=by
          rw [MP.drop_iff (y:=0) (by omega)];unfold MP.Per;exact ⟨λ z=>z.2,λ z=>⟨by omega,z⟩⟩
        have l1:(ms.drop (i+1)).length<=100000:=by simp;omega
        have l2:(ms.take (ms.length - (i+1))).length<=100000:=by simp;omega
        have fin:∀ {R:VK},R (.bl (decide (ms.drop (i+1)=ms.take (ms.length - (i+1))))) H5->OF false (.ref p4) (.ref p5) H5 R:=λ {R} hR=>by
          cases tp with
          | true=>exact ⟨1,dT (ms.drop (i+1)),dT (ms.take (ms.length - (i+1))),by decide,Li h4 l1,Li h5 l2,rfl,by rw [if_neg (by decide),N2];exact hR⟩
          | false=>exact ⟨1,dL (ms.drop (i+1)),dL (ms.take (ms.length - (i+1))),by decide,Ol h4 trivial l1,Ol h5 trivial l2,rfl,by rw [if_neg (by decide),NP];exact hR⟩
        refine fin ?_;walk_at "w";refine Bw (λ hp=> ?_) (λ hp=> ?_)
        · walk_at "w";exact k H5 (i+1) s05 ⟨by omega,by omega,hper.mpr hp,λ d' x y=>no d' x y⟩
        · walk_at "w";refine ⟨_,rfl,s05,λ j a b=> ?_⟩;rcases Nat.lt_or_ge j (i+1) with z | z
          · exact no j a z
          · have:j=i+1:=by omega
            subst this;exact λ z=>hp (hper.mp z)
      · walk_at "w";refine ⟨_,rfl,sH,λ j a b=> ?_⟩;rcases Nat.lt_or_ge j (i+1) with z | z
        · exact no j a z
        · have:j=i+1:=by omega
          subst this;exact λ z=>hm (by have:=z.1;omega)
    · rintro σ H3 ⟨x,rfl,s3,no⟩;walk_at "w";exact k H3 ms.length s3 ⟨h1,Nat.le_refl _,MP.per_full _ _,λ d' x y=>no d' x (by omega)⟩
def Bs (c:Cs):Sp:=λ vs H Q _=>∃ x n rs,vs=[.ref x]/\ClAt c.Cloth H x n rs/\ClOk n rs/\∀ H' t a d,Same H H'->H' t=some (.tup [nV a,nV d])->MP.Least (λ e=>BL rs (e+1)) n a->MP.Least (λ i=>rs.getD i 0) rs.length d->Q (.ref t) H'
abbrev BM:Stmt:=top 24
theorem EF:FnScope ["cloth"] ["cloth"] (Aj BM):=⟨rfl,rfl,rfl,by decide +kernel,rfl,by decide +kernel,by decide +kernel⟩
theorem EK {f:Addr} {fd:FuncData} (F:Fun K "least_repeat" "least_repeat" BM f fd) (T:Txt K mg c) (c_columns_of:Ao P w K mg base "columns_of" 4 ["cloth"] (De c)) (c_least_told_over:Ao P w K mg base "least_told_over" 1 ["masks"] (BD K)):FnOk P w K mg base CX0 5 f fd ["cloth"] (Bs c):=by
  refine F.ok EF (λ vs H Q E h=> ?_) (λ cdv A outer s H vs Q E hr h=> ?_)
  · obtain ⟨x,n,rs,rfl,_⟩:=h;rfl
  · obtain ⟨x,n,rs,rfl,C0,ok,k⟩:=h;have C1:=C0;obtain ⟨dx,t,h1,h2⟩:=C0;have n1:=ok.n1;have n2:=ok.n2;refine ⟨_,(Ah (Al (Bt (Aa (Af c_least_told_over (hr.mono (by decide)) (Aa (Af c_columns_of hr (Aa (pv 0) Ab)) Ab)) (Aa (Af c_least_told_over (hr.mono (by decide)) (Aa (EA (K:=K) (pv 0) rfl) Ab)) Ab))))),?_⟩;walk_at "w";refine ⟨x,n,rs,rfl,C1,ok,λ H1 a1 s1 _ hl1=> ?_⟩;walk_at "w";refine ⟨false,a1,_,rfl,SqL.of hl1,by simpa using n1,by simpa using n2,λ H2 a s2 la=> ?_⟩;have la':MP.Least (λ e=>BL rs (e+1)) n a:=by
      rw [List.length_map,List.length_range] at la;refine la.congr λ i j hi hj=> ?_;rw [AN (λ e=>BL rs (e+1)) hi,AN (λ e=>BL rs (e+1)) hj]
    have s12:=s1.trans s2;walk_at "w";refine ⟨_,_,_,_,_,rfl,s12 _ _ h1,T.kd_Cloth.cl,T.na_Cloth_rows,rfl,?_⟩;walk_at "w";refine ⟨true,t,rs,rfl,SqT.of (s12 _ _ h2),ok.p1,ok.p2,λ H3 d s3 ld=> ?_⟩;walk_at "w";intro p hp;exact k _ p a d (s12.trans (s3.trans (Ai hp))) Ag la' ld
def CB:Sp:=λ vs H Q _=>∃ m n s:Nat,vs=[nV m,nV n,nV s]/\m<2 ^ n/\s<n/\n<=60/\Q (nV ((m*2 ^ s ||| m >>> (n - s)) &&& (2 ^ n - 1))) H
theorem Kj (m s:Nat):((m:Nat):Int)*2 ^ ((s:Nat):Int).toNat=((m*2 ^ s:Nat):Int):=by
  rw [Int.toNat_natCast];push_cast;rfl
theorem JY (m s:Nat):((m:Nat):Int) / 2 ^ ((s:Nat):Int).toNat=((m >>> s:Nat):Int):=by
  rw [Int.toNat_natCast,Nat.shiftRight_eq_div_pow];push_cast;rfl
theorem KC {n w:Nat} (h:n<2 ^ w) (hw:w<=60):((n:Nat):Int).natAbs<2 ^ 64:=by
  have:2 ^ w<=2 ^ 60:=Nat.pow_le_pow_right (by decide) hw;rw [Int.natAbs_natCast];omega
abbrev BI:Stmt:=top 25
theorem EL:FnScope ["row","ends","step"] ["row","ends","step"] (Aj BI):=⟨rfl,rfl,rfl,by decide +kernel,rfl,by decide +kernel,by decide +kernel⟩
theorem EI {f:Addr} {fd:FuncData} (F:Fun K "turned_right" "turned_right" BI f fd) (T:Txt K mg c) (c_mask_to:Ao P w K mg base "mask_to" 1 ["most"] Cy):FnOk P w K mg base CX0 2 f fd ["row","ends","step"] CB:=by
  refine F.ok EL (λ vs H Q E h=> ?_) (λ cdv A outer s H vs Q E hr h=> ?_)
  · obtain ⟨m,n,s,rfl,_⟩:=h;rfl
  · obtain ⟨m,n,s,rfl,hm,hs,hn,q⟩:=h;refine ⟨_,(Ah (Al (Ad DW (Ad Ko (Ad AW (pv 0) (pv 2)) (Ad Gu (pv 0) (Ad AY (pv 1) (pv 2)))) (Af c_mask_to hr (Aa (pv 1) Ab))))),?_⟩;walk_at "w";refine Ak ⟨by omega,by omega,KC hm hn⟩ ?_;walk_at "w";rw [show ((n:Nat):Int) - ((s:Nat):Int)=((n - s:Nat):Int) by omega];refine Ak (by show (0:Int)<=_;omega) ?_;rw [Kj,JY];walk_at "w";rw [bO];refine ⟨n,rfl,by omega,?_⟩;walk_at "w";rw [bA];exact q
theorem L9 {rs:List Nat} (h:1<=rs.length):∃ ri rl,rs=ri++[rl]:=by
  refine ⟨rs.dropLast,rs.getLast (λ z=>by rw [z] at h;simp at h),?_⟩;exact (List.dropLast_concat_getLast _).symm
theorem Ga {ri:List Nat} {rl i:Nat} (h:i<(ri++[rl]).length):(rl::ri).getD i 0=(ri++[rl]).getD ((i+(ri++[rl]).length - 1)%(ri++[rl]).length) 0:=by
  have hl:(ri++[rl]).length=ri.length+1:=by simp
  rw [hl] at h ⊢;cases i with
  | zero=>
    rw [show 0+(ri.length+1) - 1=ri.length by omega,Nat.mod_eq_of_lt (by omega)];simp [List.getD_eq_getElem?_getD]
  | succ i=>
    rw [show i+1+(ri.length+1) - 1=i+(ri.length+1) by omega,Nat.add_mod_right,Nat.mod_eq_of_lt (by omega)];simp [List.getD_eq_getElem?_getD,List.getElem?_append_left (show i<ri.length by omega)]
def Fb (c:Cs):Sp:=λ vs H Q _=>∃ x n rs,∃ s:Nat,vs=[.ref x,nV s]/\ClAt c.Cloth H x n rs/\ClOk n rs/\s<n/\∀ H',Same H H'->Q (.bl (MP.stepQ rs n s)) H'
abbrev DY:Stmt:=top 26
theorem sc_is_step:FnScope ["cloth","step","rows","ahead"] ["cloth","step"] (Aj DY):=⟨rfl,rfl,rfl,by decide +kernel,rfl,by decide +kernel,by decide +kernel⟩
theorem HY {f:Addr} {fd:FuncData} (F:Fun K "is_step" "is_step" DY f fd) (T:Txt K mg c) (d_Cloth_ends:BK P w K mg base c.Cloth "ends" 1 ["self"] (AC c)) (c_turned_right:Ao P w K mg base "turned_right" 2 ["row","ends","step"] CB):FnOk P w K mg base CX0 3 f fd ["cloth","step"] (Fb c):=by
  refine F.ok sc_is_step (λ vs H Q E h=> ?_) (λ cdv A outer s H vs Q E hr h=> ?_)
  · obtain ⟨x,n,rs,s,rfl,_⟩:=h;rfl
  · obtain ⟨x,n,rs,st,rfl,C0,ok,hs,k⟩:=h;have C1:=C0;obtain ⟨dx,t,h1,h2⟩:=C0;have n2:=ok.n2;have p2:=ok.p2;refine ⟨_,(Ae (Ax (i:=2) sc_is_step.nd rfl (Or.inl rfl) (EA (K:=K) (pv 0) rfl))
      (Ae (Ax (i:=3) sc_is_step.nd rfl (Or.inl rfl) (Ad (MX (K:=K)) (AK (Kq (K:=K)) (pv 2) (AQ (FZ Ea Ac)) A4) (AK (Kq (K:=K)) (pv 2) A4 (AQ (FZ Ea Ac)))))
      (Ah (Al (Am (Hv (K:=K)) rfl (T.own _ (by decide)) Cb (Aa (Fd (K:=K) (Mm (K:=K) rfl (T.own _ (by decide)) (Aa (pv 3) (Aa (pv 2) Ab))) (λ _ _ _ _=>Ay) (λ _ _ _ _=>(AL Bb (Af c_turned_right hr (Aa (pv 0) (Aa (AU (pv 2) d_Cloth_ends (hr.mono (by decide))) (Aa (pv 3) Ab)))) (pv 1) (An _)))) Ab)))))),?_⟩
    walk_at "w";refine ⟨_,_,_,_,_,rfl,h1,T.kd_Cloth.cl,T.na_Cloth_rows,rfl,?_⟩;walk_at "w";obtain ⟨ri,rl,er⟩:=L9 ok.p1;have em:rs.map nV=ri.map nV++[nV rl]:=by rw [er,List.map_append];rfl
    rw [em] at h2;refine Ic (SqT.of h2) λ H3 q3 s3 h3=> ?_;rw [G3] at h3;walk_at "w";refine Ic (SqT.of (s3 _ _ h2)) λ H4 q4 s4 h4=> ?_;rw [He] at h4;walk_at "w";have hl:rs.length=ri.length+1:=by rw [er];simp
    refine Le (SqS.same (tp:=true) h3 s4) h4 (by simp) (by simp;omega) λ H5 q5 s5 h5=> ?_;have s05:=s3.trans (s4.trans s5);walk_at "w";have h5':SqT K H5 q5 ((rl::ri).map nV):=h5;rw [<-em] at h2;have h2':SqT K H5 t (rs.map nV):=SqT.of (s05 _ _ h2);refine ⟨true,true,q5,t,rfl,⟨_,h5'⟩,⟨_,h2'⟩,λ D hD=> ?_⟩;refine DR (G:=λ i=>decide (((rl::ri).getD i 0*2 ^ st ||| (rl::ri).getD i 0 >>> (n - st)) &&& (2 ^ n - 1)=rs.getD i 0)) (NL (t1:=true) (t2:=true) h5' h2' (by simp [hl]) rfl rfl) hD (by simp;omega) ?_ ?_
    · intro i H' R hi s kk;have hi':i<(rl::ri).length:=by simpa using hi
      have hi2:i<rs.length:=by rw [hl];simpa using hi'
      rw [AH hi,AH (show i<(rs.map nV).length by simpa using hi2)];walk_at "w";have s06:=s05.trans s;refine ⟨_,_,_,rfl,s06 _ _ h1,rfl,?_⟩;walk_at "w";refine ⟨x,n,rs,rfl,C1.same s06,?_⟩;walk_at "w";have hb:(rl::ri).getD i 0<2 ^ n:=by
        rw [Ga (by rw [<-er];exact hi2), <-er];exact ok.lt _ (L2.getD_mem (Nat.mod_lt _ (by omega)))
      refine ⟨_,n,st,rfl,hb,hs,n2,?_⟩;walk_at "w";have kk2:=kk H' (Same.refl _);rw [show decide ((((((rl::ri).getD i 0*2 ^ st ||| (rl::ri).getD i 0 >>> (n - st)) &&& (2 ^ n - 1):Nat)):Int)=((rs.getD i 0:Nat):Int))=decide (((rl::ri).getD i 0*2 ^ st ||| (rl::ri).getD i 0 >>> (n - st)) &&& (2 ^ n - 1)=rs.getD i 0) by rw [decide_eq_decide];omega];exact kk2
    · intro H' s hl2;walk_at "w";refine Fk (SqL.of hl2) ?_;have e:((List.range ((rl::ri).map nV).length).map λ i=>decide (((rl::ri).getD i 0*2 ^ st ||| (rl::ri).getD i 0 >>> (n - st)) &&& (2 ^ n - 1)=rs.getD i 0)).all id=MP.stepQ rs n st:=by
        rw [Bool.eq_iff_iff,MP.stepQ_iff,List.all_map,List.all_eq_true];simp only [List.length_map,List.length_cons,List.mem_range,Function.comp,id,decide_eq_true_eq];rw [hl];refine forall_congr' λ i=>forall_congr' λ hi=> ?_;have hi2:i<rs.length:=by omega
        have ea:(rl::ri).getD i 0=rs.getD ((i+rs.length - 1)%rs.length) 0:=by
          have:=Ga (ri:=ri) (rl:=rl) (i:=i) (by rw [<-er];exact hi2);rw [<-er] at this;exact this
        have hb:(rl::ri).getD i 0<2 ^ n:=by
          rw [ea];exact ok.lt _ (L2.getD_mem (Nat.mod_lt _ (by omega)))
        rw [MP.eq_bits (MP.turn_lt _ n st) (ok.lt _ (L2.getD_mem hi2))];refine forall_congr' λ e=>forall_congr' λ he=> ?_;rw [MP.turn_bit hb hs he,ea, <-hl];exact eq_comm
      rw [e];exact k H' (s05.trans s)
abbrev L3:Option Nat->V
  | some n=>nV n
  | none=> .non
def Cu (c:Cs):Sp:=λ vs H Q _=>∃ x n rs,vs=[.ref x]/\ClAt c.Cloth H x n rs/\ClOk n rs/\∀ H',Same H H'->Q (L3 (MP.stepO rs n)) H'
abbrev Ee:Stmt:=top 27
theorem sc_step_of:FnScope ["cloth","step"] ["cloth"] (Aj Ee):=⟨rfl,rfl,rfl,by decide +kernel,rfl,by decide +kernel,by decide +kernel⟩
theorem Ib {f:Addr} {fd:FuncData} (F:Fun K "step_of" "step_of" Ee f fd) (T:Txt K mg c) (d_Cloth_ends:BK P w K mg base c.Cloth "ends" 1 ["self"] (AC c)) (c_is_step:Ao P w K mg base "is_step" 3 ["cloth","step"] (Fb c)):FnOk P w K mg base CX0 4 f fd ["cloth"] (Cu c):=by
  refine F.ok sc_step_of (λ vs H Q E h=> ?_) (λ cdv A outer s H vs Q E hr h=> ?_)
  · obtain ⟨x,n,rs,rfl,_⟩:=h;rfl
  · obtain ⟨x,n,rs,rfl,C0,ok,k⟩:=h;have C1:=C0;obtain ⟨dx,t,h1,h2⟩:=C0;have n2:=ok.n2;refine ⟨_,(Ae (CO PassesOwn.never rfl (AM rfl (T.own _ (by decide)) (Aa (AU (pv 0) d_Cloth_ends (hr.mono (by decide))) Ab)) (AE (i:=1) sc_step_of.nd rfl (Or.inl rfl)) (Ah (AR (AT (Af c_is_step hr (Aa (pv 0) (Aa (pv 1) Ab)))) (Ah (Al (pv 1))) Aw)))
      (Ah (Al GE))),?_⟩
    walk_at "w";refine ⟨_,_,_,rfl,h1,rfl,?_⟩;walk_at "w";refine ⟨x,n,rs,rfl,C1,?_⟩;walk_at "w";refine ⟨_,rfl,by omega,by omega,C3 (Cc (n:=n)) (λ i σ H3=>∃ y,σ=[some (.ref x),y]/\Same H H3/\∀ j,j<i->MP.stepQ rs n j=false) ⟨_,rfl,Same.refl _,λ j hj=>by omega⟩ (λ i σ H3 ⟨_,_,s,_⟩=>s) ?_ ?_⟩
    · rintro i σ H' H3 hi ⟨y,rfl,s',no⟩ s3;have sH:=s'.trans s3;walk_at "w";refine ⟨x,n,rs,i,rfl,C1.same sH,ok,hi,λ H4 s4=> ?_⟩;refine ⟨_,rfl,?_⟩;refine EO (λ hb=> ?_) (λ hb=> ?_)
      · walk_at "w";have kk:=k H4 (sH.trans s4);rw [MP.stepO_some hi hb no] at kk;exact kk
      · walk_at "w";refine ⟨_,rfl,sH.trans s4,λ j hj=> ?_⟩;rcases Nat.lt_or_ge j i with z | z
        · exact no j z
        · have:j=i:=by omega
          subst this;exact hb
    · rintro σ H3 ⟨y,rfl,s3,no⟩;walk_at "w";have kk:=k H3 s3;rw [MP.stepO_none no] at kk;exact kk
def CG (rs:List Nat) (a d:Nat):List Nat:=(rs.take d).map (· % 2 ^ a)
theorem GG {n:Nat} {rs:List Nat} {a d:Nat} (ok:ClOk n rs) (la:MP.Least (λ e=>BL rs (e+1)) n a) (ld:MP.Least (λ i=>rs.getD i 0) rs.length d):ClOk a (CG rs a d):=by
  have:=ok.n2;have:=ok.p2;have:=la.h1;have:=la.h2;have:=ld.h1;have:=ld.h2;unfold CG;refine ⟨by omega,by omega,by simp;omega,by simp;omega,λ r hr=> ?_⟩;obtain ⟨q,_,rfl⟩:=List.mem_map.mp hr;exact Nat.mod_lt _ (Nat.two_pow_pos a)
def CD (c:Cs):Sp:=λ vs H Q _=>∃ x n rs,vs=[.ref x]/\ClAt c.Cloth H x n rs/\ClOk n rs/\∀ H' y a d,Same H H'->MP.Least (λ e=>BL rs (e+1)) n a->MP.Least (λ i=>rs.getD i 0) rs.length d->ClAt c.Cloth H' y a (CG rs a d)->Q (.ref y) H'
abbrev BH:Stmt:=top 28
theorem sc_repeat_cloth:FnScope ["cloth","repeat"] ["cloth"] (Aj BH):=⟨rfl,rfl,rfl,by decide +kernel,rfl,by decide +kernel,by decide +kernel⟩
theorem EN {f:Addr} {fd:FuncData} (F:Fun K "repeat_cloth" "repeat_cloth" BH f fd) (T:Txt K mg c) (c_least_repeat:Ao P w K mg base "least_repeat" 5 ["cloth"] (Bs c)) (c_mask_to:Ao P w K mg base "mask_to" 1 ["most"] Cy) (m_Cloth:IW P w K mg base "Cloth" c.Cloth 4 ["self","ends","rows"] (AO c)):FnOk P w K mg base CX0 6 f fd ["cloth"] (CD c):=by
  refine F.ok sc_repeat_cloth (λ vs H Q E h=> ?_) (λ cdv A outer s H vs Q E hr h=> ?_)
  · obtain ⟨x,n,rs,rfl,_⟩:=h;rfl
  · obtain ⟨x,n,rs,rfl,C0,ok,k⟩:=h;have C1:=C0;obtain ⟨dx,t,h1,h2⟩:=C0;have n2:=ok.n2;have p2:=ok.p2;refine ⟨_,(Ae (Ax (i:=1) sc_repeat_cloth.nd rfl (Or.inr rfl) (Af c_least_repeat hr (Aa (pv 0) Ab)))
      (Ah (Al (Fo m_Cloth hr (Aa (A9 (Fg (K:=K)) (pv 1) Ac (λ _ _=>rfl)) (Aa (B9 (Mo (K:=K) (AK (Kq (K:=K)) (EA (K:=K) (pv 0) rfl) A4 (AQ (A9 (Fg (K:=K)) (pv 1) Ac (λ _ _=>rfl))))) (λ _ _ _ _=>Ay) (λ _ _ _ _=>(Ad DW (pv 0) (Af c_mask_to (hr.mono (by decide)) (Aa (A9 (Fg (K:=K)) (pv 1) Ac (λ _ _=>rfl)) Ab))))) Ab)))))),?_⟩
    walk_at "w";refine ⟨x,n,rs,rfl,C1,ok,λ H1 q a d s1 hq la ld=> ?_⟩;have hla:=la.h2;walk_at "w";refine Do (v:=nV a) (SqT.of hq) (A6 (j:=0) rfl) ?_;walk_at "w";refine ⟨_,_,_,_,_,rfl,s1 _ _ h1,T.kd_Cloth.cl,T.na_Cloth_rows,rfl,?_⟩;walk_at "w";refine Do (v:=nV d) (SqT.of hq) (A6 (j:=1) rfl) ?_;walk_at "w";refine Ic (SqT.of (s1 _ _ h2)) λ H2 q2 s2 hq2=> ?_;rw [E4 (by omega),Int.toNat_natCast, <-List.map_take] at hq2;have s12:=s1.trans s2;walk_at "w";refine ⟨q2,rfl,⟨_,hq2⟩,λ D hD=> ?_⟩;refine AF (G:=λ i=>(((rs.take d).getD i 0%2 ^ a:Nat):Int)) (Im hq2 rfl) hD (by simp;omega) ?_ ?_
    · intro i H' R hi s kk;rw [AH hi];walk_at "w";refine Do (v:=nV a) (SqT.of (s _ _ (s2 _ _ hq))) (A6 (j:=0) rfl) ?_;walk_at "w";refine ⟨a,rfl,by omega,?_⟩;walk_at "w";rw [bA,Nat.and_two_pow_sub_one_eq_mod];exact kk H' (Same.refl _)
    · intro H3 s3 hl3;have e3:((List.range ((rs.take d).map nV).length).map λ i=>(((rs.take d).getD i 0%2 ^ a:Nat):Int)).map V.int=(CG rs a d).map nV:=by
        rw [Iq,List.length_map];unfold CG;rw [AJ (λ m=>m%2 ^ a) (rs.take d) 0]
      rw [e3] at hl3;walk_at "w";refine KL hl3 (GG ok la ld) λ H4 y s4 hy C4=> ?_;exact k H4 y a d (s12.trans (s3.trans s4)) la ld C4
theorem Ln (rs:List Nat):rs.map nV=(rs.map λ n:Nat=>(n:Int)).map V.int:=by
  rw [List.map_map];rfl
theorem Jk {pt:List Nat} {ms:List Int} (p:ms.Perm (pt.map λ n:Nat=>(n:Int))) (s:ms.Pairwise (· <= ·)):decide (ms=[1,2])=decide (pt=[1,2]\/pt=[2,1]):=by
  rw [decide_eq_decide];have hl:=p.length_eq;rw [List.length_map] at hl
  match pt,hl,p with
  | [x,y],_,p=>exact MP.perm12 p s
  | [],hl,_=>exact ⟨λ z=>(by rw [z] at hl;cases hl),λ z=>by rcases z with z | z <;> cases z⟩
  | [_],hl,_=>exact ⟨λ z=>(by rw [z] at hl;cases hl),λ z=>by rcases z with z | z <;> cases z⟩
  | _::_::_::_,hl,_=>exact ⟨λ z=>(by rw [z] at hl;simp at hl),λ z=>by rcases z with z | z <;> cases z⟩
def Dr (a:Nat) (pt:List Nat):Bool:=decide (a=2)&&decide (pt=[1,2]\/pt=[2,1])
def Ex (c:Cs):Sp:=λ vs H Q _=>∃ x n rs,vs=[.ref x]/\ClAt c.Cloth H x n rs/\ClOk n rs/\∀ H',Same H H'->Q (.bl (Dr n rs)) H'
abbrev DD:Stmt:=top 29
theorem G1:FnScope ["repeat"] ["repeat"] (Aj DD):=⟨rfl,rfl,rfl,by decide +kernel,rfl,by decide +kernel,by decide +kernel⟩
theorem Hq {f:Addr} {fd:FuncData} (F:Fun K "is_plain" "is_plain" DD f fd) (T:Txt K mg c) (d_Cloth_ends:BK P w K mg base c.Cloth "ends" 1 ["self"] (AC c)):FnOk P w K mg base CX0 2 f fd ["repeat"] (Ex c):=by
  refine F.ok G1 (λ vs H Q E h=> ?_) (λ cdv A outer s H vs Q E hr h=> ?_)
  · obtain ⟨x,n,rs,rfl,_⟩:=h;rfl
  · obtain ⟨x,n,rs,rfl,C0,ok,k⟩:=h;have C1:=C0;obtain ⟨dx,t,h1,h2⟩:=C0;have p2:=ok.p2;have hu:=hr.units0;refine ⟨_,(Ah (Al (CY (AL Bb (AU (pv 0) d_Cloth_ends hr) Ac (An _)) (CL (AL (F7 hu (K:=K)) (Am (Ji (K:=K)) rfl (T.own _ (by decide)) Gr (Aa (EA (K:=K) (pv 0) rfl) Ab)) (AV (Aa Ac (Aa Ac Ab))) (An _)))))),?_⟩;walk_at "w";refine ⟨_,_,_,rfl,h1,rfl,?_⟩;walk_at "w";refine ⟨x,n,rs,rfl,C1,?_⟩;walk_at "w";refine Bw (λ hn=> ?_) (λ hn=> ?_)
    · walk_at "w";refine ⟨_,_,_,_,_,rfl,h1,T.kd_Cloth.cl,T.na_Cloth_rows,rfl,?_⟩;walk_at "w";rw [Ln] at h2;refine KO (SqT.of h2) (by rw [List.length_map];omega) λ l ms hl pm sm=> ?_;have s1:=Ai (o:=HO.lst (ms.map V.int)) hl;have e1:upd H l (HO.lst (ms.map V.int)) l=_:=Ag;generalize upd H l (HO.lst (ms.map V.int))=H1 at s1 e1 ⊢;walk_at "w";intro q hq;walk_at "w";have s2:=Ai (o:=HO.lst [V.int 1,V.int 2]) hq;refine ET (as:=ms) (bs:=[1,2]) (SqL.of (s2 _ _ e1)) (SqL.of Ag) ?_;rw [Jk pm sm];have kk:=k _ (s1.trans s2);unfold Dr at kk;rw [decide_eq_true (show n=2 by omega),Bool.true_and] at kk;exact kk
    · have kk:=k H (Same.refl _);unfold Dr at kk;rw [decide_eq_false (show ¬ n=2 by omega),Bool.false_and] at kk;exact kk
theorem NH (o:Option Nat) (a:Nat):inV (L3 o) [nV 1,nV a]=decide (o=some 1\/o=some a):=by
  cases o with
  | none=>simp [inV,eqV]
  | some s=>
    unfold inV;rw [Bool.eq_iff_iff,List.any_eq_true,decide_eq_true_iff];constructor
    · rintro ⟨y,hy,e⟩;simp only [List.mem_cons,List.not_mem_nil,or_false] at hy;rcases hy with rfl | rfl
      · left;simp [eqV] at e;congr 1;omega
      · right;simp [eqV] at e;congr 1;omega
    · rintro (e | e)
      · cases e;exact ⟨nV 1,by simp,by simp [eqV]⟩
      · cases e;exact ⟨nV a,by simp,by simp [eqV]⟩
def Ef (a d:Nat) (pt:List Nat):Bool:=decide (a=d)&&(decide (3<=a)&&decide (MP.stepO pt a=some 1\/MP.stepO pt a=some (a - 1)))
def EE (c:Cs):Sp:=λ vs H Q _=>∃ x n rs,vs=[.ref x]/\ClAt c.Cloth H x n rs/\ClOk n rs/\∀ H',Same H H'->Q (.bl (Ef n rs.length rs)) H'
abbrev Dw:Stmt:=top 30
theorem sc_is_twill:FnScope ["repeat","ends"] ["repeat"] (Aj Dw):=⟨rfl,rfl,rfl,by decide +kernel,rfl,by decide +kernel,by decide +kernel⟩
theorem Hy {f:Addr} {fd:FuncData} (F:Fun K "is_twill" "is_twill" Dw f fd) (T:Txt K mg c) (d_Cloth_ends:BK P w K mg base c.Cloth "ends" 1 ["self"] (AC c)) (d_Cloth_picks:BK P w K mg base c.Cloth "picks" 1 ["self"] (BG c)) (c_step_of:Ao P w K mg base "step_of" 4 ["cloth"] (Cu c)):FnOk P w K mg base CX0 5 f fd ["repeat"] (EE c):=by
  refine F.ok sc_is_twill (λ vs H Q E h=> ?_) (λ cdv A outer s H vs Q E hr h=> ?_)
  · obtain ⟨x,n,rs,rfl,_⟩:=h;rfl
  · obtain ⟨x,n,rs,rfl,C0,ok,k⟩:=h;have C1:=C0;obtain ⟨dx,t,h1,h2⟩:=C0;have n1:=ok.n1;refine ⟨_,(Ae (Ax (i:=1) sc_is_twill.nd rfl (Or.inl rfl) (AU (pv 0) d_Cloth_ends (hr.mono (by decide))))
      (Ah (Al (CY (AL Bb (pv 1) (AU (pv 0) d_Cloth_picks (hr.mono (by decide))) (An _)) (CY (AL OQ (pv 1) (IR T.k_LEAST_TWILL) (An _)) (CL (AL (Qj (K:=K)) (Af c_step_of hr (Aa (pv 0) Ab)) (Bt (Aa Ac (Aa (Ad AY (pv 1) Ac) Ab))) (by with_unfolding_all rfl)))))))),?_⟩
    walk_at "w";refine ⟨_,_,_,rfl,h1,rfl,?_⟩;walk_at "w";refine ⟨x,n,rs,rfl,C1,?_⟩;walk_at "w";refine ⟨_,_,_,rfl,h1,rfl,?_⟩;walk_at "w";refine ⟨x,n,rs,rfl,C1,?_⟩;walk_at "w";unfold Ef at k;refine Bw (λ hn=> ?_) (λ hn=> ?_)
    · rw [decide_eq_true (show n=rs.length by omega),Bool.true_and] at k;walk_at "w";refine Bw (λ h3=> ?_) (λ h3=> ?_)
      · rw [decide_eq_true (show 3<=n by omega),Bool.true_and] at k;walk_at "w";refine ⟨x,n,rs,rfl,C1,ok,λ H1 s1=> ?_⟩;walk_at "w";rw [show ((n:Nat):Int) - 1=((n - 1:Nat):Int) by omega];intro q hq;walk_at "w";refine ⟨q,[nV 1,nV (n - 1)],rfl, .inr (SqT.of Ag),?_,rfl,?_⟩
        · cases MP.stepO rs n <;> rfl
        · rw [if_neg (by decide),NH];exact k _ (s1.trans (Ai hq))
      · rw [decide_eq_false (show ¬ 3<=n by omega),Bool.false_and] at k;walk_at "w";exact k H (Same.refl _)
    · rw [decide_eq_false (show ¬ n=rs.length by omega),Bool.false_and] at k;walk_at "w";exact k H (Same.refl _)
theorem MO {m a:Nat} (h:m<2 ^ a):(MM.nOf m).length=MP.pc m a:=by
  rw [MM.nOf_wide h,List.length_map];rfl
def B4 (c:Cs):Sp:=λ vs H Q _=>∃ x n rs,vs=[.ref x]/\ClAt c.Cloth H x n rs/\ClOk n rs/\∀ H',Same H H'->Q (.bl (MP.lone rs n)) H'
abbrev Br:Stmt:=top 31
theorem sc_has_lone_ends:FnScope ["repeat","counts"] ["repeat"] (Aj Br):=⟨rfl,rfl,rfl,by decide +kernel,rfl,by decide +kernel,by decide +kernel⟩
theorem Eb {f:Addr} {fd:FuncData} (F:Fun K "has_lone_ends" "has_lone_ends" Br f fd) (T:Txt K mg c) (d_Cloth_ends:BK P w K mg base c.Cloth "ends" 1 ["self"] (AC c)) (c_numbers_of:Ao P w K mg base "numbers_of" 3 ["mask"] Di):FnOk P w K mg base CX0 4 f fd ["repeat"] (B4 c):=by
  refine F.ok sc_has_lone_ends (λ vs H Q E h=> ?_) (λ cdv A outer s H vs Q E hr h=> ?_)
  · obtain ⟨x,n,rs,rfl,_⟩:=h;rfl
  · obtain ⟨x,n,rs,rfl,C0,ok,k⟩:=h;have C1:=C0;obtain ⟨dx,t,h1,h2⟩:=C0;have n1:=ok.n1;have n2:=ok.n2;have p2:=ok.p2;refine ⟨_,(Ae (BE (i:=1) sc_has_lone_ends.nd rfl (Or.inl rfl) (Mo (K:=K) (EA (K:=K) (pv 0) rfl)) (λ _ _ _ _=>Ay) (λ _ _ _ _=>(Am (CN (K:=K)) rfl (T.own _ (by decide)) boot_len (Aa (Af c_numbers_of hr (Aa (pv 0) Ab)) Ab))))
      (Ah (Al (Ou (Am (Hv (K:=K)) rfl (T.own _ (by decide)) Cb (Aa (B9 (Dn (K:=K) (pv 1)) (λ _ _ _ _=>Ay) (λ _ _ _ _=>(AL Bb (pv 0) Ac (An _)))) Ab)) (CL (Am (Hv (K:=K)) rfl (T.own _ (by decide)) Cb (Aa (B9 (Dn (K:=K) (pv 1)) (λ _ _ _ _=>Ay) (λ _ _ _ _=>(AL Bb (pv 0) (Ad AY (AU (pv 1) d_Cloth_ends (hr.mono (by decide))) Ac) (An _)))) Ab))))))),?_⟩
    walk_at "w";refine ⟨_,_,_,_,_,rfl,h1,T.kd_Cloth.cl,T.na_Cloth_rows,rfl,?_⟩;walk_at "w";refine ⟨t,rfl,⟨_,SqT.of h2⟩,λ D hD=> ?_⟩;refine AF (G:=λ i=>((MP.pc (rs.getD i 0) n:Nat):Int)) (Im (SqT.of h2) rfl) hD (by rw [List.length_map];omega) ?_ ?_
    · intro i H' R hi s kk;have hi':i<rs.length:=by simpa using hi
      have hb:=ok.lt _ (L2.getD_mem (y:=0) hi');rw [AH hi];walk_at "w";refine ⟨_,rfl,Nat.lt_of_lt_of_le hb (Nat.pow_le_pow_right (by decide) (by omega)),λ H2 q s2 hq h2'=> ?_⟩;walk_at "w";refine Bx (SqL.of h2') ?_;rw [List.length_map,MO hb];exact kk H2 s2
    intro H1 s1 hl1;rw [Iq,List.length_map] at hl1;generalize ec:(List.range rs.length).map (λ i=>MP.pc (rs.getD i 0) n)=cs at hl1;have lc:cs.length=rs.length:=by rw [<-ec];simp
    have ec2:cs=rs.map λ p=>MP.pc p n:=by rw [<-ec];exact AJ (λ p=>MP.pc p n) rs 0
    have a1:((List.range (cs.map nV).length).map λ i=>decide (cs.getD i 0=1)).all id=rs.all λ p=>MP.pc p n == 1:=by
      rw [List.length_map,AJ (λ z=>decide (z=1)) cs 0,ec2,List.map_map,List.all_map];rfl
    have a2:((List.range (cs.map nV).length).map λ i=>decide (cs.getD i 0=n - 1)).all id=rs.all λ p=>MP.pc p n == n - 1:=by
      rw [List.length_map,AJ (λ z=>decide (z=n - 1)) cs 0,ec2,List.map_map,List.all_map];rfl
    unfold MP.lone at k;walk_at "w";refine ⟨D,rfl,⟨_,SqL.of hl1⟩,λ D2 hD2=> ?_⟩;refine DR (G:=λ i=>decide (cs.getD i 0=1)) (A0 (SqL.of hl1) rfl) hD2 (by rw [List.length_map];omega) ?_ ?_
    · intro i H' R hi s kk;rw [AH hi];walk_at "w";rw [show decide (((cs.getD i 0:Nat):Int)=1)=decide (cs.getD i 0=1) by rw [decide_eq_decide];omega];exact kk H' (Same.refl _)
    intro H2 s2 hl2;walk_at "w";refine Fk (SqL.of hl2) ?_;rw [a1];walk_at "w";have s12:=s1.trans s2;refine EO (λ hb=> ?_) (λ hb=> ?_)
    · rw [hb,Bool.true_or] at k;exact k H2 s12
    · rw [hb,Bool.false_or] at k;walk_at "w";refine ⟨D,rfl,⟨_,SqL.of (s2 _ _ hl1)⟩,λ D3 hD3=> ?_⟩;refine DR (G:=λ i=>decide (cs.getD i 0=n - 1)) (A0 (SqL.of (s2 _ _ hl1)) rfl) hD3 (by rw [List.length_map];omega) ?_ ?_
      · intro i H' R hi s kk;rw [AH hi];walk_at "w";have s13:=s12.trans s;refine ⟨_,_,_,rfl,s13 _ _ h1,rfl,?_⟩;walk_at "w";refine ⟨x,n,rs,rfl,C1.same s13,?_⟩;walk_at "w";rw [show decide (((cs.getD i 0:Nat):Int)=((n:Nat):Int) - 1)=decide (cs.getD i 0=n - 1) by rw [decide_eq_decide];omega];exact kk H' (Same.refl _)
      intro H3 s3 hl3;walk_at "w";refine Fk (SqL.of hl3) ?_;rw [a2];exact k H3 (s12.trans s3)
def En (a d:Nat) (pt:List Nat):Bool:=decide (a=d)&&(decide (5<=a)&&(MP.lone pt a&&(match MP.stepO pt a with | some s=>decide (1<s/\s<a - 1) | none=>false)))
def ED (c:Cs):Sp:=λ vs H Q _=>∃ x n rs,vs=[.ref x]/\ClAt c.Cloth H x n rs/\ClOk n rs/\∀ H',Same H H'->Q (.bl (En n rs.length rs)) H'
abbrev DA:Stmt:=top 32
theorem sc_is_satin:FnScope ["repeat","ends","step"] ["repeat"] (Aj DA):=⟨rfl,rfl,rfl,by decide +kernel,rfl,by decide +kernel,by decide +kernel⟩
theorem Hr {f:Addr} {fd:FuncData} (F:Fun K "is_satin" "is_satin" DA f fd) (T:Txt K mg c) (d_Cloth_ends:BK P w K mg base c.Cloth "ends" 1 ["self"] (AC c)) (d_Cloth_picks:BK P w K mg base c.Cloth "picks" 1 ["self"] (BG c)) (c_has_lone_ends:Ao P w K mg base "has_lone_ends" 4 ["repeat"] (B4 c)) (c_step_of:Ao P w K mg base "step_of" 4 ["cloth"] (Cu c)):FnOk P w K mg base CX0 5 f fd ["repeat"] (ED c):=by
  refine F.ok sc_is_satin (λ vs H Q E h=> ?_) (λ cdv A outer s H vs Q E hr h=> ?_)
  · obtain ⟨x,n,rs,rfl,_⟩:=h;rfl
  · obtain ⟨x,n,rs,rfl,C0,ok,k⟩:=h;have C1:=C0;obtain ⟨dx,t,h1,h2⟩:=C0;have n1:=ok.n1;refine ⟨_,(Ae (Ax (i:=1) sc_is_satin.nd rfl (Or.inl rfl) (AU (pv 0) d_Cloth_ends (hr.mono (by decide))))
      (Ae (AR (PW.pt (CC (Ap G0 (pv 1) (AU (pv 0) d_Cloth_picks (hr.mono (by decide))) (An _)) (CC (Ap F3 (pv 1) (IR T.k_LEAST_SATIN) (An _)) (BX (BY (AT (Af c_has_lone_ends hr (Aa (pv 0) Ab)))))))) (Ah (Al IZ)) Aw)
      (Ae (Ax (i:=2) sc_is_satin.nd rfl (Or.inl rfl) (Af c_step_of hr (Aa (pv 0) Ab)))
      (Ah (Al (CY (AL LQ (pv 2) GE (An _)) (CL (G2 F3 F3 Ac (pv 2) (Ad AY (pv 1) Ac))))))))),?_⟩
    walk_at "w";refine ⟨_,_,_,rfl,h1,rfl,?_⟩;walk_at "w";refine ⟨x,n,rs,rfl,C1,?_⟩;walk_at "w";refine ⟨_,_,_,rfl,h1,rfl,?_⟩;walk_at "w";refine ⟨x,n,rs,rfl,C1,?_⟩;walk_at "w";unfold En at k;refine Ii (λ hn=> ?_) (λ hn=> ?_)
    · rw [decide_eq_false (show ¬ n=rs.length by omega),Bool.false_and] at k;walk_at "w";exact k H (Same.refl _)
    rw [decide_eq_true (show n=rs.length by omega),Bool.true_and] at k;walk_at "w";refine Bw (λ h5=> ?_) (λ h5=> ?_)
    · rw [decide_eq_false (show ¬ 5<=n by omega),Bool.false_and] at k;walk_at "w";exact k H (Same.refl _)
    rw [decide_eq_true (show 5<=n by omega),Bool.true_and] at k;walk_at "w";refine ⟨x,n,rs,rfl,C1,ok,λ H1 s1=> ?_⟩;refine ⟨_,rfl,?_⟩;cases hb:MP.lone rs n with
    | false=>
      rw [hb,Bool.false_and] at k;walk_at "w";exact k H1 s1
    | true=>
      rw [hb,Bool.true_and] at k;walk_at "w";refine ⟨x,n,rs,rfl,C1.same s1,ok,λ H2 s2=> ?_⟩;have s12:=s1.trans s2;cases ho:MP.stepO rs n with
      | none=>
        rw [ho] at k;walk_at "w";refine ⟨rfl,false,by simp,?_⟩;rw [if_neg (by decide)];exact k H2 s12
      | some st=>
        rw [ho] at k;walk_at "w";refine ⟨rfl,true,by simp,?_⟩;rw [if_pos rfl];walk_at "w";refine Bw (λ g1=> ?_) (λ g1=> ?_)
        · walk_at "w";have kk:Q (V.bl (decide (1<st/\st<n - 1))) H2:=k H2 s12;rw [show decide (1<st/\st<n - 1)=decide ((st:Int)<((n:Nat):Int) - 1) by rw [decide_eq_decide];omega] at kk;exact kk
        · walk_at "w";have kk:Q (V.bl (decide (1<st/\st<n - 1))) H2:=k H2 s12;rw [decide_eq_false (show ¬ (1<st/\st<n - 1) by omega)] at kk;exact kk
theorem Mb (a:Nat) (pt:List Nat):(if Dr a pt=true then Str.ofString "plain" else if Ef a pt.length pt=true then Str.ofString "twill" else if En a pt.length pt=true then Str.ofString "satin" else Str.ofString "other")=MP.sortS a pt.length pt:=by
  unfold MP.sortS;by_cases h1:a≠pt.length\/a<2
  · rw [if_pos h1];have e1:Dr a pt=false:=by
      unfold Dr;by_cases z:a=2
      · have:¬ (pt=[1,2]\/pt=[2,1]):=λ y=>by
          rcases y with y | y <;> rw [y] at h1 <;> simp at h1 <;> omega
        rw [decide_eq_false this,Bool.and_false]
      · rw [decide_eq_false z,Bool.false_and]
    have e2:Ef a pt.length pt=false:=by
      unfold Ef;rcases h1 with z | z
      · rw [decide_eq_false z,Bool.false_and]
      · rw [decide_eq_false (show ¬ 3<=a by omega),Bool.false_and,Bool.and_false]
    have e3:En a pt.length pt=false:=by
      unfold En;rcases h1 with z | z
      · rw [decide_eq_false z,Bool.false_and]
      · rw [decide_eq_false (show ¬ 5<=a by omega),Bool.false_and,Bool.and_false]
    rw [e1,e2,e3];rfl
  · rw [if_neg h1];have ha:a=pt.length:=Classical.byContradiction λ z=>h1 (.inl z);have ha2:2<=a:=Nat.le_of_not_lt λ z=>h1 (.inr z);unfold Dr Ef En;rw [decide_eq_true ha];simp only [Bool.true_and];by_cases h2:a=2
    · rw [if_pos h2,decide_eq_true h2,decide_eq_false (show ¬ 3<=a by omega),decide_eq_false (show ¬ 5<=a by omega)];simp
    · rw [if_neg h2,decide_eq_false h2,decide_eq_true (show 3<=a by omega)];simp only [Bool.false_and,Bool.true_and,decide_eq_true_eq];rw [if_neg (by decide)];by_cases h3:MP.stepO pt a=some 1\/MP.stepO pt a=some (a - 1)
      · rw [if_pos h3,if_pos h3]
      · rw [if_neg h3,if_neg h3];by_cases h5:a<5
        · rw [decide_eq_false (show ¬ 5<=a by omega)];simp [h5]
        · rw [decide_eq_true (show 5<=a by omega)];simp only [Bool.true_and];cases hl:MP.lone pt a with
          | false=>simp
          | true=>
            cases ho:MP.stepO pt a with
            | none=>simp
            | some s=>
              rw [ho] at h3;have hlt:=MP.stepO_lt ho;have z1:s≠1:=λ z=>h3 (.inl (by rw [z]));have z2:s≠a - 1:=λ z=>h3 (.inr (by rw [z]));by_cases z0:s=0
              · subst z0;simp [h5]
              · have:(1<s/\s<a - 1):=by omega
                simp [h5,this,z0]
def Fq (c:Cs):Sp:=λ vs H Q _=>∃ x n rs,vs=[.ref x]/\ClAt c.Cloth H x n rs/\ClOk n rs/\∀ H' a d,Same H H'->MP.Least (λ e=>BL rs (e+1)) n a->MP.Least (λ i=>rs.getD i 0) rs.length d->Q (.str (MP.sortS a d (CG rs a d))) H'
abbrev Es:Stmt:=top 33
theorem sc_sort_of:FnScope ["cloth","repeat"] ["cloth"] (Aj Es):=⟨rfl,rfl,rfl,by decide +kernel,rfl,by decide +kernel,by decide +kernel⟩
theorem HJ {f:Addr} {fd:FuncData} (F:Fun K "sort_of" "sort_of" Es f fd) (T:Txt K mg c) (c_repeat_cloth:Ao P w K mg base "repeat_cloth" 6 ["cloth"] (CD c)) (c_is_plain:Ao P w K mg base "is_plain" 2 ["repeat"] (Ex c)) (c_is_twill:Ao P w K mg base "is_twill" 5 ["repeat"] (EE c)) (c_is_satin:Ao P w K mg base "is_satin" 5 ["repeat"] (ED c)):FnOk P w K mg base CX0 7 f fd ["cloth"] (Fq c):=by
  refine F.ok sc_sort_of (λ vs H Q E h=> ?_) (λ cdv A outer s H vs Q E hr h=> ?_)
  · obtain ⟨x,n,rs,rfl,_⟩:=h;rfl
  · obtain ⟨x,n,rs,rfl,C0,ok,k⟩:=h;refine ⟨_,(Ae (Ax (i:=1) sc_sort_of.nd rfl (Or.inl rfl) (Af c_repeat_cloth hr (Aa (pv 0) Ab)))
      (Ae (AR (AT (Af c_is_plain (hr.mono (by decide)) (Aa (pv 1) Ab))) (Ah (Al A7)) Aw)
      (Ae (AR (AT (Af c_is_twill (hr.mono (by decide)) (Aa (pv 1) Ab))) (Ah (Al A7)) Aw)
      (Ae (AR (AT (Af c_is_satin (hr.mono (by decide)) (Aa (pv 1) Ab))) (Ah (Al A7)) Aw)
      (Ah (Al A7)))))),?_⟩
    walk_at "w";refine ⟨x,n,rs,rfl,C0,ok,λ H1 y a d s1 la ld C1=> ?_⟩;have ok1:=GG ok la ld;have hd:(CG rs a d).length=d:=by
      have:=ld.h2;unfold CG;rw [List.length_map,List.length_take];omega
    have k2:∀ H',Same H H'->Q (.str (MP.sortS a (CG rs a d).length (CG rs a d))) H':=λ H' s=>by
      rw [hd];exact k H' a d s la ld
    clear hd;generalize CG rs a d=pt at C1 ok1 k2;simp only [<-Mb] at k2;walk_at "w";refine ⟨y,a,pt,rfl,C1,ok1,λ H2 s2=> ?_⟩;refine ⟨_,rfl,?_⟩;refine EO (λ hb=> ?_) (λ hb=> ?_)
    · rw [hb] at k2;walk_at "w";exact k2 H2 (s1.trans s2)
    rw [hb] at k2;walk_at "w";refine ⟨y,a,pt,rfl,C1.same s2,ok1,λ H3 s3=> ?_⟩;refine ⟨_,rfl,?_⟩;refine EO (λ hb=> ?_) (λ hb=> ?_)
    · rw [hb] at k2;walk_at "w";exact k2 H3 (s1.trans (s2.trans s3))
    rw [hb] at k2;walk_at "w";refine ⟨y,a,pt,rfl,C1.same (s2.trans s3),ok1,λ H4 s4=> ?_⟩;refine ⟨_,rfl,?_⟩;have s14:=s1.trans (s2.trans (s3.trans s4));refine EO (λ hb=> ?_) (λ hb=> ?_)
    · rw [hb] at k2;walk_at "w";exact k2 H4 s14
    · rw [hb] at k2;walk_at "w";exact k2 H4 s14
abbrev sj (xs:List Str):Str:=Txt.join (Str.ofString "") xs
theorem GD {a b:Str} (h:a.cps=b.cps):a=b:=by cases a;cases b;cases h;rfl
theorem DL (a b:Str):(a++b).cps=a.cps++b.cps:=rfl
theorem Mv (xs:List Str):sj xs=Str.join (Str.ofString "") xs:=StrLaws.glued_eq_join _ _
theorem LK (x:Str) (xs:List Str):sj (x::xs)=x++sj xs:=by
  rw [Mv,Mv];cases xs with
  | nil=>
    show x=x++Str.empty;refine GD ?_;rw [DL];show x.cps=x.cps++ #[];simp
  | cons y r=>
    show (x++Str.ofString "")++Str.join (Str.ofString "") (y::r)=x++Str.join (Str.ofString "") (y::r);refine GD ?_;rw [DL,DL,DL];show x.cps++ #[]++_=_;simp
theorem LV (xs:List Str):(sj xs).cps.toList=(xs.map λ x=>x.cps.toList).flatten:=by
  induction xs with
  | nil=>rfl
  | cons x r ih=>
    rw [LK,DL,Array.toList_append,ih];simp
theorem Iw (n:Nat) (G:Nat->Str) (h:∀ i,(G i).length=1):(((List.range n).map G).map (·.length)).sum=n:=by
  induction n with
  | zero=>rfl
  | succ n ih=>rw [List.range_succ,List.map_append,List.map_append,List.sum_append,ih];simp [h]
theorem B7 {J:It} {g:TG} {σ0:L2.St} {H:Hp} {n:Nat} {st:Nat->L2.St} {te:TE} {Q:VK} {D:Addr} {G:Nat->Str} (S:SrcOk J g σ0 H n st) (hD:H D=none) (hn:n<=100000)
    (he:∀ i H' (R:VK),i<n->Same H H'->(∀ H3,Same H' H3->R (.str (G i)) H3)->te (st i) H' R)
    (hd:∀ H',Same H H'->H' D=some (.lst (((List.range n).map G).map V.str))->Q (.ref D) H'):CM J σ0 g JC te Q H D:=by
  refine EY (m:=0) (G:=λ i=> .str (G i)) S hD hn (λ i H' R hi s k=>he i H' R hi s λ H3 s3=>k H3 _ s3 (.str _)) λ H' ys s hl r=> ?_;rw [NS] at r;obtain ⟨b,eb,hb,fb,_⟩:=OP r;cases eb;exact hd H' s hb
theorem MC {K:PySem.W.Frag} (d:Dt):PySem.W.kitAny K (.type (tyD d)) (["tuple","list"].map Value.type)=some (CW d||BQ d):=by
  show (match PySem.W.kitOne K (.type (tyD d)) (.type "tuple") with
    | some true=>some true
    | some false=>(match PySem.W.kitOne K (.type (tyD d)) (.type "list") with
      | some true=>some true
      | some false=>some false
      | none=>none)
    | none=>none)=_
  rw [Gm,K5];cases d <;> rfl
def Bo:Nat->Sp
  | 0=>λ _ _ _ _=>False
  | n+1=>λ vs H Q _=>∃ v u d,vs=[v,u]/\Rp H FT n v d/\Rp H FT n u d/\∀ H',Same H H'->Q (.bl true) H'
abbrev Bz:Stmt:=top 37
theorem FH:FnScope ["_law_found","_law_due"] ["_law_found","_law_due"] (Aj Bz):=⟨rfl,rfl,rfl,by decide +kernel,rfl,by decide +kernel,by decide +kernel⟩
theorem Fy {n:Nat} {f:Addr} {fd:FuncData} (F:Fun K "_law_alike" "_law_alike" Bz f fd) (T:Txt K mg c) (c__law_alike:Ao P w K mg base "_law_alike" (n+1) ["_law_found","_law_due"] (Bo n)):FnOk P w K mg base CX0 (n+2) f fd ["_law_found","_law_due"] (Bo (n+1)):=by
  refine F.ok FH (λ vs H Q E h=> ?_) (λ cdv A outer s H vs Q E hr h=> ?_)
  · obtain ⟨v,u,d,rfl,_⟩:=h;rfl
  · obtain ⟨v,u,d,rfl,rv,ru,k⟩:=h;refine ⟨_,(Ae (AR (AT (Am (Jb (K:=K)) rfl (T.own _ (by decide)) boot_isinstance (Aa (pv 1) (Aa (Bt (Aa (CK rfl (T.own _ (by decide)) CV) (Aa (CK rfl (T.own _ (by decide)) A8) Ab))) Ab)))) (Ae (AR (PW.pt (CC (Ap G0 (Am (Du (K:=K)) rfl (T.own _ (by decide)) boot_isinstance (Aa (pv 0) (Aa (CK rfl (T.own _ (by decide)) A8) Ab))) (Am (Du (K:=K)) rfl (T.own _ (by decide)) boot_isinstance (Aa (pv 1) (Aa (CK rfl (T.own _ (by decide)) A8) Ab))) (An _)) (BX (BY (AT (Am (Jb (K:=K)) rfl (T.own _ (by decide)) boot_isinstance (Aa (pv 0) (Aa (Bt (Aa (CK rfl (T.own _ (by decide)) CV) (Aa (CK rfl (T.own _ (by decide)) A8) Ab))) Ab)))))))) (Ah (Al IZ)) Aw)
      (Ah (Al (CY (AL Bb (Am (CN (K:=K)) rfl (T.own _ (by decide)) boot_len (Aa (pv 0) Ab)) (Am (CN (K:=K)) rfl (T.own _ (by decide)) boot_len (Aa (pv 1) Ab)) (An _)) (CL (Am (Hv (K:=K)) rfl (T.own _ (by decide)) Cb (Aa (Fd (K:=K) (Mm (K:=K) rfl (T.own _ (by decide)) (Aa (pv 0) (Aa (pv 1) Ab))) (λ _ _ _ _=>Ay) (λ _ _ _ _=>(Af c__law_alike hr (Aa (pv 0) (Aa (pv 1) Ab))))) Ab))))))) Aw)
      (Ah (Al (CY (AL Bb (Am (Du (K:=K)) rfl (T.own _ (by decide)) boot_isinstance (Aa (pv 0) (Aa (CK rfl (T.own _ (by decide)) boot_bool) Ab))) (Am (Du (K:=K)) rfl (T.own _ (by decide)) boot_isinstance (Aa (pv 1) (Aa (CK rfl (T.own _ (by decide)) boot_bool) Ab))) (An _)) (CL (AL Bb (pv 0) (pv 1) (An _))))))),?_⟩
    walk_at "w";intro p hp;walk_at "w";have sp:=Ai (o:=HO.tup [V.ty "tuple",V.ty "list"]) hp;refine Hd (ns:=["tuple","list"]) Ag (ru.same sp).ty (MC d) ?_;have rv:=rv.same sp;have ru:=ru.same sp;generalize upd H p (HO.tup [V.ty "tuple",V.ty "list"])=H1 at rv ru sp ⊢;walk_at "w";refine PR (λ hc=> ?_) (λ hc=> ?_)
    · walk_at "w";refine Cm rv.ty (Gm d) ?_;walk_at "w";refine Cm ru.ty (Gm d) ?_;walk_at "w";refine Ii (λ q=>absurd rfl q) (λ _=> ?_);walk_at "w";intro p2 hp2;walk_at "w";have sp2:=Ai (o:=HO.tup [V.ty "tuple",V.ty "list"]) hp2;refine Hd (ns:=["tuple","list"]) Ag (rv.same sp2).ty (MC d) ?_;have rv:=rv.same sp2;have ru:=ru.same sp2;have sp:=sp.trans sp2;generalize upd H1 p2 (HO.tup [V.ty "tuple",V.ty "list"])=H1 at rv ru sp ⊢;rw [hc];walk_at "w";obtain ⟨m,a,xs,hm,rfl,sa,la,ba,ea⟩:=rv.seq (K:=K) hc;obtain ⟨m',b,zs,hm',rfl,sb,lb,bb,eb⟩:=ru.seq (K:=K) hc;subst hm;cases hm';refine Gq sa ?_;walk_at "w";refine Gq sb ?_;walk_at "w";refine Bw (λ _=> ?_) (λ q=>absurd (by rw [la,lb]) q);walk_at "w";refine ⟨BQ d,BQ d,a,b,rfl,⟨_,sa⟩,⟨_,sb⟩,λ D hD=> ?_⟩;refine Lp (xs:=xs) (zs:=zs) (by omega) (λ i ys H'=>ys=(List.replicate i true).map V.bl/\Same H1 H'/\H' D=some (.lst ys)) ⟨rfl,C2 (Same.refl _) hD,Ag⟩ (λ i ys H' _ ⟨_,s,_⟩=>⟨sa.same s,sb.same s⟩) ?_ ?_
      · rintro i x z ys H' q hx hz ⟨rfl,s1,hl⟩ hq;refine ⟨((Kp.refl _).set rfl).set rfl,MQ ?_⟩;walk_at "w";have hi:i<(DZ d).length:=by
          have:=(List.getElem?_eq_some_iff.mp hx).1;omega
        have hd:(DZ d)[i]?=some (DZ d)[i]:=List.getElem?_eq_getElem hi;have s2:Same H1 (upd H' q (HO.tup [x,z])):=s1.trans (Ai hq);refine ⟨x,z,(DZ d)[i],rfl,(ea i x _ hx hd).same s2,(eb i z _ hz hd).same s2,λ H'' s3=> ?_⟩;have hl':H'' D=some (.lst ((List.replicate i true).map V.bl)):=s3 _ _ (Ai hq _ _ hl);refine ⟨hl',?_,?_,?_,Ag⟩
        · rw [List.length_map,List.length_replicate];exact Nat.lt_of_lt_of_le hi (Nat.le_trans (by omega) (show 100000<=sizeLine by decide))
        · rw [List.replicate_succ',List.map_append];rfl
        · exact C2 (s2.trans s3) hD
      · rintro ys H' ⟨rfl,s1,hl⟩;walk_at "w";refine Fk (SqL.of hl) ?_;have e:(List.replicate xs.length true).all id=true:=by simp
        rw [e];exact k H' (sp.trans s1)
    · walk_at "w";refine Cm rv.ty (Iu d) ?_;walk_at "w";refine Cm ru.ty (Iu d) ?_;walk_at "w";refine Bw (λ _=> ?_) (λ q=>absurd rfl q);walk_at "w";have e:=Ld rv ru hc;subst e;refine ⟨Jg rv hc,?_⟩;rw [decide_eq_true rfl];exact k H1 sp
theorem Df {f:Addr} {fd:FuncData} (D:DefAt K mg "_law_alike" Bz ["_law_found","_law_due"] f fd) (T:Txt K mg c):∀ n,FnOk P w K mg base CX0 (n+1) f fd ["_law_found","_law_due"] (Bo n)
  | 0=>⟨λ _ _ _ _ h=>h.elim,λ _ _ _ _ _ _ _ _ _ _ _ _ _ h=>h.elim⟩
  | n+1=>Fy D.fn T (D.call (Df D T n))
theorem Oc:(10:Int) ^ (30:Int).toNat=1000000000000000000000000000000:=by decide +kernel
def Eo (x k:Int):Nat:=((x%1000000000000000000000000000000+7919*k+13)*(x%1000000000000000000000000000000+7919*k+13)%1000000007*48271%998244353 / 11).toNat
theorem Lc (x k:Int):(x%1000000000000000000000000000000+7919*k+13)*(x%1000000000000000000000000000000+7919*k+13)%1000000007*48271%998244353 / 11=(Eo x k:Nat):=by
  unfold Eo;generalize (x%1000000000000000000000000000000+7919*k+13)*(x%1000000000000000000000000000000+7919*k+13)%1000000007*48271=Z;have c1:=Int.emod_nonneg Z (show (998244353:Int)≠0 by decide);omega
theorem IT (x k:Int):Eo x k<=90749486:=by
  unfold Eo;generalize (x%1000000000000000000000000000000+7919*k+13)*(x%1000000000000000000000000000000+7919*k+13)%1000000007*48271=Z;have c1:=Int.emod_nonneg Z (show (998244353:Int)≠0 by decide);have c2:=Int.emod_lt_of_pos Z (show (0:Int)<998244353 by decide);omega
def Bm:Sp:=λ vs H Q _=>∃ x k:Int,vs=[.int x, .int k]/\(0<=k/\k<=100000)/\Q (nV (Eo x k)) H
abbrev Ci:Stmt:=top 35
theorem sc__law_mixed:FnScope ["_law_cell","_law_k","_law_number"] ["_law_cell","_law_k"] (Aj Ci):=⟨rfl,rfl,rfl,by decide +kernel,rfl,by decide +kernel,by decide +kernel⟩
theorem FG {f:Addr} {fd:FuncData} (F:Fun K "_law_mixed" "_law_mixed" Ci f fd) (T:Txt K mg c):FnOk P w K mg base CX0 1 f fd ["_law_cell","_law_k"] Bm:=by
  refine F.ok sc__law_mixed (λ vs H Q E h=> ?_) (λ cdv A outer s H vs Q E hr h=> ?_)
  · obtain ⟨x,k,rfl,_⟩:=h;rfl
  · obtain ⟨x,k,rfl,hk,q⟩:=h;refine ⟨_,(Ae (Ax (i:=2) sc__law_mixed.nd rfl (Or.inl rfl) (Ad AB (Ad AB (Ad Aq (pv 0) (Ad Gx Ac Ac)) (Ad BW Ac (pv 1))) Ac))
      (Ah (Al (Ad As (Ad Aq (Ad BW (Ad Aq (Ad LM (pv 2) (pv 2)) Ac) Ac) Ac) Ac)))),?_⟩
    walk_at "w";refine Ak ⟨by decide,by decide,by decide⟩ ?_;rw [Oc];walk_at "w";refine Ak (by decide) ?_;have b1:=Int.emod_nonneg x (show (1000000000000000000000000000000:Int)≠0 by decide);have b2:=Int.emod_lt_of_pos x (show (0:Int)<1000000000000000000000000000000 by decide);walk_at "w";refine Ak (.inl ⟨by decide,by decide⟩) ?_;walk_at "w";obtain ⟨N,eN,hN⟩:∃ N:Nat,x%1000000000000000000000000000000+7919*k+13=(N:Nat)/\N<2 ^ 900:=by
      refine ⟨(x%1000000000000000000000000000000+7919*k+13).toNat,by omega,?_⟩;refine Nat.lt_of_lt_of_le (show _<2000000000000000000000000000000 by omega) (by decide +kernel)
    refine Ak ⟨N,N,eN,eN,hN,hN⟩ ?_;walk_at "w";refine Ak (by decide) ?_;walk_at "w";refine Ak (.inr ⟨by decide,by decide⟩) ?_;walk_at "w";refine Ak (by decide) ?_;walk_at "w";refine Ak ⟨by decide,by decide⟩ ?_;rw [Lc];exact q
def CF (ns:List Int) (k:Nat):Int:=if ns=[] then (k:Int) else ns.getD (((k:Int)%(ns.length:Nat))).toNat 0
def A5 (K:PySem.W.Frag):Sp:=λ vs H Q _=>∃ (a:Addr) (ns:List Int) (k:Nat),vs=[.ref a,nV k]/\SqL K H a (ns.map V.int)/\ns.length<=63/\∀ H',Same H H'->Q (.int (CF ns k)) H'
abbrev BN:Stmt:=top 36
theorem EH:FnScope ["_law_script","_law_k"] ["_law_script","_law_k"] (Aj BN):=⟨rfl,rfl,rfl,by decide +kernel,rfl,by decide +kernel,by decide +kernel⟩
theorem EM {f:Addr} {fd:FuncData} (F:Fun K "_law_cell_at" "_law_cell_at" BN f fd) (T:Txt K mg c):FnOk P w K mg base CX0 1 f fd ["_law_script","_law_k"] (A5 K):=by
  refine F.ok EH (λ vs H Q E h=> ?_) (λ cdv A outer s H vs Q E hr h=> ?_)
  · obtain ⟨a,ns,k,rfl,_⟩:=h;rfl
  · obtain ⟨a,ns,k,rfl,sa,hn,q⟩:=h;have hu:=hr.units0;refine ⟨_,(Ah (Al (E5 (Ap (Kl hu (K:=K)) (pv 0) (AV Ab) (An _)) (A9 (B3 (K:=K)) (pv 0) (Ad Aq (pv 1) (Am (CN (K:=K)) rfl (T.own _ (by decide)) boot_len (Aa (pv 0) Ab))) (λ _ _=>rfl)) (pv 1)))),?_⟩;walk_at "w";intro p hp;walk_at "w";have s1:=Ai (o:=HO.lst []) hp;refine Gs (bs:=[]) (s1.seq sa) (SqL.of Ag) ?_;generalize upd H p (HO.lst [])=H1 at s1 ⊢;walk_at "w";refine Ii (λ h0=> ?_) (λ h0=> ?_)
    · walk_at "w";refine Bx (s1.seq sa) ?_;walk_at "w";have hl:0<ns.length:=by
        cases ns with
        | nil=>simp at h0
        | cons _ _=>simp
      rw [List.length_map];refine Ak (by show (0:Int)<_;omega) ?_;have h0:=Int.emod_nonneg (k:Int) (show ((ns.length:Nat):Int)≠0 by omega);have h1:=Int.emod_lt_of_pos (k:Int) (show (0:Int)<(ns.length:Nat) by omega);refine Bk (s1.seq sa) (C8 h0 h1) ?_;have e:CF ns k=ns.getD (((k:Int)%(ns.length:Nat))).toNat 0:=by unfold CF;rw [if_neg (λ z=>by rw [z] at hl;cases hl)]
      rw [e] at q;exact q H1 s1
    · walk_at "w";have e:CF ns k=(k:Int):=by unfold CF;rw [if_pos h0]
      rw [e] at q;exact q H1 s1
theorem BS (s:Nat):(1:Int)*2 ^ ((s:Nat):Int).toNat=((2 ^ s:Nat):Int):=by
  rw [Int.one_mul,Int.toNat_natCast];simp
theorem Fm (x:Int) (s:Nat):x%((2 ^ s:Nat):Int)=(((x%(2 ^ s:Nat)).toNat:Nat):Int):=by
  have:=Int.emod_nonneg x (show ((2 ^ s:Nat):Int)≠0 by have:=Nat.two_pow_pos s;omega);omega
theorem G4 (x:Int) (s:Nat):(x%(2 ^ s:Nat)).toNat<2 ^ s:=by
  have h0:=Nat.two_pow_pos s;have:=Int.emod_lt_of_pos x (show (0:Int)<((2 ^ s:Nat):Int) by omega);have:=Int.emod_nonneg x (show ((2 ^ s:Nat):Int)≠0 by omega);omega
theorem BA (s:Nat):(0:Int)<((2 ^ s:Nat):Int):=by have:=Nat.two_pow_pos s;omega
theorem IG (m s:Nat):((m:Nat):Int)*2 ^ ((s:Nat):Int).toNat=((m*2 ^ s:Nat):Int):=by
  rw [Int.toNat_natCast];push_cast;rfl
theorem Gz (m s:Nat):((m:Nat):Int) / 2 ^ ((s:Nat):Int).toNat=((m >>> s:Nat):Int):=by
  rw [Int.toNat_natCast,Nat.shiftRight_eq_div_pow];push_cast;rfl
theorem Iy {n w:Nat} (h:n<2 ^ w) (hw:w<=60):((n:Nat):Int).natAbs<2 ^ 64:=by
  have:2 ^ w<=2 ^ 60:=Nat.pow_le_pow_right (by decide) hw;rw [Int.natAbs_natCast];omega
def CQ:Sp:=λ vs H Q _=>∃ m s z:Nat,vs=[nV m,nV s,nV z]/\m<2 ^ z/\s<=z/\z<=60/\∀ r:Nat,r<2 ^ z->r=(m*2 ^ s ||| m >>> (z - s))%2 ^ z->Q (nV r) H
abbrev BZ:Stmt:=top 38
theorem Ff:FnScope ["_law_mask","_law_steps_here","_law_size"] ["_law_mask","_law_steps_here","_law_size"] (Aj BZ):=⟨rfl,rfl,rfl,by decide +kernel,rfl,by decide +kernel,by decide +kernel⟩
theorem E3 {f:Addr} {fd:FuncData} (F:Fun K "_law_turned" "_law_turned" BZ f fd) (T:Txt K mg c):FnOk P w K mg base CX0 1 f fd ["_law_mask","_law_steps_here","_law_size"] CQ:=by
  refine F.ok Ff (λ vs H Q E h=> ?_) (λ cdv A outer s H vs Q E hr h=> ?_)
  · obtain ⟨m,s,z,rfl,_⟩:=h;rfl
  · obtain ⟨m,s,z,rfl,hm,hs,hz,q⟩:=h;refine ⟨_,(Ah (Al (Ad Aq (Ad Ko (Ad AW (pv 0) (pv 1)) (Ad Gu (pv 0) (Ad AY (pv 2) (pv 1)))) (Ad AW Ac (pv 2))))),?_⟩;walk_at "w";refine Ak ⟨by omega,by omega,Iy hm hz⟩ ?_;walk_at "w";rw [show ((z:Nat):Int) - ((s:Nat):Int)=((z - s:Nat):Int) by omega];refine Ak (by show (0:Int)<=_;omega) ?_;rw [IG,Gz];walk_at "w";rw [bO];refine Ak ⟨by omega,by omega,by decide⟩ ?_;rw [BS];walk_at "w";refine Ak (BA z) ?_;rw [show (((m*2 ^ s ||| m >>> (z - s):Nat):Int))%((2 ^ z:Nat):Int)=(((m*2 ^ s ||| m >>> (z - s))%2 ^ z:Nat):Int) by push_cast;rfl];exact q _ (Nat.mod_lt _ (Nat.two_pow_pos z)) rfl
theorem IN (n A most:Nat) (hA:1<=A) (h:A<=most):∃ W:Nat,1+((n:Nat):Int)%(if ((most:Nat):Int) / (A:Nat)>1 then ((most:Nat):Int) / (A:Nat) else 1)=(W:Nat)/\1<=W/\A*W<=most:=by
  have e:((most:Nat):Int) / (A:Nat)=((most / A:Nat):Int):=by push_cast;rfl
  rw [e];have h1:1<=most / A:=(Nat.le_div_iff_mul_le hA).mpr (by omega);have e2:(if ((most / A:Nat):Int)>1 then ((most / A:Nat):Int) else 1)=((most / A:Nat):Int):=by split <;> omega
  rw [e2];refine ⟨1+n%(most / A),by push_cast;rfl,by omega,?_⟩;have h2:=Nat.mod_lt n h1;have h3:A*(1+n%(most / A))<=A*(most / A):=Nat.mul_le_mul_left A (by omega);exact Nat.le_trans h3 (Nat.mul_div_le most A)
theorem IP (x:Int):(0:Int)<(if x>1 then x else 1):=by split <;> omega
theorem II {m A:Nat} (h:m<2 ^ A):∀ W:Nat,((List.range W).map λ k=>m*2 ^ (A*k)).sum<2 ^ (A*W)
  | 0=>by simp
  | W+1=>by
    have ih:=II h W;rw [List.range_succ,List.map_append,List.sum_append];simp only [List.map_cons,List.map_nil,List.sum_cons,List.sum_nil,Nat.add_zero];have e:2 ^ (A*(W+1))=2 ^ A*2 ^ (A*W):=by rw [Nat.mul_succ,Nat.pow_add,Nat.mul_comm]
    rw [e];have h2:(m+1)*2 ^ (A*W)<=2 ^ A*2 ^ (A*W):=Nat.mul_le_mul_right _ h;rw [Nat.add_mul,Nat.one_mul] at h2;omega
theorem Hw (n:Nat) (G:Nat->Nat):((List.range n).map λ i=>((G i:Nat):Int)).map V.int=((List.range n).map G).map nV:=by
  rw [List.map_map,List.map_map];rfl
structure ClIn (M n:Nat) (rs:List Nat):Prop where
  ok:ClOk n rs
  n2:n<=M
  p2:rs.length<=M
theorem K4 {α:Type} {as bs:List α} {n:Nat} (h:bs∈List.replicate n as):bs=as:=List.eq_of_mem_replicate h
def GT (K:PySem.W.Frag):Sp:=λ vs H Q _=>∃ (a:Addr) (ns:List Int) (n M:Nat),vs=[.ref a,nV n,nV M]/\SqL K H a (ns.map V.int)/\ns.length<=63/\7<=M/\M<=60/\∀ H' p l n rs,Same H H'->H p=none->H l=none->H' p=some (.tup [nV n, .ref l])->H' l=some (.lst (rs.map nV))->ClIn M n rs->Q (.ref p) H'
abbrev Bi:Stmt:=top 39
theorem sc__law_told_over:FnScope ["_law_script","_law_number","_law_most","_law_across","_law_down","_law_wide","_law_high","_law_part"] ["_law_script","_law_number","_law_most"] (Aj Bi):=⟨rfl,rfl,rfl,by decide +kernel,rfl,by decide +kernel,by decide +kernel⟩
theorem DK {f:Addr} {fd:FuncData} (F:Fun K "_law_told_over" "_law_told_over" Bi f fd) (T:Txt K mg c) (c__law_mixed:Ao P w K mg base "_law_mixed" 1 ["_law_cell","_law_k"] Bm) (c__law_cell_at:Ao P w K mg base "_law_cell_at" 1 ["_law_script","_law_k"] (A5 K)):FnOk P w K mg base CX0 2 f fd ["_law_script","_law_number","_law_most"] (GT K):=by
  refine F.ok sc__law_told_over (λ vs H Q E h=> ?_) (λ cdv A outer s H vs Q E hr h=> ?_)
  · obtain ⟨a,ns,n,M,rfl,_⟩:=h;rfl
  · obtain ⟨a,ns,n,M,rfl,sa,hn,m1,m2,k⟩:=h;refine ⟨_,(Ae (GF (Bt (Aa (Ad AB Ac (Ad Aq (pv 1) Ac)) (Aa (Ad AB Ac (Ad Aq (Ad As (pv 1) Ac) Ac)) Ab))) (GK (K:=K) rfl (AZ (AE (i:=3) sc__law_told_over.nd rfl (Or.inr rfl)) (AZ (AE (i:=4) sc__law_told_over.nd rfl (Or.inl rfl)) DH))))
      (Ae (GF (Bt (Aa (Ad AB Ac (Ad Aq (Ad As (pv 1) Ac) (Am JP rfl (T.own _ (by decide)) Gf (Aa Ac (Aa (Ad As (pv 2) (pv 3)) Ab))))) (Aa (Ad AB Ac (Ad Aq (Ad As (pv 1) Ac) (Am JP rfl (T.own _ (by decide)) Gf (Aa Ac (Aa (Ad As (pv 2) (pv 4)) Ab))))) Ab))) (GK (K:=K) rfl (AZ (AE (i:=5) sc__law_told_over.nd rfl (Or.inr rfl)) (AZ (AE (i:=6) sc__law_told_over.nd rfl (Or.inl rfl)) DH))))
      (Ae (BE (i:=7) sc__law_told_over.nd rfl (Or.inl rfl) (AM rfl (T.own _ (by decide)) (Aa (pv 4) Ab)) (λ _ _ _ _=>Ay) (λ _ _ _ _=>(Ad Aq (Af c__law_mixed hr (Aa (Af c__law_cell_at hr (Aa (pv 2) (Aa (pv 0) Ab))) (Aa (pv 0) Ab))) (Ad AW Ac (pv 1)))))
      (Ah (Al (Bt (Aa (Ad BW (pv 3) (pv 5)) (Aa (Ad Gj (Eh (Dn (K:=K) (pv 7)) (λ _ _ _ _=>Ay) (λ _ _ _ _=>(Am (OX (K:=K)) rfl (T.own _ (by decide)) boot_sum (Aa (Ek (fr:=[("_law_across",1),("_law_mask",0)]) (AM rfl (T.own _ (by decide)) (Aa (pv 2) Ab)) (λ _ _ _ _=>Ay) (λ _ _ _ _=>(Ad AW (pv 2) (Ad BW (pv 1) (pv 0))))) Ab)))) (pv 6)) Ab)))))))),?_⟩
    walk_at "w";refine Ak (by decide) ?_;walk_at "w";refine Ak ⟨by decide,by decide⟩ ?_;walk_at "w";refine Ak (by decide) ?_;walk_at "w";intro p1 hp1;obtain ⟨A,eA,A1,A2⟩:∃ A:Nat,1+((n:Nat):Int)%6=(A:Nat)/\1<=A/\A<=6:=⟨1+n%6,by omega,by omega,by omega⟩;obtain ⟨B,eB,B1,B2⟩:∃ A:Nat,1+((n:Nat):Int) / 6%6=(A:Nat)/\1<=A/\A<=6:=⟨1+n / 6%6,by omega,by omega,by omega⟩;rw [eA,eB];refine ER (SqT.of Ag) rfl ?_;have s1:=Ai (o:=HO.tup [V.int (A:Nat),V.int (B:Nat)]) hp1;generalize upd H p1 (HO.tup [V.int (A:Nat),V.int (B:Nat)])=H1 at s1 ⊢;walk_at "w";refine Ak ⟨by decide,by decide⟩ ?_;walk_at "w";refine Ak ⟨by omega,Int.lt_of_le_of_lt (show _<=(6:Int) by omega) (by decide)⟩ ?_;walk_at "w";refine Ak (IP _) ?_;rw [show ((n:Nat):Int) / 36=((n / 36:Nat):Int) by omega];obtain ⟨W,eW,W1,W2⟩:=IN (n / 36) A M A1 (by omega);walk_at "w";rw [eW];refine Ak ⟨by decide,by decide⟩ ?_;walk_at "w";refine Ak ⟨by omega,Int.lt_of_le_of_lt (show _<=(6:Int) by omega) (by decide)⟩ ?_;walk_at "w";refine Ak (IP _) ?_;rw [show ((n:Nat):Int) / 360=((n / 360:Nat):Int) by omega];obtain ⟨Z,eZ,Z1,Z2⟩:=IN (n / 360) B M B1 (by omega);walk_at "w";rw [eZ];intro p2 hp2;refine ER (SqT.of Ag) rfl ?_;have s2:=s1.trans (Ai (o:=HO.tup [V.int (W:Nat),V.int (Z:Nat)]) hp2);generalize upd H1 p2 (HO.tup [V.int (W:Nat),V.int (Z:Nat)])=H2 at s2 ⊢;walk_at "w";refine ⟨_,rfl,by omega,by omega,λ D hD=> ?_⟩;rw [Int.toNat_natCast];have sa2:=s2.seq sa;refine AF (G:=λ i=>(((((Eo (CF ns i) i:Nat):Int)%(2 ^ A:Nat)).toNat:Nat):Int)) (BO rfl) hD (by omega) ?_ ?_
    · intro i H' R hi s kk;walk_at "w";refine ⟨a,ns,i,rfl,s.seq sa2,hn,λ H3 s3=> ?_⟩;walk_at "w";refine ⟨_,_,rfl,⟨by omega,by omega⟩,?_⟩;walk_at "w";refine Ak ⟨by omega,by omega,by decide⟩ ?_;rw [BS];refine Ak (BA A) ?_;rw [Fm];exact kk H3 s3
    intro H3 s3 hl3;rw [Hw] at hl3;generalize er:(List.range B).map (λ i=>(((Eo (CF ns i) i:Nat):Int)%(2 ^ A:Nat)).toNat)=ps at hl3;have lps:ps.length=B:=by rw [<-er];simp
    have bps:∀ r∈ps,r<2 ^ A:=λ r hr=>by
      rw [<-er] at hr;obtain ⟨i,_,rfl⟩:=List.mem_map.mp hr;exact G4 _ _
    walk_at "w";refine Ak (.inl ⟨by omega,by omega⟩) ?_;rw [<-Int.natCast_mul];walk_at "w";refine ⟨D,rfl,⟨_,SqL.of hl3⟩,λ D4 hD4=> ?_⟩;refine AF (G:=λ i=>((((List.range W).map λ k=>ps.getD i 0*2 ^ (A*k)).sum:Nat):Int)) (A0 (SqL.of hl3) rfl) hD4 (by rw [List.length_map];omega) ?_ ?_
    · intro i H' R hi s kk;have hi':i<ps.length:=by simpa using hi
      rw [AH hi];walk_at "w";refine ⟨_,rfl,by omega,?_,λ D5 hD5=> ?_⟩
      · have:W<=A*W:=Nat.le_mul_of_pos_left W (by omega);omega
      rw [Int.toNat_natCast];have hW:W<=60:=by
        have:W<=A*W:=Nat.le_mul_of_pos_left W (by omega);omega
      refine AF (G:=λ k=>((ps.getD i 0*2 ^ (A*k):Nat):Int)) (BO rfl) hD5 (by omega) ?_ ?_
      · intro j H5 R5 hj s5 kk5;walk_at "w";refine Ak (.inl ⟨by omega,by omega⟩) ?_;rw [<-Int.natCast_mul];have hAj:A*j<=A*W:=Nat.mul_le_mul_left A (by omega);refine Ak ⟨by omega,by omega,Iy (bps _ (getD_mem hi')) (by omega)⟩ ?_;rw [IG];exact kk5 H5 (Same.refl _)
      · intro H5 s5 hl5;walk_at "w";refine N5 (SqL.of hl5) ?_;rw [Mc];exact kk H5 s5
    intro H4 s4 hl4;rw [Hw,List.length_map] at hl4;walk_at "w";generalize eq:(List.range ps.length).map (λ i=>((List.range W).map λ k=>ps.getD i 0*2 ^ (A*k)).sum)=qs at hl4;have lqs:qs.length=B:=by rw [<-eq];simp [lps]
    have bqs:∀ r∈qs,r<2 ^ (A*W):=λ r hr=>by
      rw [<-eq] at hr;obtain ⟨i,hi,rfl⟩:=List.mem_map.mp hr;exact II (bps _ (getD_mem (List.mem_range.mp hi))) W
    have hBZ:B*Z<=60:=by omega
    have hZ:Z<=60:=by
      have:Z<=B*Z:=Nat.le_mul_of_pos_left Z (by omega);omega
    refine GB hl4 (by omega) (by omega) (by simp;omega) λ p5 hp5=> ?_;walk_at "w";have e5:(List.replicate ((Z:Nat):Int).toNat (qs.map nV)).flatten=((List.replicate Z qs).flatten).map nV:=by
      rw [Int.toNat_natCast,List.map_flatten,List.map_replicate]
    rw [e5];have s5:=Ai (o:=HO.lst (((List.replicate Z qs).flatten).map nV)) hp5;have h5:upd H4 p5 (HO.lst (((List.replicate Z qs).flatten).map nV)) p5=_:=Ag;generalize upd H4 p5 (HO.lst (((List.replicate Z qs).flatten).map nV))=H5 at s5 h5 ⊢;intro p6 hp6;have s24:=s2.trans (s3.trans s4);have s6:=Ai (o:=HO.tup [V.int ((A*W:Nat):Int),V.ref p5]) hp6;have hlen:((List.replicate Z qs).flatten).length=B*Z:=by
      rw [List.length_flatten,List.map_replicate,List.sum_replicate_nat,lqs,Nat.mul_comm]
    have hAW:A<=A*W:=Nat.le_mul_of_pos_right A (by omega);have hBZ1:B<=B*Z:=Nat.le_mul_of_pos_right B (by omega);refine k _ p6 p5 (A*W) ((List.replicate Z qs).flatten) (s24.trans (s5.trans s6)) (s24.free (s5.free hp6)) (s24.free hp5) Ag (s6 _ _ h5) ⟨⟨by omega,by omega,by rw [hlen];omega,by rw [hlen];omega,λ r hr=> ?_⟩,W2,by rw [hlen];exact Z2⟩;obtain ⟨l,hl,hrl⟩:=List.mem_flatten.mp hr;rw [K4 hl] at hrl;exact bqs r hrl
def Cf (K:PySem.W.Frag):Sp:=λ vs H Q _=>∃ (a:Addr) (ns:List Int) (n e p:Nat),vs=[.ref a,nV n,nV e,nV p]/\SqL K H a (ns.map V.int)/\ns.length<=63/\1<=e/\e<=60/\1<=p/\p<=60/\∀ H' q l rs,Same H H'->H q=none->H l=none->H' q=some (.tup [nV e, .ref l])->H' l=some (.lst (rs.map nV))->rs.length=p->ClOk e rs->Q (.ref q) H'
abbrev CZ:Stmt:=top 40
theorem sc__law_laid:FnScope ["_law_script","_law_number","_law_ends","_law_picks","_law_many","_law_uppers","_law_rows","_law_pick","_law_cell","_law_own","_law_bits","_law_end"] ["_law_script","_law_number","_law_ends","_law_picks"] (Aj CZ):=⟨rfl,rfl,rfl,by decide +kernel,rfl,by decide +kernel,by decide +kernel⟩
theorem GO {f:Addr} {fd:FuncData} (F:Fun K "_law_laid" "_law_laid" CZ f fd) (T:Txt K mg c) (c__law_mixed:Ao P w K mg base "_law_mixed" 1 ["_law_cell","_law_k"] Bm) (c__law_cell_at:Ao P w K mg base "_law_cell_at" 1 ["_law_script","_law_k"] (A5 K)):FnOk P w K mg base CX0 2 f fd ["_law_script","_law_number","_law_ends","_law_picks"] (Cf K):=by
  refine F.ok sc__law_laid (λ vs H Q E h=> ?_) (λ cdv A outer s H vs Q E hr h=> ?_)
  · obtain ⟨a,ns,n,e,p,rfl,_⟩:=h;rfl
  · obtain ⟨a,ns,n,e,p,rfl,sa,hn,e1,e2,p1,p2,k⟩:=h;refine ⟨_,(Ae (Ax (i:=4) sc__law_laid.nd rfl (Or.inr rfl) (Ad AB Ac (Ad Aq (pv 1) Ac)))
      (Ae (BE (i:=5) sc__law_laid.nd rfl (Or.inl rfl) (AM rfl (T.own _ (by decide)) (Aa (pv 2) Ab)) (λ _ _ _ _=>Ay) (λ _ _ _ _=>(Ad Aq (Af c__law_mixed hr (Aa (Af c__law_cell_at hr (Aa (pv 2) (Aa (Ad AB (pv 0) Ac) Ab))) (Aa (Ad AB (pv 0) Ac) Ab))) (pv 1))))
      (Ae (Ax (i:=6) sc__law_laid.nd rfl (Or.inl rfl) (AV Ab))
      (Ae (CO PassesOwn.never rfl (AM rfl (T.own _ (by decide)) (Aa (pv 3) Ab)) (AE (i:=7) sc__law_laid.nd rfl (Or.inl rfl)) (Ae (Ax (i:=8) sc__law_laid.nd rfl (Or.inl rfl) (Af c__law_cell_at hr (Aa (pv 0) (Aa (Ad AB (pv 7) Ac) Ab))))
      (Ae (Ax (i:=9) sc__law_laid.nd rfl (Or.inl rfl) (Ad Aq (Af c__law_mixed hr (Aa (pv 8) (Aa (pv 7) Ab))) (pv 4)))
      (Ae (Ax (i:=10) sc__law_laid.nd rfl (Or.inl rfl) (Ad BW (Af c__law_mixed hr (Aa (pv 8) (Aa (Ad AB (pv 7) Ac) Ab))) (Ad Gx Ac Ac)))
      (Ae (CO PassesOwn.never rfl (AM rfl (T.own _ (by decide)) (Aa (pv 2) Ab)) (AE (i:=11) sc__law_laid.nd rfl (Or.inl rfl)) (Ah (AR (Ap G0 (A9 (B3 (K:=K)) (pv 5) (pv 11) (λ _ _=>rfl)) (pv 9) (An _)) (Ah (Ax (i:=10) sc__law_laid.nd rfl (Or.inl rfl) (Ad AB (Ad AB (Ad AY (pv 10) (Ad Aq (pv 10) (Ad AW Ac (Ad AB (pv 11) Ac)))) (Ad Aq (pv 10) (Ad AW Ac (pv 11)))) (Ad AW (BB Nh rfl (T.own _ (by decide)) boot_int (Aa (AL F3 (A9 (B3 (K:=K)) (pv 5) (pv 11) (λ _ _=>rfl)) (pv 9) (An _)) Ab)) (pv 11))))) Aw)))
      (Ah (GM (FW (K:=K) PySem.F.plainAttrs_list PySem.F.slot_list_append PySem.F.type_list_append Dc (pv 6) (Aa (Ad Aq (pv 10) (Ad AW Ac (pv 2))) Ab)))))))))
      (Ah (Al (Bt (Aa (pv 2) (Aa (pv 6) Ab))))))))),?_⟩
    walk_at "w";refine Ak (by decide) ?_;walk_at "w";obtain ⟨M,eM,M1,M2⟩:∃ A:Nat,2+((n:Nat):Int)%3=(A:Nat)/\2<=A/\A<=4:=⟨2+n%3,by omega,by omega,by omega⟩;rw [eM];refine ⟨_,rfl,by omega,by omega,λ D hD=> ?_⟩;rw [Int.toNat_natCast];refine AF (G:=λ i=>((Eo (CF ns (i+1)) ((i:Int)+9)%M:Nat):Int)) (BO rfl) hD (by omega) ?_ ?_
    · intro i H' R hi s kk;walk_at "w";refine ⟨a,ns,i+1,rfl,s.seq sa,hn,λ H3 s3=> ?_⟩;walk_at "w";refine ⟨_,_,rfl,⟨by omega,by omega⟩,?_⟩;walk_at "w";refine Ak (by show (0:Int)<_;omega) ?_;rw [<-Int.natCast_emod];exact kk H3 s3
    intro H1 s1 hl1;rw [Hw] at hl1;generalize er:(List.range e).map (λ i:Nat=>Eo (CF ns (i+1)) ((i:Int)+9)%M)=us at hl1;have lus:us.length=e:=by rw [<-er];simp
    walk_at "w";intro q hq;walk_at "w";have s2:=Ai (o:=HO.lst []) hq;refine ⟨_,rfl,by omega,by omega,Hk (H0:=H1) (Cc (n:=p)) (λ i σ H3=>∃ x y z u v,∃ rs:List Nat,σ=[some (.ref a),some (nV n),some (nV e),some (nV p),some (nV M),some (.ref D),some (.ref q),x,y,z,u,v]/\Same H1 H3/\H3 q=some (.lst (rs.map nV))/\rs.length=i/\∀ r∈rs,r<2 ^ e) ⟨_,_,_,_,_,[],rfl,s2,Ag,rfl,by simp⟩ (λ i σ H3 ⟨_,_,_,_,_,_,_,s,_⟩=>s) ?_ ?_⟩
    · rintro i σ H' H3 hi ⟨x,y,z,u,v,rs,rfl,s',hq',lrs,brs⟩ s3;have hq3:=s3 _ _ hq';have sH:=s'.trans s3;walk_at "w";refine ⟨a,ns,i+1,rfl,(s1.trans sH).seq sa,hn,λ H4 s4=> ?_⟩;generalize CF ns (i+1)=C;walk_at "w";refine ⟨_,_,rfl,⟨by omega,by omega⟩,?_⟩;walk_at "w";refine Ak (by show (0:Int)<_;omega) ?_;rw [<-Int.natCast_emod];generalize Eo C ((i:Nat):Int)%M=O;walk_at "w";refine ⟨_,_,rfl,⟨by omega,by omega⟩,?_⟩;have hm:=IT C (((i:Nat):Int)+3);generalize Eo C (((i:Nat):Int)+3)=B at hm ⊢;walk_at "w";refine Ak ⟨by decide,by decide,by decide⟩ ?_;walk_at "w";refine Ak (.inl ⟨by omega,by omega⟩) ?_;generalize ((B:Nat):Int)*48271 ^ (5:Int).toNat=b0;walk_at "w";refine ⟨_,rfl,by omega,by omega,C3 (Cc (n:=e)) (λ j σ H5=>∃ w,∃ b:Int,σ=[some (.ref a),some (nV n),some (nV e),some (nV p),some (nV M),some (.ref D),some (.ref q),some (nV i),some (.int C),some (nV O),some (.int b),w]/\Same H4 H5) ⟨_,_,rfl,Same.refl _⟩ (λ j σ H5 ⟨_,_,_,s⟩=>s) ?_ ?_⟩
      · rintro j σ H6 H5 hj ⟨w0,b,rfl,s6⟩ s5;have s45:=s6.trans s5;have hu5:=s45 _ _ (s4 _ _ (sH _ _ hl1));walk_at "w";refine Bk (SqL.of hu5) (E7 (by omega) (by omega)) ?_;walk_at "w";refine Ii (λ h0=> ?_) (λ h0=> ?_)
        · walk_at "w";rw [show ((j:Nat):Int)+1=((j+1:Nat):Int) by omega];refine Ak ⟨by omega,by omega,by decide⟩ ?_;rw [BS];walk_at "w";refine Ak (BA _) ?_;walk_at "w";refine Ak ⟨by omega,by omega,by decide⟩ ?_;rw [BS];walk_at "w";refine Ak (BA _) ?_;walk_at "w";refine Bk (SqL.of hu5) (E7 (by omega) (by omega)) ?_;walk_at "w";refine ⟨_,rfl,?_⟩;walk_at "w";refine Ak ⟨by omega,by omega,by split <;> decide⟩ ?_;walk_at "w";exact ⟨_,_,rfl,s45⟩
        · walk_at "w";exact ⟨_,_,rfl,s45⟩
      · rintro σ H5 ⟨w0,b,rfl,s5⟩;have s45:=s4.trans s5;have hq5:=s45 _ _ hq3;walk_at "w";refine tyL (SqL.of hq5) ?_;walk_at "w";refine Ak ⟨by omega,by omega,by decide⟩ ?_;rw [BS];walk_at "w";refine Ak (BA _) ?_;rw [Fm];walk_at "w";refine J3 hq5 (by rw [List.length_map];omega) ?_;walk_at "w";refine ⟨_,_,_,_,_,rs++[(b%(2 ^ e:Nat)).toNat],rfl,C2 (sH.trans s45) hq,?_,by simp [lrs],λ m hm=> ?_⟩
        · rw [Ag,List.map_append];rfl
        · rcases List.mem_append.mp hm with z | z
          · exact brs m z
          · rw [List.mem_singleton.mp z];exact G4 _ _
    · rintro σ H3 ⟨x,y,z,u,v,rs,rfl,s3,hq3,lrs,brs⟩;walk_at "w";intro p4 hp4;have s4:=Ai (o:=HO.tup [nV e, .ref q]) hp4;have s13:=s1.trans s3;exact k _ p4 q rs (s13.trans s4) (s13.free hp4) (s1.free hq) Ag (s4 _ _ hq3) lrs ⟨e1,e2,by omega,by omega,brs⟩
theorem DU {P:Int->Prop} {l:List Int} {k:Nat} (h:k<l.length) (H:∀ x∈l,P x):P (l.getD k 0):=H _ (L2.getD_mem h)
def Dh:Sp:=λ vs H Q _=>∃ n e M:Nat,vs=[nV n,nV e,nV M]/\n<=1000000000/\7<=M/\M<=60/\1<=e/\e<=M/\∀ H' p l n rs,Same H H'->H p=none->H l=none->H' p=some (.tup [nV n, .ref l])->H' l=some (.lst (rs.map nV))->ClIn M n rs->Q (.ref p) H'
abbrev Cz:Stmt:=top 41
theorem sc__law_steps:FnScope ["_law_number","_law_ends","_law_most","_law_step_here","_law_rows","_law_k"] ["_law_number","_law_ends","_law_most"] (Aj Cz):=⟨rfl,rfl,rfl,by decide +kernel,rfl,by decide +kernel,by decide +kernel⟩
theorem FD {f:Addr} {fd:FuncData} (F:Fun K "_law_steps" "_law_steps" Cz f fd) (T:Txt K mg c) (c__law_turned:Ao P w K mg base "_law_turned" 1 ["_law_mask","_law_steps_here","_law_size"] CQ):FnOk P w K mg base CX0 2 f fd ["_law_number","_law_ends","_law_most"] Dh:=by
  refine F.ok sc__law_steps (λ vs H Q E h=> ?_) (λ cdv A outer s H vs Q E hr h=> ?_)
  · obtain ⟨n,e,M,rfl,_⟩:=h;rfl
  · obtain ⟨n,e,M,rfl,n2,m1,m2,e1,e2,k⟩:=h;refine ⟨_,(Ae (Ax (i:=1) sc__law_steps.nd rfl (Or.inl rfl) (A9 (B3 (K:=K)) (AV (Aa (pv 1) (Aa (Ad AB Ac (Ad Aq (Ad As (pv 0) Ac) Ac)) (Aa Ac (Aa Ac Ab))))) (Ad Aq (Ad As (pv 0) Ac) Ac) (λ _ _=>rfl)))
      (Ae (Ax (i:=3) sc__law_steps.nd rfl (Or.inl rfl) (Ad Aq (Ad As (pv 0) Ac) (pv 1)))
      (Ae (Ax (i:=4) sc__law_steps.nd rfl (Or.inl rfl) (AV (Aa (Ad Aq (A9 (B3 (K:=K)) (AV (Aa Ac (Aa (Ad AY (Ad AW Ac (pv 1)) Ac) (Aa (Ad BW (pv 0) (Ad Gx Ac Ac)) Ab)))) (Ad Aq (pv 0) Ac) (λ _ _=>rfl)) (Ad AW Ac (pv 1))) Ab)))
      (Ae (CO PassesOwn.never rfl (AM rfl (T.own _ (by decide)) (Aa (Ad AY (A9 (B3 (K:=K)) (AV (Aa (pv 1) (Aa (Ad BW Ac (pv 1)) (Aa (Ad AB Ac (Ad Aq (Ad As (pv 0) Ac) (pv 2))) Ab)))) (Ad Aq (Ad As (pv 0) Ac) Ac) (λ _ _=>rfl)) Ac) Ab)) (AE (i:=5) sc__law_steps.nd rfl (Or.inl rfl)) (Ah (GM (FW (K:=K) PySem.F.plainAttrs_list PySem.F.slot_list_append PySem.F.type_list_append Dc (pv 4) (Aa (Af c__law_turned hr (Aa (A9 (B3 (K:=K)) (pv 4) (FZ Ea Ac) (λ _ _=>rfl)) (Aa (pv 3) (Aa (pv 1) Ab)))) Ab)))))
      (Ah (Al (Bt (Aa (pv 1) (Aa (AK (Gg (K:=K)) (pv 4) A4 (AQ (pv 2))) Ab))))))))),?_⟩
    walk_at "w";refine Ak ⟨by decide,by decide⟩ ?_;walk_at "w";refine Ak (by decide) ?_;walk_at "w";intro p1 hp1;walk_at "w";have s1:=Ai (o:=HO.lst [nV e,V.int (2+(n:Int) / 17%6),V.int 3,V.int 5]) hp1;have h1:upd H p1 (HO.lst [nV e,V.int (2+(n:Int) / 17%6),V.int 3,V.int 5]) p1=some (.lst (([(e:Int),2+(n:Int) / 17%6,3,5]:List Int).map V.int)):=Ag;generalize upd H p1 (HO.lst [nV e,V.int (2+(n:Int) / 17%6),V.int 3,V.int 5])=H1 at s1 h1 ⊢;refine Ak ⟨by decide,by decide⟩ ?_;walk_at "w";refine Ak (by decide) ?_;refine Bk (SqL.of h1) (C8 (by omega) (by show _<((4:Nat):Int);omega)) ?_;obtain ⟨E0,eE,E1,E2⟩:∃ E0:Nat,([(e:Int),2+(n:Int) / 17%6,3,5]:List Int).getD ((n:Int) / 5%4).toNat 0=(E0:Nat)/\1<=E0/\E0<=M:=by
      refine DU (P:=λ x=>∃ E0:Nat,x=(E0:Nat)/\1<=E0/\E0<=M) (by show _<4;omega) λ x hx=>⟨x.toNat,?_⟩;simp only [List.mem_cons,List.not_mem_nil,or_false] at hx;omega
    rw [eE];walk_at "w";refine Ak ⟨by decide,by decide⟩ ?_;walk_at "w";refine Ak (by show (0:Int)<_;omega) ?_;rw [show (n:Int) / 7%(E0:Nat)=((n / 7%E0:Nat):Int) by push_cast;rfl];have hst:n / 7%E0<E0:=Nat.mod_lt _ (by omega);generalize n / 7%E0=S at hst ⊢;walk_at "w";refine Ak ⟨by omega,by omega,by decide⟩ ?_;rw [BS];walk_at "w";refine Ak ⟨by decide,by decide,by decide⟩ ?_;walk_at "w";refine Ak (.inl ⟨by omega,by omega⟩) ?_;generalize ((n:Nat):Int)*7919 ^ (5:Int).toNat=Z;walk_at "w";intro p2 hp2;walk_at "w";have s2:=Ai (o:=HO.lst [V.int 1,V.int (((2 ^ E0:Nat):Int) - 2),V.int Z]) hp2;have h2:upd H1 p2 (HO.lst [V.int 1,V.int (((2 ^ E0:Nat):Int) - 2),V.int Z]) p2=some (.lst (([1,((2 ^ E0:Nat):Int) - 2,Z]:List Int).map V.int)):=Ag;generalize upd H1 p2 (HO.lst [V.int 1,V.int (((2 ^ E0:Nat):Int) - 2),V.int Z])=H2 at s2 h2 ⊢;refine Ak (by decide) ?_;refine Bk (SqL.of h2) (C8 (by omega) (by show _<((3:Nat):Int);omega)) ?_;generalize ([1,((2 ^ E0:Nat):Int) - 2,Z]:List Int).getD ((n:Int)%3).toNat 0=Y;walk_at "w";refine Ak ⟨by omega,by omega,by decide⟩ ?_;rw [BS];refine Ak (BA _) ?_;rw [Fm];have hY:=G4 Y E0;generalize (Y%(2 ^ E0:Nat)).toNat=y at hY ⊢;walk_at "w";intro q hq;walk_at "w";have sq:=Ai (o:=HO.lst [nV y]) hq;have s02:=s1.trans s2;refine Ak (.inl ⟨by decide,by decide⟩) ?_;walk_at "w";refine Ak ⟨by decide,by decide⟩ ?_;walk_at "w";refine Ak (by show (0:Int)<_;omega) ?_;walk_at "w";intro p3 hp3;walk_at "w";have s3:=Ai (o:=HO.lst [nV E0,V.int (2*(E0:Int)),V.int (1+(n:Int) / 11%(M:Nat))]) hp3;have h3:upd (upd H2 q (HO.lst [nV y])) p3 (HO.lst [nV E0,V.int (2*(E0:Int)),V.int (1+(n:Int) / 11%(M:Nat))]) p3=some (.lst (([(E0:Int),2*(E0:Int),1+(n:Int) / 11%(M:Nat)]:List Int).map V.int)):=Ag;have hq3:=s3 _ _ (show upd H2 q (HO.lst [nV y]) q=_ from Ag);have s23:=sq.trans s3;generalize upd (upd H2 q (HO.lst [nV y])) p3 (HO.lst [nV E0,V.int (2*(E0:Int)),V.int (1+(n:Int) / 11%(M:Nat))])=H3 at s23 h3 hq3 ⊢;refine Ak ⟨by decide,by decide⟩ ?_;walk_at "w";refine Ak (by decide) ?_;refine Bk (SqL.of h3) (C8 (by omega) (by show _<((3:Nat):Int);omega)) ?_;obtain ⟨X,eX,X1,X2⟩:∃ X:Int,([(E0:Int),2*(E0:Int),1+(n:Int) / 11%(M:Nat)]:List Int).getD ((n:Int) / 3%3).toNat 0=X/\1<=X/\X<=120:=by
      refine DU (P:=λ x=>∃ X:Int,x=X/\1<=X/\X<=120) (by show _<3;omega) λ x hx=>⟨x,rfl,?_⟩;have c1:=Int.emod_nonneg ((n:Int) / 11) (show ((M:Nat):Int)≠0 by omega);have c2:=Int.emod_lt_of_pos ((n:Int) / 11) (show (0:Int)<((M:Nat):Int) by omega);simp only [List.mem_cons,List.not_mem_nil,or_false] at hx;omega
    rw [eX];walk_at "w";refine ⟨_,rfl,by omega,by omega,Hk (H0:=H2) (Cc (n:=(X - 1).toNat)) (λ i σ H4=>∃ x,∃ (rs:List Nat) (r:Nat),σ=[some (nV n),some (nV E0),some (nV M),some (nV S),some (.ref q),x]/\Same H2 H4/\H4 q=some (.lst ((rs++[r]).map nV))/\rs.length=i/\∀ m∈rs++[r],m<2 ^ E0) ⟨_,[],y,rfl,s23,hq3,rfl,by simpa using hY⟩ (λ i σ H4 ⟨_,_,_,_,s,_⟩=>s) ?_ ?_⟩
    · rintro i σ H' H4 hi ⟨x,rs,r,rfl,s',hq',lrs,brs⟩ s4;have hq4:=s4 _ _ hq';have sH:=s'.trans s4;walk_at "w";refine tyL (SqL.of hq4) ?_;walk_at "w";refine Bk (v:=nV r) (SqL.of hq4) (by rw [List.map_append];exact Ki _ _) ?_;walk_at "w";refine ⟨r,S,E0,rfl,brs r (by simp),by omega,by omega,λ r' hr' _=> ?_⟩;walk_at "w";refine J3 hq4 (by rw [List.length_map,List.length_append,List.length_singleton];omega) ?_;walk_at "w";refine ⟨_,rs++[r],r',rfl,C2 sH hq,?_,by simp [lrs],λ m hm=> ?_⟩
      · rw [Ag,List.map_append (l₁:=rs++[r])];rfl
      · rcases List.mem_append.mp hm with z | z
        · exact brs m z
        · rw [List.mem_singleton.mp z];exact hr'
    · rintro σ H4 ⟨x,rs,r,rfl,s4,hq4,lrs,brs⟩;walk_at "w";refine Er (SqL.of hq4) λ p5 hp5=> ?_;rw [E4 (by omega),Int.toNat_natCast, <-List.map_take];walk_at "w";have s5:=Ai (o:=HO.lst (((rs++[r]).take M).map nV)) hp5;have h5:upd H4 p5 (HO.lst (((rs++[r]).take M).map nV)) p5=_:=Ag;generalize upd H4 p5 (HO.lst (((rs++[r]).take M).map nV))=H5 at s5 h5 ⊢;intro p6 hp6;have s6:=Ai (o:=HO.tup [nV E0, .ref p5]) hp6;have s04:=s02.trans s4;have hl:((rs++[r]).take M).length<=M/\1<=((rs++[r]).take M).length:=by
        rw [List.length_take,List.length_append,List.length_singleton];omega
      exact k _ p6 p5 E0 ((rs++[r]).take M) (s04.trans (s5.trans s6)) (s04.free (s5.free hp6)) (s04.free hp5) Ag (s6 _ _ h5) ⟨⟨E1,by omega,hl.2,by omega,λ m hm=>brs m (List.mem_of_mem_take hm)⟩,E2,hl.1⟩
def Dd (K:PySem.W.Frag):Sp:=λ vs H Q _=>∃ (a:Addr) (ns:List Int) (M:Nat),vs=[.ref a,nV M]/\SqL K H a (ns.map V.int)/\ns.length<=63/\7<=M/\M<=60/\∀ H' p l n rs,Same H H'->H p=none->H l=none->H' p=some (.tup [nV n, .ref l])->H' l=some (.lst (rs.map nV))->ClIn M n rs->Q (.ref p) H'
abbrev Cp:Stmt:=top 42
theorem sc__law_weave:FnScope ["_law_script","_law_most","_law_number","_law_ends","_law_rows","_law_kind","_law_bound"] ["_law_script","_law_most"] (Aj Cp):=⟨rfl,rfl,rfl,by decide +kernel,rfl,by decide +kernel,by decide +kernel⟩
theorem FI {f:Addr} {fd:FuncData} (F:Fun K "_law_weave" "_law_weave" Cp f fd) (T:Txt K mg c) (c__law_mixed:Ao P w K mg base "_law_mixed" 1 ["_law_cell","_law_k"] Bm) (c__law_cell_at:Ao P w K mg base "_law_cell_at" 1 ["_law_script","_law_k"] (A5 K)) (c__law_told_over:Ao P w K mg base "_law_told_over" 2 ["_law_script","_law_number","_law_most"] (GT K)) (c__law_laid:Ao P w K mg base "_law_laid" 2 ["_law_script","_law_number","_law_ends","_law_picks"] (Cf K)) (c__law_steps:Ao P w K mg base "_law_steps" 2 ["_law_number","_law_ends","_law_most"] Dh):FnOk P w K mg base CX0 3 f fd ["_law_script","_law_most"] (Dd K):=by
  refine F.ok sc__law_weave (λ vs H Q E h=> ?_) (λ cdv A outer s H vs Q E hr h=> ?_)
  · obtain ⟨a,ns,M,rfl,_⟩:=h;rfl
  · obtain ⟨a,ns,M,rfl,sa,hn,m1,m2,k⟩:=h;have hu:=hr.units0;refine ⟨_,(Ae (Ax (i:=2) sc__law_weave.nd rfl (Or.inr rfl) (Af c__law_mixed (hr.mono (by decide)) (Aa (Af c__law_cell_at (hr.mono (by decide)) (Aa (pv 0) (Aa Ac Ab))) (Aa Ac Ab))))
      (Ae (Ax (i:=3) sc__law_weave.nd rfl (Or.inr rfl) (A9 (B3 (K:=K)) (AV (Aa (Ad AB Ac (Ad Aq (Ad As (pv 2) Ac) (Am NK rfl (T.own _ (by decide)) Jr (Aa (pv 1) (Aa Ac Ab))))) (Aa (Ad AB Ac (Ad Aq (Ad As (pv 2) Ac) (pv 1))) Ab))) (Ad Aq (Ad As (pv 2) Ac) Ac) (λ _ _=>rfl)))
      (Ae (Hj (K:=K) (i:=4) sc__law_weave.nd rfl (Or.inl rfl) (Io (K:=K) rfl (T.own _ (by decide)) (Aa (AK (Gg (K:=K)) (pv 0) (AQ Ac) (AQ (Ad AB Ac (pv 1)))) Ab)) (λ _ _ _ _=>Ay) (λ _ _ _ _=>(Ad Aq (Ad BW (Ad AB (pv 1) (pv 0)) (A9 (B3 (K:=K)) (AV (Aa Ac (Aa (Ad AB (Ad Gx Ac Ac) Ac) Ab))) (Ad Aq (Ad As (pv 3) Ac) Ac) (λ _ _=>rfl))) (Ad AW Ac (pv 2)))))
      (Ae (Ax (i:=5) sc__law_weave.nd rfl (Or.inl rfl) (Ad Aq (Ad As (pv 2) Ac) Ac))
      (Ae (AR (PW.pt (CC (Ap (F7 hu (K:=K)) (pv 4) (AV Ab) (An _)) (BX (Ap Bb (pv 5) Ac (An _))))) (Ah (Al (Af c__law_told_over hr (Aa (pv 0) (Aa (Ad As (pv 2) Ac) (Aa (pv 1) Ab)))))) Aw)
      (Ae (AR (PW.pt (CC (Ap Bb (pv 5) Ac (An _)) (BX (Ap Bb (pv 5) Ac (An _))))) (Ah (Al (Af c__law_laid hr (Aa (pv 0) (Aa (Ad As (pv 2) Ac) (Aa (pv 3) (Aa (Am (CN (K:=K)) rfl (T.own _ (by decide)) boot_len (Aa (pv 4) Ab)) Ab))))))) Aw)
      (Ae (AR (Ap Bb (pv 5) Ac (An _)) (Ah (Al (Af c__law_steps hr (Aa (Ad As (pv 2) Ac) (Aa (pv 3) (Aa (pv 1) Ab)))))) Aw)
      (Ae (AR (Ap Bb (pv 5) Ac (An _)) (Ae (Ax (i:=6) sc__law_weave.nd rfl (Or.inr rfl) (Ad Aq (Af c__law_mixed (hr.mono (by decide)) (Aa (pv 2) (Aa Ac Ab))) (Ad AW Ac (pv 3))))
      (Ah (Hj (K:=K) (i:=4) sc__law_weave.nd rfl (Or.inl rfl) (Io (K:=K) rfl (T.own _ (by decide)) (Aa (pv 4) Ab)) (λ _ _ _ _=>Ay) (λ _ _ _ _=>(A9 (B3 (K:=K)) (AV (Aa (Ad DW (pv 1) (pv 2)) (Aa (Ad Ko (pv 1) (pv 2)) (Aa (pv 1) Ab)))) (Ad BW (Ad Aq (Ad BW (pv 0) (pv 0)) Ac) (Ad Aq (Ad As (pv 3) Ac) Ac)) (λ _ _=>rfl)))))) Aw)
      (Ah (Al (Bt (Aa (pv 3) (Aa (pv 4) Ab))))))))))))),?_⟩
    walk_at "w";refine ⟨a,ns,0,rfl,sa,hn,λ H1 s1=> ?_⟩;walk_at "w";refine ⟨_,_,rfl,⟨by decide,by decide⟩,?_⟩;have hN:=IT (CF ns 0) 1;generalize Eo (CF ns 0) 1=N at hN ⊢;walk_at "w";refine Ak ⟨by decide,by decide⟩ ?_;walk_at "w";refine Ak (by show (0:Int)<_;split <;> omega) ?_;obtain ⟨X,eX,X1,X2⟩:∃ X:Nat,(1:Int)+(N:Int) / 8%(if (9:Int)<((M:Nat):Int) then (9:Int) else ((M:Nat):Int))=(X:Nat)/\1<=X/\X<=M:=by
      refine ⟨((1:Int)+(N:Int) / 8%(if (9:Int)<((M:Nat):Int) then (9:Int) else ((M:Nat):Int))).toNat,?_⟩;have c1:=Int.emod_nonneg ((N:Int) / 8) (show ((M:Nat):Int)≠0 by omega);have c2:=Int.emod_lt_of_pos ((N:Int) / 8) (show (0:Int)<((M:Nat):Int) by omega);split <;> omega
    walk_at "w";rw [eX];refine Ak ⟨by decide,by decide⟩ ?_;walk_at "w";refine Ak (by show (0:Int)<_;omega) ?_;obtain ⟨Y,eY,Y1,Y2⟩:∃ X:Nat,(1:Int)+(N:Int) / 8%((M:Nat):Int)=(X:Nat)/\1<=X/\X<=M:=by
      refine ⟨((1:Int)+(N:Int) / 8%((M:Nat):Int)).toNat,?_⟩;have c1:=Int.emod_nonneg ((N:Int) / 8) (show ((M:Nat):Int)≠0 by omega);have c2:=Int.emod_lt_of_pos ((N:Int) / 8) (show (0:Int)<((M:Nat):Int) by omega);omega
    walk_at "w";rw [eY];intro p2 hp2;walk_at "w";have s2:=s1.trans (Ai (o:=HO.lst [nV X,nV Y]) hp2);have h2:upd H1 p2 (HO.lst [nV X,nV Y]) p2=some (.lst (([(X:Int),(Y:Int)]:List Int).map V.int)):=Ag;generalize upd H1 p2 (HO.lst [nV X,nV Y])=H2 at s2 h2 ⊢;refine Ak ⟨by decide,by decide⟩ ?_;walk_at "w";refine Ak (by decide) ?_;refine Bk (SqL.of h2) (C8 (by omega) (by show _<((2:Nat):Int);omega)) ?_;obtain ⟨E0,eE,E1,E2⟩:∃ E0:Nat,([(X:Int),(Y:Int)]:List Int).getD ((N:Int) / 5%2).toNat 0=(E0:Nat)/\1<=E0/\E0<=M:=by
      refine DU (P:=λ x=>∃ E0:Nat,x=(E0:Nat)/\1<=E0/\E0<=M) (by show _<2;omega) λ x hx=>⟨x.toNat,?_⟩;simp only [List.mem_cons,List.not_mem_nil,or_false] at hx;omega
    rw [eE];walk_at "w";refine Er (s2.seq sa) λ p3 hp3=> ?_;rw [Lf (by decide) (by omega), <-List.map_take, <-List.map_drop];walk_at "w";have ht:((ns.take (1+(M:Int)).toNat).drop (1:Int).toNat).length<=M:=by
      rw [List.length_drop,List.length_take];omega
    have s3:=s2.trans (Ai (o:=HO.lst (((ns.take (1+(M:Int)).toNat).drop (1:Int).toNat).map V.int)) hp3);have h3:upd H2 p3 (HO.lst (((ns.take (1+(M:Int)).toNat).drop (1:Int).toNat).map V.int)) p3=_:=Ag;generalize upd H2 p3 (HO.lst (((ns.take (1+(M:Int)).toNat).drop (1:Int).toNat).map V.int))=H3 at s3 h3 ⊢;generalize (ns.take (1+(M:Int)).toNat).drop (1:Int).toNat=ts at h3 ht;refine ⟨p3,rfl,⟨_,SqL.of h3⟩,λ D4 hD4=> ?_⟩;refine AF (G:=λ i=>(((((ts.getD i 0+(i:Nat))*([1,1000000000000000009]:List Int).getD ((N:Int) / 3%2).toNat 0)%(2 ^ E0:Nat)).toNat:Nat):Int)) (Hn (SqL.of h3) rfl rfl) hD4 (by rw [List.length_map];omega) ?_ ?_
    · intro i H' R hi s kk;rw [J4 hi];walk_at "w";refine Ak ⟨by decide,by decide,by decide⟩ ?_;walk_at "w";intro p5 hp5;walk_at "w";have s5:=Ai (o:=HO.lst [V.int 1,V.int (10 ^ (18:Int).toNat+9)]) hp5;have h5:upd H' p5 (HO.lst [V.int 1,V.int (10 ^ (18:Int).toNat+9)]) p5=some (.lst (([1,1000000000000000009]:List Int).map V.int)):=Ag;generalize upd H' p5 (HO.lst [V.int 1,V.int (10 ^ (18:Int).toNat+9)])=H5 at s5 h5 ⊢;refine Ak ⟨by decide,by decide⟩ ?_;walk_at "w";refine Ak (by decide) ?_;refine Bk (SqL.of h5) (C8 (by omega) (by show _<((2:Nat):Int);omega)) ?_;have hF: -(2 ^ 64)<([1,1000000000000000009]:List Int).getD ((N:Int) / 3%2).toNat 0/\([1,1000000000000000009]:List Int).getD ((N:Int) / 3%2).toNat 0<2 ^ 64:=by
        refine DU (P:=λ x=> -(2 ^ 64)<x/\x<2 ^ 64) (by show _<2;omega) λ x hx=> ?_;simp only [List.mem_cons,List.not_mem_nil,or_false] at hx;omega
      refine Ak (.inr hF) ?_;walk_at "w";refine Ak ⟨by omega,by omega,by decide⟩ ?_;rw [BS];refine Ak (BA _) ?_;rw [Fm];exact kk H5 s5
    intro H4 s4 hl4;have s04:=s3.trans s4;generalize er:(List.range (ts.map V.int).length).map (λ i:Nat=>((((ts.getD i 0+(i:Nat))*([1,1000000000000000009]:List Int).getD ((N:Int) / 3%2).toNat 0)%(2 ^ E0:Nat)).toNat))=rs;have lrs:rs.length=ts.length:=by rw [<-er];simp
    have brs:∀ r∈rs,r<2 ^ E0:=λ r hr=>by
      rw [<-er] at hr;obtain ⟨i,_,rfl⟩:=List.mem_map.mp hr;exact G4 _ _
    rw [Hw,er] at hl4;have hl4':H4 D4=some (.lst ((rs.map λ r:Nat=>(r:Int)).map V.int)):=by rw [hl4,List.map_map];rfl
    walk_at "w";refine Ak ⟨by decide,by decide⟩ ?_;walk_at "w";refine Ak (by decide) ?_;walk_at "w";intro p5 hp5;walk_at "w";have s5:=Ai (o:=HO.lst []) hp5;refine ET (bs:=[]) (SqL.of (s5 _ _ hl4')) (SqL.of Ag) ?_;have s05:=s04.trans s5;have hl5:=s5 _ _ hl4;have hD0:H D4=none:=s3.free hD4;generalize upd H4 p5 (HO.lst [])=H5 at s05 hl5 ⊢;have h28:((N:Nat):Int) / 2880=((N / 2880:Nat):Int):=by omega
    have hr1:rs.length<=M:=by omega
    have told:∀ {D:VK} {E:XK},(∀ p H',D (.ref p) H'=Q (.ref p) H')->GT K [.ref a,nV (N / 2880),nV M] H5 D E:=λ {D E} e=>
      ⟨a,ns,N / 2880,M,rfl,s05.seq sa,hn,m1,m2,λ H' p l n rs' s hp hl h1 h2 c=>(e p H').symm▸k H' p l n rs' (s05.trans s) (s05.free hp) (s05.free hl) h1 h2 c⟩
    refine ⟨_,rfl,?_⟩;refine EO (λ hb=> ?_) (λ hb=> ?_)
    · walk_at "w";refine Ak ⟨by decide,by decide⟩ ?_;rw [h28];walk_at "w";exact told λ _ _=>rfl
    have hr0:1<=rs.length:=by
      cases rs with
      | nil=>simp at hb
      | cons x xs=>simp
    walk_at "w";refine Bw (λ h1=> ?_) (λ h1=> ?_)
    · walk_at "w";refine Ak ⟨by decide,by decide⟩ ?_;rw [h28];walk_at "w";exact told λ _ _=>rfl
    walk_at "w";have laid:∀ {D:VK} {E:XK},(∀ p H',D (.ref p) H'=Q (.ref p) H')->Cf K [.ref a,nV (N / 2880),nV E0,nV rs.length] H5 D E:=λ {D E} e=>
      ⟨a,ns,N / 2880,E0,rs.length,rfl,s05.seq sa,hn,E1,by omega,hr0,by omega,λ H' p l rs' s hp hl h1 h2 l' c=>(e p H').symm▸k H' p l E0 rs' (s05.trans s) (s05.free hp) (s05.free hl) h1 h2 ⟨c,E2,by omega⟩⟩
    have lay:∀ (H':Hp) (rs':List Nat) (b:Addr) {p:Addr},Same H H'->H b=none->H' b=some (.lst (rs'.map nV))->ClIn M E0 rs'->H' p=none->Q (.ref p) (upd H' p (HO.tup [nV E0, .ref b])):=λ H' rs' b p s hb h c hp=>
      k _ p b E0 rs' (s.trans (Ai hp)) (s.free hp) hb Ag (Ai hp _ _ h) c
    refine Bw (λ h2=> ?_) (λ h2=> ?_)
    · walk_at "w";refine Ak ⟨by decide,by decide⟩ ?_;rw [h28];walk_at "w";refine Bx (SqL.of hl5) ?_;walk_at "w";rw [List.length_map];exact laid λ _ _=>rfl
    walk_at "w";refine Bw (λ h3=> ?_) (λ h3=> ?_)
    · walk_at "w";refine Ak ⟨by decide,by decide⟩ ?_;rw [h28];walk_at "w";refine Bx (SqL.of hl5) ?_;walk_at "w";rw [List.length_map];exact laid λ _ _=>rfl
    walk_at "w";refine Bw (λ h4=> ?_) (λ h4=> ?_)
    · walk_at "w";refine Ak ⟨by decide,by decide⟩ ?_;rw [h28];walk_at "w";exact ⟨N / 2880,E0,M,rfl,by omega,m1,m2,E1,E2,λ H' p l n rs' s hp hl h1 h2 c=>k H' p l n rs' (s05.trans s) (s05.free hp) (s05.free hl) h1 h2 c⟩
    walk_at "w";refine Bw (λ h5=> ?_) (λ h5=> ?_)
    · walk_at "w";refine ⟨_,_,rfl,⟨by decide,by decide⟩,?_⟩;generalize Eo ((N:Nat):Int) 3=Z;walk_at "w";refine Ak ⟨by omega,by omega,by decide⟩ ?_;rw [BS];refine Ak (BA _) ?_;rw [Fm];have hB:=G4 (Z:Int) E0;generalize (((Z:Nat):Int)%(2 ^ E0:Nat)).toNat=B at hB ⊢;walk_at "w";refine ⟨D4,rfl,⟨_,SqL.of hl5⟩,λ D6 hD6=> ?_⟩;refine AF (G:=λ i=>((([rs.getD i 0 &&& B,rs.getD i 0 ||| B,rs.getD i 0]:List Nat).getD ((i:Int)*(i:Int)%3*((N:Int) / 2880%2)).toNat 0:Nat):Int)) (Hn (SqL.of hl5) rfl rfl) hD6 (by rw [List.length_map];omega) ?_ ?_
      · intro i H' R hi s kk;have hi':i<rs.length:=by simpa using hi
        rw [AH hi];walk_at "w";rw [bA,bO];intro p7 hp7;walk_at "w";have s7:=Ai (o:=HO.lst [nV (rs.getD i 0 &&& B),nV (rs.getD i 0 ||| B),nV (rs.getD i 0)]) hp7;have h7:upd H' p7 (HO.lst [nV (rs.getD i 0 &&& B),nV (rs.getD i 0 ||| B),nV (rs.getD i 0)]) p7=some (.lst (([rs.getD i 0 &&& B,rs.getD i 0 ||| B,rs.getD i 0]:List Nat).map nV)):=Ag;generalize upd H' p7 (HO.lst [nV (rs.getD i 0 &&& B),nV (rs.getD i 0 ||| B),nV (rs.getD i 0)])=H7 at s7 h7 ⊢;refine Ak (.inl ⟨by omega,by omega⟩) ?_;walk_at "w";refine Ak (by decide) ?_;walk_at "w";refine Ak ⟨by decide,by decide⟩ ?_;walk_at "w";refine Ak (by decide) ?_;have c1:=Int.emod_nonneg ((i:Int)*(i:Int)) (show (3:Int)≠0 by decide);have c2:=Int.emod_lt_of_pos ((i:Int)*(i:Int)) (show (0:Int)<3 by decide);walk_at "w";refine Ak (.inl ⟨by omega,by omega⟩) ?_;have c3:0<=(i:Int)*(i:Int)%3*((N:Int) / 2880%2)/\(i:Int)*(i:Int)%3*((N:Int) / 2880%2)<3:=by
          rcases (show (N:Int) / 2880%2=0\/(N:Int) / 2880%2=1 by omega) with z | z <;> rw [z] <;> omega
        refine Bk (SqL.of h7) (E7 c3.1 (by show _<((3:Nat):Int);omega)) ?_;exact kk H7 s7
      intro H6 s6 hl6;rw [Hw,List.length_map] at hl6;walk_at "w";intro p8 hp8;refine lay H6 _ D6 (s05.trans s6) (s05.free hD6) hl6 ⟨⟨E1,by omega,by simp;omega,by simp;omega,λ r hr=> ?_⟩,E2,by simp;omega⟩ hp8;obtain ⟨i,hi,rfl⟩:=List.mem_map.mp hr;have hb2:=brs _ (L2.getD_mem (y:=0) (List.mem_range.mp hi));have c1:=Int.emod_nonneg ((i:Int)*(i:Int)) (show (3:Int)≠0 by decide);have c2:=Int.emod_lt_of_pos ((i:Int)*(i:Int)) (show (0:Int)<3 by decide);have c3:((i:Int)*(i:Int)%3*((N:Int) / 2880%2)).toNat<3:=by
        rcases (show (N:Int) / 2880%2=0\/(N:Int) / 2880%2=1 by omega) with z | z <;> rw [z] <;> omega
      have hm:=L2.getD_mem (as:=[rs.getD i 0 &&& B,rs.getD i 0 ||| B,rs.getD i 0]) (y:=0) (i:=((i:Int)*(i:Int)%3*((N:Int) / 2880%2)).toNat) c3;simp only [List.mem_cons,List.not_mem_nil,or_false] at hm;rcases hm with z | z | z
      · rw [z];exact Nat.and_lt_two_pow _ hB
      · rw [z];exact Nat.or_lt_two_pow hb2 hB
      · rw [z];exact hb2
    · walk_at "w";intro p8 hp8;exact lay H5 rs D4 s05 hD0 hl5 ⟨⟨E1,by omega,hr0,by omega,brs⟩,E2,hr1⟩ hp8
abbrev sgS (b:Bool):Str:=⟨#[MR.sg b]⟩
theorem L8 (b:Bool):Str.ofString (toString ((b.toNat:Nat):Int))=sgS b:=by cases b <;> rfl
theorem LZ (b:Bool):Str.ofString (toString (1 - ((b.toNat:Nat):Int)))=sgS (!b):=by cases b <;> rfl
theorem K0 (f:Nat->Bool) (P:Nat):sj ((List.range P).map λ i=>sgS (f i))=MR.txt f P:=by
  refine GD (Array.toList_inj.mp ?_);rw [LV,MR.txt_list,List.map_map]
  induction P with
  | zero=>rfl
  | succ P ih=>rw [List.range_succ,List.map_append,List.map_append,List.flatten_append,ih];rfl
theorem Ip (m i:Nat):(((m >>> i) &&& 1:Nat))=(m.testBit i).toNat:=by
  rw [Nat.and_one_is_mod,Nat.shiftRight_eq_div_pow,MM.bit_div]
theorem Ma (b:Bool):((b.toNat:Nat):Int).natAbs.log2<1920:=by cases b <;> decide
theorem JW (b:Bool):(1 - ((b.toNat:Nat):Int)).natAbs.log2<1920:=by cases b <;> decide
abbrev txL (f:Nat->Nat->Bool) (P n:Nat):List V:=((List.range n).map λ i=>MR.txt (f i) P).map V.str
def Bp:Sp:=λ vs H Q _=>∃ (n:Nat) (a:Addr) (rs:List Nat),vs=[nV n, .ref a]/\H a=some (.lst (rs.map nV))/\n<=60/\rs.length<=60/\∀ H' p,Same H H'->H' p=some (.lst (txL (fE rs) rs.length n))->Q (.ref p) H'
abbrev BC:Stmt:=top 43
theorem EQ:FnScope ["_law_ends","_law_rows"] ["_law_ends","_law_rows"] (Aj BC):=⟨rfl,rfl,rfl,by decide +kernel,rfl,by decide +kernel,by decide +kernel⟩
theorem EG {f:Addr} {fd:FuncData} (F:Fun K "_law_columns" "_law_columns" BC f fd) (T:Txt K mg c):FnOk P w K mg base CX0 1 f fd ["_law_ends","_law_rows"] Bp:=by
  refine F.ok EQ (λ vs H Q E h=> ?_) (λ cdv A outer s H vs Q E hr h=> ?_)
  · obtain ⟨n,a,rs,rfl,_⟩:=h;rfl
  · obtain ⟨n,a,rs,rfl,ha,h1,h2,k⟩:=h;refine ⟨_,(Ah (Al (Eh (AM rfl (T.own _ (by decide)) (Aa (pv 0) Ab)) (λ _ _ _ _=>Ay) (λ _ _ _ _=>(FW (K:=K) PySem.F.plainAttrs_str PySem.F.slot_str_join PySem.F.type_str_join (J5 (K:=K)) A7 (Aa (Ek (fr:=[("_law_end",0)]) (Dn (K:=K) (pv 1)) (λ _ _ _ _=>Ay) (λ _ _ _ _=>(BB MB rfl (T.own _ (by decide)) boot_str (Aa (Ad DW (Ad Gu (pv 0) (pv 1)) Ac) Ab)))) Ab)))))),?_⟩;walk_at "w";refine ⟨_,rfl,by omega,by omega,λ D hD=> ?_⟩;rw [Int.toNat_natCast];refine B7 (G:=λ e=>MR.txt (fE rs e) rs.length) (BO rfl) hD (by omega) ?_ ?_
    · intro e H' R he s kk;walk_at "w";refine tyS ?_;walk_at "w";refine ⟨a,rfl,⟨_,SqL.of (s _ _ ha)⟩,λ D2 hD2=> ?_⟩;refine B7 (G:=λ p=>sgS (fE rs e p)) (A0 (SqL.of (s _ _ ha)) rfl) hD2 (by rw [List.length_map];omega) ?_ ?_
      · intro p H2 R2 hp s2 kk2;rw [AH hp];walk_at "w";refine Ak (by show (0:Int)<=_;omega) ?_;rw [Gz];walk_at "w";rw [show (1:Int)=((1:Nat):Int) from rfl,bA,Ip];refine ⟨_,rfl,Ma _,?_⟩;have kk3:=kk2 H2 (Same.refl _);rw [<-L8] at kk3;exact kk3
      · intro H2 s2 hl2;rw [List.length_map] at hl2;walk_at "w";refine ⟨_,D2,_,rfl,rfl,SqL.of hl2,?_,?_⟩
        · rw [Iw _ _ λ _=>rfl,List.length_map,List.length_range];show _+_*0<=_;omega
        · have e2:=K0 (fE rs e) rs.length;unfold sj at e2;rw [e2];exact kk H2 s2
    · intro H' s hl;exact k H' D s hl
def By:Sp:=λ vs H Q _=>∃ (n:Nat) (a:Addr) (rs:List Nat),vs=[nV n, .ref a]/\H a=some (.lst (rs.map nV))/\n<=60/\rs.length<=60/\∀ H' p,Same H H'->H' p=some (.lst (txL (fP rs) n rs.length))->Q (.ref p) H'
abbrev CI:Stmt:=top 44
theorem GA:FnScope ["_law_ends","_law_rows"] ["_law_ends","_law_rows"] (Aj CI):=⟨rfl,rfl,rfl,by decide +kernel,rfl,by decide +kernel,by decide +kernel⟩
theorem GX {f:Addr} {fd:FuncData} (F:Fun K "_law_gaps" "_law_gaps" CI f fd) (T:Txt K mg c):FnOk P w K mg base CX0 1 f fd ["_law_ends","_law_rows"] By:=by
  refine F.ok GA (λ vs H Q E h=> ?_) (λ cdv A outer s H vs Q E hr h=> ?_)
  · obtain ⟨n,a,rs,rfl,_⟩:=h;rfl
  · obtain ⟨n,a,rs,rfl,ha,h1,h2,k⟩:=h;refine ⟨_,(Ah (Al (Eh (Dn (K:=K) (pv 1)) (λ _ _ _ _=>Ay) (λ _ _ _ _=>(FW (K:=K) PySem.F.plainAttrs_str PySem.F.slot_str_join PySem.F.type_str_join (J5 (K:=K)) A7 (Aa (Ek (fr:=[("_law_row",0)]) (AM rfl (T.own _ (by decide)) (Aa (pv 1) Ab)) (λ _ _ _ _=>Ay) (λ _ _ _ _=>(BB MB rfl (T.own _ (by decide)) boot_str (Aa (Ad AY Ac (Ad DW (Ad Gu (pv 1) (pv 0)) Ac)) Ab)))) Ab)))))),?_⟩;walk_at "w";refine ⟨a,rfl,⟨_,SqL.of ha⟩,λ D hD=> ?_⟩;refine B7 (G:=λ p=>MR.txt (fP rs p) n) (A0 (SqL.of ha) rfl) hD (by rw [List.length_map];omega) ?_ ?_
    · intro p H' R hp s kk;rw [AH hp];walk_at "w";refine tyS ?_;walk_at "w";refine ⟨_,rfl,by omega,by omega,λ D2 hD2=> ?_⟩;rw [Int.toNat_natCast];refine B7 (G:=λ e=>sgS (fP rs p e)) (BO rfl) hD2 (by omega) ?_ ?_
      · intro e H2 R2 he s2 kk2;walk_at "w";refine Ak (by show (0:Int)<=_;omega) ?_;rw [Gz];walk_at "w";have e1:Builtin.bitAnd ((((rs.getD p 0) >>> e:Nat):Int)) 1=((((rs.getD p 0).testBit e).toNat:Nat):Int):=by rw [show (1:Int)=((1:Nat):Int) from rfl,bA,Ip]
        rw [e1];refine ⟨_,rfl,JW _,?_⟩;have kk3:=kk2 H2 (Same.refl _);have e3:sgS (fP rs p e)=Str.ofString (toString (1 - ((((rs.getD p 0).testBit e).toNat:Nat):Int))):=(LZ _).symm;rw [e3] at kk3;exact kk3
      · intro H2 s2 hl2;walk_at "w";refine ⟨_,D2,_,rfl,rfl,SqL.of hl2,?_,?_⟩
        · rw [Iw _ _ λ _=>rfl,List.length_map,List.length_range];show _+_*0<=_;omega
        · have e2:=K0 (fP rs p) n;unfold sj at e2;rw [e2];exact kk H2 s2
    · intro H' s hl;rw [List.length_map] at hl;exact k H' D s hl
theorem IA {f:Nat->Nat->Bool} {P n i:Nat} (h:i<(txL f P n).length):(txL f P n).getD i .non= .str (MR.txt (f i) P):=by
  have hi:i<n:=by simpa using h
  rw [Fn V.str _ i .non (MR.txt (f 0) P) (by simpa using hi),AN (λ i=>MR.txt (f i) P) hi]
def BR:Sp:=λ vs H Q _=>∃ (a:Addr) (f:Nat->Nat->Bool) (P n:Nat),vs=[.ref a]/\H a=some (.lst (txL f P n))/\1<=n/\n<=60/\∀ H' d,Same H H'->MP.Least (λ i=>MR.txt (f i) P) n d->Q (nV d) H'
abbrev Cg:Stmt:=top 45
theorem sc__law_least:FnScope ["_law_texts","_law_part"] ["_law_texts"] (Aj Cg):=⟨rfl,rfl,rfl,by decide +kernel,rfl,by decide +kernel,by decide +kernel⟩
theorem FS {f:Addr} {fd:FuncData} (F:Fun K "_law_least" "_law_least" Cg f fd) (T:Txt K mg c):FnOk P w K mg base CX0 1 f fd ["_law_texts"] BR:=by
  refine F.ok sc__law_least (λ vs H Q E h=> ?_) (λ cdv A outer s H vs Q E hr h=> ?_)
  · obtain ⟨a,f,P,n,rfl,_⟩:=h;rfl
  · obtain ⟨a,f,P0,n,rfl,ha,n1,n2,k⟩:=h;have hu:=hr.units0;refine ⟨_,(Ae (CO PassesOwn.never rfl (C6 rfl (T.own _ (by decide)) (Aa Ac (Aa (Ad AB (Am (CN (K:=K)) rfl (T.own _ (by decide)) boot_len (Aa (pv 0) Ab)) Ac) Ab))) (AE (i:=1) sc__law_least.nd rfl (Or.inl rfl)) (Ah (AR (PW.pt (GQ (Ap Bb (Ad Aq (Am (CN (K:=K)) rfl (T.own _ (by decide)) boot_len (Aa (pv 0) Ab)) (pv 1)) Ac (An _)) (EW (Ap (F7 hu (K:=K)) (pv 0) (Ad Gj (AK (Gg (K:=K)) (pv 0) A4 (AQ (pv 1))) (Ad As (Am (CN (K:=K)) rfl (T.own _ (by decide)) boot_len (Aa (pv 0) Ab)) (pv 1))) (An _))))) (Ah (Al (pv 1))) Aw)))
      (Ah (Al Ac))),?_⟩
    have hlen:(txL f P0 n).length=n:=by simp
    walk_at "w";refine Bx (SqL.of ha) ?_;rw [hlen];walk_at "w";refine ⟨_,_,rfl,⟨by decide,by decide,by omega,by omega⟩,?_⟩;rw [show ((n:Int)+1 - 1).toNat=n by omega];refine C3 (Fu (lo:=1) (n:=n)) (λ i σ H3=>∃ x,σ=[some (.ref a),x]/\Same H H3/\∀ j,1<=j->j<i+1->¬ MP.Per (λ i=>MR.txt (f i) P0) n j) ⟨_,rfl,Same.refl _,λ j a b=>by omega⟩ (λ i σ H3 ⟨_,_,s,_⟩=>s) ?_ ?_
    · rintro i σ H' H3 hi ⟨x,rfl,s',no⟩ s3;have sH:=s'.trans s3;have ha3:=sH _ _ ha;rw [show (1:Int)+(i:Nat)=((i+1:Nat):Int) by omega];walk_at "w";refine Bx (SqL.of ha3) ?_;rw [hlen];walk_at "w";refine Ak (by show (0:Int)<_;omega) ?_;walk_at "w";have em:((n:Nat):Int)%((i+1:Nat):Int)=((n%(i+1):Nat):Int):=by push_cast;rfl
      rw [em];refine Bw (λ hm=> ?_) (λ hm=> ?_)
      · walk_at "w";refine Er (SqL.of ha3) λ p4 hp4=> ?_;rw [E4 (by omega),Int.toNat_natCast, <-List.map_take];have s4:=Ai (o:=HO.lst ((((List.range n).map λ i=>MR.txt (f i) P0).take (i+1)).map V.str)) hp4;have h4:upd H3 p4 (HO.lst ((((List.range n).map λ i=>MR.txt (f i) P0).take (i+1)).map V.str)) p4=_:=Ag;generalize upd H3 p4 (HO.lst ((((List.range n).map λ i=>MR.txt (f i) P0).take (i+1)).map V.str))=H4 at s4 h4 ⊢;walk_at "w";refine Bx (SqL.of (s4 _ _ ha3)) ?_;rw [hlen];walk_at "w";refine Ak ⟨by omega,Int.lt_of_le_of_lt (show _<=(60:Int) by omega) (by decide)⟩ ?_;have ed:((n:Nat):Int) / ((i+1:Nat):Int)=((n / (i+1):Nat):Int):=by push_cast;rfl
        rw [ed];have hdiv:n / (i+1)<=n:=Nat.div_le_self _ _;refine GB h4 (Int.natCast_nonneg _) (Int.le_trans (Int.ofNat_le.mpr hdiv) (by omega)) (by simp;omega) λ p5 hp5=> ?_;have e5:(List.replicate ((n / (i+1):Nat):Int).toNat ((((List.range n).map λ i=>MR.txt (f i) P0).take (i+1)).map V.str)).flatten=((List.replicate (n / (i+1)) (((List.range n).map λ i=>MR.txt (f i) P0).take (i+1))).flatten).map V.str:=by
          rw [Int.toNat_natCast,List.map_flatten,List.map_replicate]
        rw [e5];walk_at "w";have s5:=Ai (o:=HO.lst (((List.replicate (n / (i+1)) (((List.range n).map λ i=>MR.txt (f i) P0).take (i+1))).flatten).map V.str)) hp5;refine IM (SqL.of (s5 _ _ (s4 _ _ ha3))) (SqL.of Ag) ?_;have s05:=sH.trans (s4.trans s5);generalize upd H4 p5 (HO.lst (((List.replicate (n / (i+1)) (((List.range n).map λ i=>MR.txt (f i) P0).take (i+1))).flatten).map V.str))=H5 at s05 ⊢;have hdm:(i+1)*(n / (i+1))=n:=by
          have:=Nat.div_add_mod n (i+1);omega
        have hper:MP.Per (λ i=>MR.txt (f i) P0) n (i+1)↔(List.range n).map (λ i=>MR.txt (f i) P0)=(List.replicate (n / (i+1)) (((List.range n).map λ i=>MR.txt (f i) P0).take (i+1))).flatten:=by
          rw [MP.rep_iff (y:=MR.txt (f 0) P0) (by omega) (n / (i+1)) _ (by simp [hdm])];unfold MP.Per;rw [List.length_map,List.length_range];constructor
          · intro z j hj;rw [AN (λ i=>MR.txt (f i) P0) (by omega),AN (λ i=>MR.txt (f i) P0) hj];exact z.2 j hj
          · intro z;refine ⟨by omega,λ j hj=> ?_⟩;have:=z j hj;rw [AN (λ i=>MR.txt (f i) P0) (by omega),AN (λ i=>MR.txt (f i) P0) hj] at this;exact this
        walk_at "w";refine Bw (λ hp=> ?_) (λ hp=> ?_)
        · walk_at "w";exact k H5 (i+1) s05 ⟨by omega,by omega,hper.mpr hp,λ d' x y=>no d' x y⟩
        · walk_at "w";refine ⟨_,rfl,s05,λ j a b=> ?_⟩;rcases Nat.lt_or_ge j (i+1) with z | z
          · exact no j a z
          · have:j=i+1:=by omega
            subst this;exact λ z=>hp (hper.mp z)
      · walk_at "w";refine ⟨_,rfl,sH,λ j a b=> ?_⟩;rcases Nat.lt_or_ge j (i+1) with z | z
        · exact no j a z
        · have:j=i+1:=by omega
          subst this;exact λ z=>hm (by have:=z.1;omega)
    · rintro σ H3 ⟨x,rfl,s3,no⟩;exact absurd (MP.per_full _ n) (no n n1 (by omega))
theorem OJ {α:Type} {ls:List α} (h:1<=ls.length):∃ li ll,ls=li++[ll]:=by
  refine ⟨ls.dropLast,ls.getLast (λ z=>by rw [z] at h;simp at h),?_⟩;exact (List.dropLast_concat_getLast _).symm
theorem Na {α:Type} {li:List α} {ll y:α} {i:Nat} (h:i<(li++[ll]).length):(ll::li).getD i y=(li++[ll]).getD ((i+(li++[ll]).length - 1)%(li++[ll]).length) y:=by
  have hl:(li++[ll]).length=li.length+1:=by simp
  rw [hl] at h ⊢;cases i with
  | zero=>
    rw [show 0+(li.length+1) - 1=li.length by omega,Nat.mod_eq_of_lt (by omega)];simp [List.getD_eq_getElem?_getD]
  | succ i=>
    rw [show i+1+(li.length+1) - 1=i+(li.length+1) by omega,Nat.add_mod_right,Nat.mod_eq_of_lt (by omega)];simp [List.getD_eq_getElem?_getD,List.getElem?_append_left (show i<li.length by omega)]
def Cw:Sp:=λ vs H Q _=>∃ (n:Nat) (a:Addr) (rs:List Nat),vs=[nV n, .ref a]/\H a=some (.lst (rs.map nV))/\ClOk n rs/\∀ H',Same H H'->Q (L3 (MP.stepO rs n)) H'
abbrev CU:Stmt:=top 46
theorem sc__law_step:FnScope ["_law_ends","_law_rows","_law_lines","_law_step_here","_law_due"] ["_law_ends","_law_rows"] (Aj CU):=⟨rfl,rfl,rfl,by decide +kernel,rfl,by decide +kernel,by decide +kernel⟩
theorem Gk {f:Addr} {fd:FuncData} (F:Fun K "_law_step" "_law_step" CU f fd) (T:Txt K mg c) (c__law_gaps:Ao P w K mg base "_law_gaps" 1 ["_law_ends","_law_rows"] By):FnOk P w K mg base CX0 2 f fd ["_law_ends","_law_rows"] Cw:=by
  refine F.ok sc__law_step (λ vs H Q E h=> ?_) (λ cdv A outer s H vs Q E hr h=> ?_)
  · obtain ⟨n,a,rs,rfl,_⟩:=h;rfl
  · obtain ⟨n,a,rs,rfl,ha,ok,k⟩:=h;have n2:=ok.n2;have p1:=ok.p1;have p2:=ok.p2;have hu:=hr.units0;refine ⟨_,(Ae (Ax (i:=2) sc__law_step.nd rfl (Or.inl rfl) (Af c__law_gaps hr (Aa (pv 0) (Aa (pv 1) Ab))))
      (Ae (CO PassesOwn.never rfl (AM rfl (T.own _ (by decide)) (Aa (pv 0) Ab)) (AE (i:=3) sc__law_step.nd rfl (Or.inr rfl)) (Ae (BE (i:=4) sc__law_step.nd rfl (Or.inl rfl) (Dn (K:=K) (Ad (OY (K:=K)) (AK (Gg (K:=K)) (pv 2) (AQ (FZ Ea Ac)) A4) (AK (Gg (K:=K)) (pv 2) A4 (AQ (FZ Ea Ac))))) (λ _ _ _ _=>Ay) (λ _ _ _ _=>(Ad HP (AK KI (pv 0) (AQ (Ad AY (pv 1) (pv 2))) A4) (AK KI (pv 0) A4 (AQ (Ad AY (pv 1) (pv 2)))))))
      (Ah (AR (Ap (F7 hu (K:=K)) (pv 2) (pv 4) (An _)) (Ah (Al (pv 3))) Aw))))
      (Ah (Al GE)))),?_⟩
    walk_at "w";refine ⟨n,a,rs,rfl,ha,n2,p2,λ H1 b s1 hb=> ?_⟩;walk_at "w";refine ⟨_,rfl,by omega,by omega,C3 (Cc (n:=n)) (λ i σ H3=>∃ x y,σ=[some (nV n),some (.ref a),some (.ref b),x,y]/\Same H1 H3/\∀ j,j<i->MP.stepQ rs n j=false) ⟨_,_,rfl,Same.refl _,λ j hj=>by omega⟩ (λ i σ H3 ⟨_,_,_,s,_⟩=>s) ?_ ?_⟩
    · rintro st σ H' H3 hi ⟨x,y,rfl,s',no⟩ s3;have sH:=s'.trans s3;have hb3:=sH _ _ hb;walk_at "w";obtain ⟨li,ll,el⟩:=OJ (ls:=(List.range rs.length).map λ i=>MR.txt (fP rs i) n) (by simpa using p1);have hll:(li++[ll]).length=rs.length:=by rw [<-el];simp
      have em:txL (fP rs) n rs.length=li.map V.str++[V.str ll]:=by
        show ((List.range rs.length).map λ i=>MR.txt (fP rs i) n).map V.str=_;rw [el,List.map_append];rfl
      have hb4:=hb3;rw [em] at hb4;refine Er (SqL.of hb4) λ q4 hq4=> ?_;rw [G3];walk_at "w";have s4:=Ai (o:=HO.lst [V.str ll]) hq4;have h4:upd H3 q4 (HO.lst [V.str ll]) q4=_:=Ag;replace hb3:=s4 _ _ hb3;replace hb4:=s4 _ _ hb4;generalize upd H3 q4 (HO.lst [V.str ll])=H4 at s4 h4 hb3 hb4 ⊢;refine Er (SqL.of hb4) λ q5 hq5=> ?_;rw [He];walk_at "w";have s5:=Ai (o:=HO.lst (li.map V.str)) hq5;have h5:upd H4 q5 (HO.lst (li.map V.str)) q5=_:=Ag;replace hb3:=s5 _ _ hb3;replace h4:=s5 _ _ h4;have s35:=s4.trans s5;generalize upd H4 q5 (HO.lst (li.map V.str))=H5 at s35 h4 h5 hb3 ⊢;have hli:li.length+1=rs.length:=by rw [<-hll];simp
      refine M9 (SqL.of h4) (SqL.of h5) (by simp;omega) λ q6 hq6=> ?_;have e6:[V.str ll]++li.map V.str=(ll::li).map V.str:=rfl;rw [e6];have s6:=Ai (o:=HO.lst ((ll::li).map V.str)) hq6;have h6:upd H5 q6 (HO.lst ((ll::li).map V.str)) q6=_:=Ag;replace hb3:=s6 _ _ hb3;have s36:=s35.trans s6;generalize upd H5 q6 (HO.lst ((ll::li).map V.str))=H6 at s36 h6 hb3 ⊢;walk_at "w";have ea:∀ i,i<rs.length->(ll::li).getD i Str.empty=MR.txt (fP rs ((i+rs.length - 1)%rs.length)) n:=λ i hi=>by
        rw [Na (by rw [hll];exact hi),hll, <-el,AN (λ i=>MR.txt (fP rs i) n) (Nat.mod_lt _ (by omega))]
      refine ⟨q6,rfl,⟨_,SqL.of h6⟩,λ D hD=> ?_⟩;refine B7 (G:=λ i=>MR.txt (λ e=>fP rs ((i+rs.length - 1)%rs.length) ((e+n - st)%n)) n) (A0 (SqL.of h6) rfl) hD (by simp;omega) ?_ ?_
      · intro i H7 R hj s7 kk;have hj':i<rs.length:=by rw [<-hli];simpa using hj
        rw [DM hj,ea i hj'];have hl:=MR.txt_len (fP rs ((i+rs.length - 1)%rs.length)) n;walk_at "w";rw [show ((n:Nat):Int) - ((st:Nat):Int)=((n - st:Nat):Int) by omega];refine J1 (Nat.le_trans (show _<=1000 by omega) (by decide)) ?_;walk_at "w";rw [show ((n:Nat):Int) - ((st:Nat):Int)=((n - st:Nat):Int) by omega];refine J1 (Nat.le_trans (show _<=1000 by omega) (by decide)) ?_;refine ⟨_,_,rfl,rfl,?_,?_⟩
        · have a1:=Txt.slice_le (MR.txt (fP rs ((i+rs.length - 1)%rs.length)) n) (some ((n - st:Nat):Int)) none;have a2:=Txt.slice_le (MR.txt (fP rs ((i+rs.length - 1)%rs.length)) n) none (some ((n - st:Nat):Int));exact Nat.le_trans (show _<=1000 by omega) (by decide)
        · rw [MP.turned_txt hi];exact kk H7 (Same.refl _)
      · intro H7 s7 hl7;walk_at "w";refine IM (SqL.of (s7 _ _ hb3)) (SqL.of hl7) ?_;have s17:=sH.trans (s36.trans s7);have eq:decide ((List.range rs.length).map (λ i=>MR.txt (fP rs i) n)=(List.range ((ll::li).map V.str).length).map λ i=>MR.txt (λ e=>fP rs ((i+rs.length - 1)%rs.length) ((e+n - st)%n)) n)=MP.stepQ rs n st:=by
          rw [Bool.eq_iff_iff,decide_eq_true_iff,MP.stepQ_iff,List.length_map,List.length_cons,hli];constructor
          · intro z i hi e he;have h:((List.range rs.length).map (λ i=>MR.txt (fP rs i) n)).getD i Str.empty=((List.range rs.length).map (λ i=>MR.txt (λ e=>fP rs ((i+rs.length - 1)%rs.length) ((e+n - st)%n)) n)).getD i Str.empty:=by rw [z]
            rw [AN (λ i=>MR.txt (fP rs i) n) hi,AN (λ i=>MR.txt (λ e=>fP rs ((i+rs.length - 1)%rs.length) ((e+n - st)%n)) n) hi] at h;have h2:=MP.txt_inj.mp h e he;unfold fP at h2;exact Bool.not_inj h2
          · intro z;refine List.map_congr_left λ i hi=> ?_;refine MP.txt_inj.mpr λ e he=> ?_;unfold fP;rw [z i (List.mem_range.mp hi) e he]
        rw [eq];walk_at "w";refine EO (λ hq=> ?_) (λ hq=> ?_)
        · walk_at "w";have kk:=k H7 (s1.trans s17);rw [MP.stepO_some hi hq no] at kk;exact kk
        · walk_at "w";refine ⟨_,_,rfl,s17,λ j hj=> ?_⟩;rcases Nat.lt_or_ge j st with z | z
          · exact no j z
          · have:j=st:=by omega
            subst this;exact hq
    · rintro σ H3 ⟨x,y,rfl,s3,no⟩;walk_at "w";have kk:=k H3 (s1.trans s3);rw [MP.stepO_none no] at kk;exact kk
theorem Lo {rs:List Nat} {i j:Nat}:MR.txt (fE rs i) rs.length=MR.txt (fE rs j) rs.length↔BL rs (i+1)=BL rs (j+1):=by
  rw [MP.txt_inj,G6,G6,MP.eq_bits (MM.ofB_lt _ _) (MM.ofB_lt _ _)];refine forall_congr' λ e=>forall_congr' λ he=> ?_;rw [MM.ofB_bit,MM.ofB_bit];simp [he]
theorem Lq {n:Nat} {rs:List Nat} (ok:ClOk n rs) {i j:Nat} (hi:i<rs.length) (hj:j<rs.length):MR.txt (fP rs i) n=MR.txt (fP rs j) n↔rs.getD i 0=rs.getD j 0:=by
  rw [MP.txt_inj,MP.eq_bits (ok.lt _ (L2.getD_mem hi)) (ok.lt _ (L2.getD_mem hj))];refine forall_congr' λ e=>forall_congr' λ he=> ?_;unfold fP;cases (rs.getD i 0).testBit e <;> cases (rs.getD j 0).testBit e <;> simp
theorem Ku {n:Nat} {rs:List Nat} {a:Nat} (h:MP.Least (λ i=>MR.txt (fE rs i) rs.length) n a):MP.Least (λ e=>BL rs (e+1)) n a:=h.congr λ _ _ _ _=>Lo
theorem Kt {n:Nat} {rs:List Nat} {d:Nat} (ok:ClOk n rs) (h:MP.Least (λ i=>MR.txt (fP rs i) n) rs.length d):MP.Least (λ i=>rs.getD i 0) rs.length d:=h.congr λ _ _ hi hj=>Lq ok hi hj
theorem Jy (pt:List Nat) (p a:Nat):Txt.count (MR.txt (fP pt p) a) (Str.ofString "0")=((MP.pc (pt.getD p 0) a:Nat):Int):=by
  have:=MP.count_txt (fP pt p) a false;have e:(Str.ofString "0")=⟨#[MR.sg false]⟩:=rfl;rw [e,this];unfold MP.pc fP;congr 3;funext i;cases (pt.getD p 0).testBit i <;> rfl
theorem Jl (pt:List Nat) (e d:Nat):Txt.count (MR.txt (fE pt e) d) (Str.ofString "1")=((((List.range d).filter λ p=>(pt.getD p 0).testBit e == true).length:Nat):Int):=MP.count_txt (fE pt e) d true
theorem IK (a:Nat) (x:Int):(List.replicate ((a:Nat):Int).toNat [V.int x]).flatten=(List.replicate a x).map V.int:=by
  rw [Int.toNat_natCast]
  induction a with
  | zero=>rfl
  | succ a ih=>rw [List.replicate_succ,List.flatten_cons,ih,List.replicate_succ];rfl
theorem F0 {pt:List Nat} {a c:Nat} (h:pt.length=a):(pt.map λ p=>((MP.pc p a:Nat):Int))=List.replicate a (c:Int)↔(pt.all λ p=>MP.pc p a == c)=true:=by
  rw [List.eq_replicate_iff,List.all_eq_true];simp only [List.length_map,h,true_and,List.mem_map,forall_exists_index,and_imp,forall_apply_eq_imp_iff₂,beq_iff_eq];constructor
  · intro z p hp;have:=z p hp;omega
  · intro z p hp;rw [z p hp]
theorem M0:∀ {pt:List Nat},pt.length=2->∃ x y,pt=[x,y]
  | [x,y],_=>⟨x,y,rfl⟩
def DQ:Sp:=λ vs H Q _=>∃ (n:Nat) (a:Addr) (rs:List Nat),vs=[nV n, .ref a]/\H a=some (.lst (rs.map nV))/\ClOk n rs/\∀ H' a d,Same H H'->MP.Least (λ e=>BL rs (e+1)) n a->MP.Least (λ i=>rs.getD i 0) rs.length d->Q (.str (MP.sortS a d (CG rs a d))) H'
abbrev CH:Stmt:=top 47
theorem sc__law_sort:FnScope ["_law_ends","_law_rows","_law_columns_here","_law_gaps_here","_law_across","_law_down","_law_part","_law_marks","_law_others","_law_step_here"] ["_law_ends","_law_rows"] (Aj CH):=⟨rfl,rfl,rfl,by decide +kernel,rfl,by decide +kernel,by decide +kernel⟩
theorem GU {f:Addr} {fd:FuncData} (F:Fun K "_law_sort" "_law_sort" CH f fd) (T:Txt K mg c) (c__law_columns:Ao P w K mg base "_law_columns" 1 ["_law_ends","_law_rows"] Bp) (c__law_gaps:Ao P w K mg base "_law_gaps" 1 ["_law_ends","_law_rows"] By) (c__law_least:Ao P w K mg base "_law_least" 1 ["_law_texts"] BR) (c__law_step:Ao P w K mg base "_law_step" 2 ["_law_ends","_law_rows"] Cw):FnOk P w K mg base CX0 3 f fd ["_law_ends","_law_rows"] DQ:=by
  refine F.ok sc__law_sort (λ vs H Q E h=> ?_) (λ cdv A outer s H vs Q E hr h=> ?_)
  · obtain ⟨n,a,rs,rfl,_⟩:=h;rfl
  · obtain ⟨n,a0,rs,rfl,ha,ok,k⟩:=h;have n1:=ok.n1;have n2:=ok.n2;have p1:=ok.p1;have p2:=ok.p2;have hu:=hr.units0;refine ⟨_,(Ae (NF (i:=2) (j:=3) rfl sc__law_sort.nd rfl rfl (by decide) rfl rfl (Aa (Af c__law_columns (hr.mono (by decide)) (Aa (pv 0) (Aa (pv 1) Ab))) (Aa (Af c__law_gaps (hr.mono (by decide)) (Aa (pv 0) (Aa (pv 1) Ab))) Ab)) rfl)
      (Ae (GF (Bt (Aa (Af c__law_least (hr.mono (by decide)) (Aa (pv 2) Ab)) (Aa (Af c__law_least (hr.mono (by decide)) (Aa (pv 3) Ab)) Ab))) (GK (K:=K) rfl (AZ (AE (i:=4) sc__law_sort.nd rfl (Or.inr rfl)) (AZ (AE (i:=5) sc__law_sort.nd rfl (Or.inl rfl)) DH))))
      (Ae (AR (PW.pt (CC (Ap G0 (pv 4) (pv 5) (An _)) (BX (Ap F3 (pv 4) Ac (An _))))) (Ah (Al A7)) Aw)
      (Ae (BE (i:=6) sc__law_sort.nd rfl (Or.inl rfl) (Dn (K:=K) (AK (Gg (K:=K)) (pv 1) A4 (AQ (pv 5)))) (λ _ _ _ _=>Ay) (λ _ _ _ _=>(Ad Aq (pv 0) (Ad AW Ac (pv 1)))))
      (Ae (BE (i:=7) sc__law_sort.nd rfl (Or.inl rfl) (Dn (K:=K) (Af c__law_gaps (hr.mono (by decide)) (Aa (pv 4) (Aa (pv 6) Ab)))) (λ _ _ _ _=>Ay) (λ _ _ _ _=>(FW (K:=K) PySem.F.plainAttrs_str PySem.F.slot_str_count PySem.F.type_str_count IL (pv 0) (Aa A7 Ab))))
      (Ae (AR (Ap Bb (pv 4) Ac (An _)) (Ae (BE (i:=8) sc__law_sort.nd rfl (Or.inl rfl) (Dn (K:=K) (Af c__law_columns (hr.mono (by decide)) (Aa Ac (Aa (pv 6) Ab)))) (λ _ _ _ _=>Ay) (λ _ _ _ _=>(FW (K:=K) PySem.F.plainAttrs_str PySem.F.slot_str_count PySem.F.type_str_count IL (pv 0) (Aa A7 Ab))))
      (Ah (Al (E5 (PW.pt (GQ (Ap (F7 hu (K:=K)) (pv 7) (AV (Aa Ac (Aa Ac Ab))) (An _)) (EW (Ap (F7 hu (K:=K)) (pv 8) (AV (Aa Ac (Aa Ac Ab))) (An _))))) A7 A7)))) Aw)
      (Ae (Ax (i:=9) sc__law_sort.nd rfl (Or.inl rfl) (Af c__law_step hr (Aa (pv 4) (Aa (pv 6) Ab))))
      (Ae (AR (PW.pt (CC (Ap Bb (pv 9) Ac (An _)) (BX (Ap Bb (pv 9) (Ad AY (pv 4) Ac) (An _))))) (Ah (Al A7)) Aw)
      (Ae (AR (PW.pt (CC (Ap F3 (pv 4) Ac (An _)) (CC (Ap M7 (pv 9) GE (An _)) (BX (PW.pt (GQ (Ap (Kl hu (K:=K)) (pv 7) (Ad Gj (AV (Aa Ac Ab)) (pv 4)) (An _)) (EW (Ap (Kl hu (K:=K)) (pv 7) (Ad Gj (AV (Aa (Ad AY (pv 4) Ac) Ab)) (pv 4)) (An _))))))))) (Ah (Al A7)) Aw)
      (Ah (Al (E5 (Ap O3 (pv 9) Ac (An _)) A7 A7)))))))))))),?_⟩
    walk_at "w";refine ⟨n,a0,rs,rfl,ha,n2,p2,λ H1 b1 s1 h1=> ?_⟩;walk_at "w";refine ⟨n,a0,rs,rfl,s1 _ _ ha,n2,p2,λ H2 b2 s2 h2=> ?_⟩;have s12:=s1.trans s2;walk_at "w";refine ⟨b1,fE rs,rs.length,n,rfl,s2 _ _ h1,n1,n2,λ H3 a s3 la=> ?_⟩;have la:=Ku la;walk_at "w";refine ⟨b2,fP rs,n,rs.length,rfl,s3 _ _ h2,p1,p2,λ H4 d s4 ld=> ?_⟩;have ld:=Kt ok ld;have s14:=s12.trans (s3.trans s4);walk_at "w";intro p5 hp5;refine ER (SqT.of Ag) rfl ?_;have s15:=s14.trans (Ai (o:=HO.tup [nV a,nV d]) hp5);generalize upd H4 p5 (HO.tup [nV a,nV d])=H5 at s15 ⊢;have ok1:=GG ok la ld;have a2:=ok1.n2;have hd:(CG rs a d).length=d:=by
      have:=ld.h2;unfold CG;rw [List.length_map,List.length_take];omega
    have k2:∀ H',Same H H'->Q (.str (MP.sortS a d (CG rs a d))) H':=λ H' s=>k H' a d s la ld;walk_at "w";refine Ii (λ z=> ?_) (λ z=> ?_)
    · walk_at "w";have kk:=k2 H5 s15;unfold MP.sortS at kk;rw [if_pos (.inl (by omega))] at kk;exact kk
    walk_at "w";refine Bw (λ z2=> ?_) (λ z2=> ?_)
    · walk_at "w";have kk:=k2 H5 s15;unfold MP.sortS at kk;rw [if_pos (.inr (by omega))] at kk;exact kk
    have had:a=d:=by omega
    have h2a:2<=a:=by omega
    walk_at "w";refine Er (SqL.of (s15 _ _ ha)) λ q6 hq6=> ?_;rw [E4 (by omega),Int.toNat_natCast, <-List.map_take];have s16:=s15.trans (Ai (o:=HO.lst ((rs.take d).map nV)) hq6);have h6:upd H5 q6 (HO.lst ((rs.take d).map nV)) q6=_:=Ag;generalize upd H5 q6 (HO.lst ((rs.take d).map nV))=H6 at s16 h6 ⊢;walk_at "w";refine ⟨q6,rfl,⟨_,SqL.of h6⟩,λ D7 hD7=> ?_⟩;refine AF (G:=λ i=>(((rs.take d).getD i 0%2 ^ a:Nat):Int)) (A0 (SqL.of h6) rfl) hD7 (by simp;omega) ?_ ?_
    · intro i H' R hi s kk;rw [AH hi];walk_at "w";refine Ak ⟨by omega,by omega,by decide⟩ ?_;rw [BS];refine Ak (BA a) ?_;rw [<-Int.natCast_emod];exact kk H' (Same.refl _)
    intro H7 s7 hl7;have e7:((List.range ((rs.take d).map nV).length).map λ i=>(((rs.take d).getD i 0%2 ^ a:Nat):Int)).map V.int=(CG rs a d).map nV:=by
      rw [Iq,List.length_map];unfold CG;rw [AJ (λ m=>m%2 ^ a) (rs.take d) 0]
    rw [e7] at hl7;have s17:=s16.trans s7;generalize CG rs a d=pt at ok1 hd k2 hl7;walk_at "w";refine ⟨a,D7,pt,rfl,hl7,a2,by omega,λ H8 b8 s8 h8=> ?_⟩;walk_at "w";refine ⟨b8,rfl,⟨_,SqL.of h8⟩,λ D9 hD9=> ?_⟩;refine AF (G:=λ i=>((MP.pc (pt.getD i 0) a:Nat):Int)) (A0 (SqL.of h8) rfl) hD9 (by simp;omega) ?_ ?_
    · intro i H' R hi s kk;rw [IA hi];walk_at "w";refine tyS ?_;walk_at "w";rw [Jy];exact kk H' (Same.refl _)
    intro H9 s9 hl9;have e9:(List.range (txL (fP pt) a pt.length).length).map (λ i=>((MP.pc (pt.getD i 0) a:Nat):Int))=pt.map λ p=>((MP.pc p a:Nat):Int):=by
      rw [show (txL (fP pt) a pt.length).length=pt.length by simp];exact AJ (λ p=>((MP.pc p a:Nat):Int)) pt 0
    rw [e9] at hl9;have s79:=s8.trans s9;have s19:=s17.trans s79;replace hl7:=s79 _ _ hl7;walk_at "w";refine Bw (λ z3=> ?_) (λ z3=> ?_)
    · have ha2:a=2:=by omega
      subst ha2;walk_at "w";refine ⟨2,D7,pt,rfl,hl7,by decide,by omega,λ HA bA sA hA=> ?_⟩;walk_at "w";refine ⟨bA,rfl,⟨_,SqL.of hA⟩,λ DB hDB=> ?_⟩;refine AF (G:=λ e=>((((List.range pt.length).filter λ p=>(pt.getD p 0).testBit e == true).length:Nat):Int)) (A0 (SqL.of hA) rfl) hDB (by simp) ?_ ?_
      · intro i H' R hi s kk;rw [IA hi];walk_at "w";refine tyS ?_;walk_at "w";rw [Jl];exact kk H' (Same.refl _)
      intro HB sB hlB;have sAB:=sA.trans sB;have s1B:=s19.trans sAB;replace hl9:=sAB _ _ hl9;walk_at "w";intro qC hqC;walk_at "w";have sC:=Ai (o:=HO.lst [V.int 1,V.int 1]) hqC;refine ET (bs:=[1,1]) (SqL.of (sC _ _ hl9)) (SqL.of Ag) ?_;replace hlB:=sC _ _ hlB;have s1C:=s1B.trans sC;generalize upd HB qC (HO.lst [V.int 1,V.int 1])=HC at hlB s1C ⊢;walk_at "w";obtain ⟨x,y,rfl⟩:=M0 (pt:=pt) (by omega);have key:=MP.plain_all x (ok1.lt x (by simp)) y (ok1.lt y (by simp));have fin:∀ (b:Bool) H',b=decide ([x,y]=[1,2]\/[x,y]=[2,1])->Same H H'->Q (.str (if b=true then Str.ofString "plain" else Str.ofString "other")) H':=λ b H' eb s=>by
        have kk:=k2 H' s;unfold MP.sortS at kk;rw [if_neg (by omega),if_pos rfl] at kk;rw [eb];simp only [decide_eq_true_eq];exact kk
      refine Bw (λ y1=> ?_) (λ y1=> ?_)
      · have hP:MP.pc x 2=1/\MP.pc y 2=1:=by
          simp at y1;omega
        rw [decide_eq_true hP,Bool.true_and] at key;walk_at "w";intro qD hqD;walk_at "w";have sD:=Ai (o:=HO.lst [V.int 1,V.int 1]) hqD;refine ET (bs:=[1,1]) (SqL.of (sD _ _ hlB)) (SqL.of Ag) ?_;have s1D:=s1C.trans sD;generalize upd HC qD (HO.lst [V.int 1,V.int 1])=HD at s1D ⊢;walk_at "w";refine Bw (λ y2=> ?_) (λ y2=> ?_)
        · walk_at "w";refine fin true HD ?_ s1D;rw [<-key];symm;rw [decide_eq_true_iff];have y3:[((((List.range 2).filter λ p=>([x,y].getD p 0).testBit 0 == true).length:Nat):Int),((((List.range 2).filter λ p=>([x,y].getD p 0).testBit 1 == true).length:Nat):Int)]=[1,1]:=y2;simp only [List.cons.injEq,and_true] at y3;omega
        · walk_at "w";refine fin false HD ?_ s1D;rw [<-key];symm;rw [decide_eq_false_iff_not];intro z;refine y2 ?_;show [((((List.range 2).filter λ p=>([x,y].getD p 0).testBit 0 == true).length:Nat):Int),((((List.range 2).filter λ p=>([x,y].getD p 0).testBit 1 == true).length:Nat):Int)]=[1,1];rw [z.1,z.2];rfl
      · have hP:¬ (MP.pc x 2=1/\MP.pc y 2=1):=λ z=>y1 (by simp [z.1,z.2]);rw [decide_eq_false hP,Bool.false_and] at key;walk_at "w";exact fin false HC key s1C
    · walk_at "w";refine ⟨a,D7,pt,rfl,hl7,ok1,λ HA sA=> ?_⟩;have s1A:=s19.trans sA;replace hl9:=sA _ _ hl9;have hpa:pt.length=a:=by omega
      cases ho:MP.stepO pt a with
      | none=>
        have fin:∀ H',Same H H'->Q (.str (Str.ofString "other")) H':=λ H' s=>by
          have kk:=k2 H' s;unfold MP.sortS at kk;rw [ho,if_neg (by omega),if_neg (by omega),if_neg (by simp),if_pos (.inr (.inl rfl))] at kk;exact kk
        walk_at "w";refine ⟨rfl,?_⟩;rw [decide_eq_false (by simp)];walk_at "w";refine ⟨rfl,?_⟩;rw [decide_eq_false (by simp)];walk_at "w";refine Bw (λ z5=> ?_) (λ z5=> ?_)
        · walk_at "w";exact fin HA s1A
        walk_at "w";refine ⟨rfl,?_⟩;rw [decide_eq_true rfl];walk_at "w";exact fin HA s1A
      | some st=>
        have hst:=MP.stepO_lt ho;walk_at "w";refine Bw (λ w1=> ?_) (λ w1=> ?_)
        · walk_at "w";have kk:=k2 HA s1A;unfold MP.sortS at kk;rw [ho,if_neg (by omega),if_neg (by omega),if_pos (.inl (by congr 1;omega))] at kk;exact kk
        walk_at "w";refine Bw (λ w2=> ?_) (λ w2=> ?_)
        · walk_at "w";have kk:=k2 HA s1A;unfold MP.sortS at kk;rw [ho,if_neg (by omega),if_neg (by omega),if_pos (.inr (by congr 1;omega))] at kk;exact kk
        have k3:∀ H',Same H H'->Q (.str (if a<5\/MP.lone pt a=false then Str.ofString "other" else if st=0 then Str.ofString "other" else Str.ofString "satin")) H':=λ H' s=>by
          have kk:=k2 H' s;unfold MP.sortS at kk;rw [ho,if_neg (by omega),if_neg (by omega),if_neg (by rintro (z | z) <;> injection z <;> omega)] at kk;simp only [reduceCtorEq,false_or,Option.some.injEq] at kk;exact kk
        walk_at "w";refine Bw (λ z5=> ?_) (λ z5=> ?_)
        · walk_at "w";have kk:=k3 HA s1A;rw [if_pos (.inl (by omega))] at kk;exact kk
        walk_at "w";refine ⟨rfl,?_⟩;rw [decide_eq_false (by simp)];walk_at "w";have finO:MP.lone pt a=false->∀ H',Same H H'->Q (.str (Str.ofString "other")) H':=λ hl H' s=>by
          have kk:=k3 H' s;rw [if_pos (.inr hl)] at kk;exact kk
        have finS:MP.lone pt a=true->∀ H',Same H H'->Q (.str (if decide ((1:Int)<(st:Nat))=true then Str.ofString "satin" else Str.ofString "other")) H':=λ hl H' s=>by
          have kk:=k3 H' s;rw [if_neg (by rw [hl];simp;omega)] at kk;by_cases z:st=0
          · rw [if_pos z] at kk;rw [if_neg (by simp;omega)];exact kk
          · rw [if_neg z] at kk;rw [if_pos (by simp;omega)];exact kk
        have hlone:MP.lone pt a=((pt.all λ p=>MP.pc p a == 1)||pt.all λ p=>MP.pc p a == a - 1):=rfl;have m1:=F0 (c:=1) hpa;have m2:=F0 (c:=a - 1) hpa;intro qB hqB;walk_at "w";have sB:=Ai (o:=HO.lst [V.int 1]) hqB;have hB:upd HA qB (HO.lst [V.int 1]) qB=_:=Ag;replace hl9:=sB _ _ hl9;have s1B:=s1A.trans sB;generalize upd HA qB (HO.lst [V.int 1])=HB at s1B hB hl9 ⊢;refine GB hB (by omega) (by omega) (by simp) λ qC hqC=> ?_;rw [IK];walk_at "w";have sC:=Ai (o:=HO.lst ((List.replicate a (1:Int)).map V.int)) hqC;refine Gs (SqL.of (sC _ _ hl9)) (SqL.of Ag) ?_;replace hl9:=sC _ _ hl9;have s1C:=s1B.trans sC;generalize upd HB qC (HO.lst ((List.replicate a (1:Int)).map V.int))=HC at s1C hl9 ⊢;refine ⟨_,rfl,?_⟩;refine Ii (λ v1=> ?_) (λ v1=> ?_)
        · have f1:(pt.all λ p=>MP.pc p a == 1)=false:=by
            cases hb:(pt.all λ p=>MP.pc p a == 1) with
            | false=>rfl
            | true=>exact absurd (m1.mpr hb) v1
          rw [f1,Bool.false_or] at hlone;walk_at "w";intro qD hqD;walk_at "w";rw [show ((a:Nat):Int) - 1=((a - 1:Nat):Int) by omega];have sD:=Ai (o:=HO.lst [V.int ((a - 1:Nat):Int)]) hqD;have hD:upd HC qD (HO.lst [V.int ((a - 1:Nat):Int)]) qD=_:=Ag;replace hl9:=sD _ _ hl9;have s1D:=s1C.trans sD;generalize upd HC qD (HO.lst [V.int ((a - 1:Nat):Int)])=HD at s1D hD hl9 ⊢;refine GB hD (by omega) (by omega) (by simp) λ qE hqE=> ?_;rw [IK];walk_at "w";have sE:=Ai (o:=HO.lst ((List.replicate a ((a - 1:Nat):Int)).map V.int)) hqE;refine Gs (SqL.of (sE _ _ hl9)) (SqL.of Ag) ?_;have s1E:=s1D.trans sE;generalize upd HD qE (HO.lst ((List.replicate a ((a - 1:Nat):Int)).map V.int))=HE at s1E ⊢;refine ⟨_,rfl,?_⟩;refine Ii (λ v2=> ?_) (λ v2=> ?_)
          · have f2:(pt.all λ p=>MP.pc p a == a - 1)=false:=by
              cases hb:(pt.all λ p=>MP.pc p a == a - 1) with
              | false=>rfl
              | true=>exact absurd (m2.mpr hb) v2
            walk_at "w";exact finO (hlone.trans f2) HE s1E
          · walk_at "w";have kk:=finS (hlone.trans (m2.mp v2)) HE s1E;refine EO (λ hg=> ?_) (λ hg=> ?_)
            · rw [hg] at kk;walk_at "w";exact kk
            · rw [hg] at kk;walk_at "w";exact kk
        · have f1:=m1.mp v1;rw [f1,Bool.true_or] at hlone;walk_at "w";have kk:=finS hlone HC s1C;refine EO (λ hg=> ?_) (λ hg=> ?_)
          · rw [hg] at kk;walk_at "w";exact kk
          · rw [hg] at kk;walk_at "w";exact kk
theorem JN {H:Hp} {F:Addr->Prop} {n:Nat} (o:Option Nat):Rp H F n (L3 o) (match o with | some s=>dN s | none=> .non):=by
  cases o with
  | none=>exact .non
  | some s=>exact .int _
def Dm (c:Cs):Sp:=λ vs H Q _=>∃ (x:Addr) (n:Nat) (a:Addr) (rs:List Nat),vs=[.ref x,nV n, .ref a]/\ClAt c.Cloth H x n rs/\H a=some (.lst (rs.map nV))/\ClOk n rs/\∀ H',Same H H'->Q (.bl true) H'
abbrev Cq:Stmt:=top 48
theorem sc__law_right:FnScope ["_law_weave_here","_law_ends","_law_rows","_law_due"] ["_law_weave_here","_law_ends","_law_rows"] (Aj Cq):=⟨rfl,rfl,rfl,by decide +kernel,rfl,by decide +kernel,by decide +kernel⟩
theorem FA {f:Addr} {fd:FuncData} (F:Fun K "_law_right" "_law_right" Cq f fd) (T:Txt K mg c) (c__law_columns:Ao P w K mg base "_law_columns" 1 ["_law_ends","_law_rows"] Bp) (c__law_gaps:Ao P w K mg base "_law_gaps" 1 ["_law_ends","_law_rows"] By) (c__law_least:Ao P w K mg base "_law_least" 1 ["_law_texts"] BR) (c__law_step:Ao P w K mg base "_law_step" 2 ["_law_ends","_law_rows"] Cw) (c__law_sort:Ao P w K mg base "_law_sort" 3 ["_law_ends","_law_rows"] DQ) (c__law_alike:Ao P w K mg base "_law_alike" (3+1) ["_law_found","_law_due"] (Bo 3)) (c_least_repeat:Ao P w K mg base "least_repeat" 5 ["cloth"] (Bs c)) (c_step_of:Ao P w K mg base "step_of" 4 ["cloth"] (Cu c)) (c_sort_of:Ao P w K mg base "sort_of" 7 ["cloth"] (Fq c)):FnOk P w K mg base CX0 8 f fd ["_law_weave_here","_law_ends","_law_rows"] (Dm c):=by
  refine F.ok sc__law_right (λ vs H Q E h=> ?_) (λ cdv A outer s H vs Q E hr h=> ?_)
  · obtain ⟨x,n,a,rs,rfl,_⟩:=h;rfl
  · obtain ⟨x,n,b0,rs,rfl,C0,ha,ok,k⟩:=h;have n1:=ok.n1;have n2:=ok.n2;have p1:=ok.p1;have p2:=ok.p2;refine ⟨_,(Ae (Ax (i:=3) sc__law_right.nd rfl (Or.inl rfl) (Bt (Aa (Af c__law_least (hr.mono (by decide)) (Aa (Af c__law_columns (hr.mono (by decide)) (Aa (pv 1) (Aa (pv 2) Ab))) Ab)) (Aa (Af c__law_least (hr.mono (by decide)) (Aa (Af c__law_gaps (hr.mono (by decide)) (Aa (pv 1) (Aa (pv 2) Ab))) Ab)) Ab))))
      (Ae (AR (PW.pt (CC (BY (AT (Af c__law_alike (hr.mono (by decide)) (Aa (Af c_least_repeat (hr.mono (by decide)) (Aa (pv 0) Ab)) (Aa (pv 3) Ab))))) (BX (BY (AT (Af c__law_alike (hr.mono (by decide)) (Aa (Af c_step_of (hr.mono (by decide)) (Aa (pv 0) Ab)) (Aa (Af c__law_step (hr.mono (by decide)) (Aa (pv 1) (Aa (pv 2) Ab))) Ab)))))))) (Ah (Al IZ)) Aw)
      (Ah (Al (AL Bb (Af c_sort_of hr (Aa (pv 0) Ab)) (Af c__law_sort (hr.mono (by decide)) (Aa (pv 1) (Aa (pv 2) Ab))) (An _)))))),?_⟩
    walk_at "w";refine ⟨n,b0,rs,rfl,ha,n2,p2,λ H1 b1 s1 h1=> ?_⟩;walk_at "w";refine ⟨b1,fE rs,rs.length,n,rfl,h1,n1,n2,λ H2 a s2 la=> ?_⟩;have la:=Ku la;have s02:=s1.trans s2;walk_at "w";refine ⟨n,b0,rs,rfl,s02 _ _ ha,n2,p2,λ H3 b2 s3 h2=> ?_⟩;walk_at "w";refine ⟨b2,fP rs,n,rs.length,rfl,h2,p1,p2,λ H4 d s4 ld=> ?_⟩;have ld:=Kt ok ld;have s04:=s02.trans (s3.trans s4);walk_at "w";intro p5 hp5;have s5:=Ai (o:=HO.tup [nV a,nV d]) hp5;have h5:upd H4 p5 (HO.tup [nV a,nV d]) p5=_:=Ag;have s05:=s04.trans s5;generalize upd H4 p5 (HO.tup [nV a,nV d])=H5 at s05 h5 ⊢;walk_at "w";refine ⟨x,n,rs,rfl,C0.same s05,ok,λ H6 t a' d' s6 h6 la' ld'=> ?_⟩;rw [<-la.uniq la', <-ld.uniq ld'] at h6;walk_at "w";refine ⟨_,_,dT [a,d],rfl,Li (ns:=[a,d]) h6 (by show 2<=100000;decide),Li (ns:=[a,d]) (s6 _ _ h5) (by show 2<=100000;decide),λ H7 s7=> ?_⟩;have s07:=s05.trans (s6.trans s7);walk_at "w";refine ⟨x,n,rs,rfl,C0.same s07,ok,λ H8 s8=> ?_⟩;have s08:=s07.trans s8;walk_at "w";refine ⟨n,b0,rs,rfl,s08 _ _ ha,ok,λ H9 s9=> ?_⟩;have s09:=s08.trans s9;walk_at "w";refine ⟨_,_,_,rfl,JN _,JN _,λ HA sA=> ?_⟩;have s0A:=s09.trans sA;walk_at "w";refine ⟨x,n,rs,rfl,C0.same s0A,ok,λ HB a2 d2 sB lb lc=> ?_⟩;have s0B:=s0A.trans sB;walk_at "w";refine ⟨n,b0,rs,rfl,s0B _ _ ha,ok,λ HC a3 d3 sC le lf=> ?_⟩;rw [lb.uniq le,lc.uniq lf];walk_at "w";rw [decide_eq_true rfl];exact k HC (s0B.trans sC)
abbrev Ke:Stmt:=top 49
theorem sc_law:FnScope ["_law_script","_law_ends","_law_rows","_law_other","_law_weaves"] ["_law_script"] (Aj Ke):=⟨rfl,rfl,rfl,by decide +kernel,rfl,by decide +kernel,by decide +kernel⟩
theorem Nj {f:Addr} {fd:FuncData} (F:Fun K "law" "law" Ke f fd) (T:Txt K mg c) (c__law_weave:Ao P w K mg base "_law_weave" 3 ["_law_script","_law_most"] (Dd K)) (c__law_right:Ao P w K mg base "_law_right" 8 ["_law_weave_here","_law_ends","_law_rows"] (Dm c)) (m_Cloth:IW P w K mg base "Cloth" c.Cloth 4 ["self","ends","rows"] (AO c)):FnOk P w K mg base CX0 9 f fd ["_law_script"] (IE K):=by
  refine F.ok sc_law (λ vs H Q E h=> ?_) (λ cdv A outer s H vs Q E hr h=> ?_)
  · obtain ⟨a,ns,rfl,_⟩:=h;rfl
  · obtain ⟨a,ns,rfl,sa,hl,k⟩:=h;refine ⟨_,(Ae (GF (Af c__law_weave (hr.mono (by decide)) (Aa (pv 0) (Aa Ac Ab))) (GK (K:=K) rfl (AZ (AE (i:=1) sc_law.nd rfl (Or.inl rfl)) (AZ (AE (i:=2) sc_law.nd rfl (Or.inl rfl)) DH))))
      (Ae (Ax (i:=3) sc_law.nd rfl (Or.inl rfl) (Af c__law_weave (hr.mono (by decide)) (Aa (Nu (K:=K) (pv 0) (FZ Ea Ac)) (Aa Ac Ab))))
      (Ae (Ax (i:=4) sc_law.nd rfl (Or.inl rfl) (AV (Aa (Fo m_Cloth (hr.mono (by decide)) (Aa (pv 1) (Aa (BB (JX (K:=K)) rfl (T.own _ (by decide)) A8 (Aa (pv 2) Ab)) Ab))) (Aa (Fo m_Cloth (hr.mono (by decide)) (Aa (A9 (Fg (K:=K)) (pv 3) Ac (λ _ _=>rfl)) (Aa (BB (JX (K:=K)) rfl (T.own _ (by decide)) A8 (Aa (A9 (Fg (K:=K)) (pv 3) Ac (λ _ _=>rfl)) Ab)) Ab))) Ab))))
      (Ae (AR (PW.pt (CC (BY (AT (Af c__law_right hr (Aa (A9 (B3 (K:=K)) (pv 4) Ac (λ _ _=>rfl)) (Aa (pv 1) (Aa (pv 2) Ab)))))) (BX (BY (AT (Af c__law_right hr (Aa (A9 (B3 (K:=K)) (pv 4) Ac (λ _ _=>rfl)) (Aa (A9 (Fg (K:=K)) (pv 3) Ac (λ _ _=>rfl)) (Aa (A9 (Fg (K:=K)) (pv 3) Ac (λ _ _=>rfl)) Ab))))))))) (Ah (Al IZ)) Aw)
      (Ah (Al (Af c__law_right hr (Aa (A9 (B3 (K:=K)) (pv 4) Ac (λ _ _=>rfl)) (Aa (pv 1) (Aa (pv 2) Ab)))))))))),?_⟩
    walk_at "w";refine ⟨a,ns,60,rfl,sa,hl,by decide,by decide,λ H1 p1 l1 n1 r1 s1 _ _ hp1 hl1 c1=> ?_⟩;walk_at "w";refine ER (SqT.of hp1) rfl ?_;walk_at "w";refine N7 (s1.seq sa) λ q hq=> ?_;rw [<-List.map_reverse];have s2:=Ai (o:=HO.lst (ns.reverse.map V.int)) hq;have h2:upd H1 q (HO.lst (ns.reverse.map V.int)) q=_:=Ag;have s02:=s1.trans s2;replace hl1:=s2 _ _ hl1;generalize upd H1 q (HO.lst (ns.reverse.map V.int))=H2 at s02 h2 hl1 ⊢;walk_at "w";refine ⟨q,ns.reverse,12,rfl,SqL.of h2,by simpa using hl,by decide,by decide,λ H3 p3 l3 n3 r3 s3 _ _ hp3 hl3 c3=> ?_⟩;replace hl1:=s3 _ _ hl1;walk_at "w";refine F8 (SqL.of hl1) λ q4 hq4=> ?_;have s4:=Ai (o:=HO.lst (r1.map nV)) hq4;have h4:upd H3 q4 (HO.lst (r1.map nV)) q4=_:=Ag;replace hl1:=s4 _ _ hl1;replace hl3:=s4 _ _ hl3;replace hp3:=s4 _ _ hp3;generalize upd H3 q4 (HO.lst (r1.map nV))=H4 at s4 h4 hl1 hl3 hp3 ⊢;walk_at "w";refine KL h4 c1.ok λ H5 x5 s5 _ C5=> ?_;replace hl1:=s5 _ _ hl1;replace hl3:=s5 _ _ hl3;replace hp3:=s5 _ _ hp3;walk_at "w";refine Do (v:=nV n3) (SqT.of hp3) (A6 (j:=0) rfl) ?_;walk_at "w";refine Do (v:= .ref l3) (SqT.of hp3) (A6 (j:=1) rfl) ?_;walk_at "w";refine F8 (SqL.of hl3) λ q6 hq6=> ?_;have s6:=Ai (o:=HO.lst (r3.map nV)) hq6;have h6:upd H5 q6 (HO.lst (r3.map nV)) q6=_:=Ag;replace hl1:=s6 _ _ hl1;replace hl3:=s6 _ _ hl3;replace hp3:=s6 _ _ hp3;replace C5:=C5.same s6;generalize upd H5 q6 (HO.lst (r3.map nV))=H6 at s6 h6 hl1 hl3 hp3 C5 ⊢;walk_at "w";refine KL h6 c3.ok λ H7 x7 s7 _ C7=> ?_;replace hl1:=s7 _ _ hl1;replace hl3:=s7 _ _ hl3;replace hp3:=s7 _ _ hp3;replace C5:=C5.same s7;walk_at "w";intro q8 hq8;walk_at "w";have s8:=Ai (o:=HO.lst [V.ref x5,V.ref x7]) hq8;have h8:upd H7 q8 (HO.lst [V.ref x5,V.ref x7]) q8=some (HO.lst [V.ref x5,V.ref x7]):=Ag;replace hl1:=s8 _ _ hl1;replace hl3:=s8 _ _ hl3;replace hp3:=s8 _ _ hp3;replace C5:=C5.same s8;replace C7:=C7.same s8;generalize upd H7 q8 (HO.lst [V.ref x5,V.ref x7])=H8 at h8 hl1 hl3 hp3 C5 C7 ⊢;refine Bk (v:= .ref x5) (SqL.of h8) (A6 (j:=0) rfl) ?_;walk_at "w";refine ⟨x5,n1,l1,r1,rfl,C5,hl1,c1.ok,λ H9 s9=> ?_⟩;replace hl1:=s9 _ _ hl1;replace hl3:=s9 _ _ hl3;replace hp3:=s9 _ _ hp3;replace h8:=s9 _ _ h8;replace C5:=C5.same s9;replace C7:=C7.same s9;walk_at "w";refine Bk (v:= .ref x7) (SqL.of h8) (A6 (j:=1) rfl) ?_;walk_at "w";refine Do (v:=nV n3) (SqT.of hp3) (A6 (j:=0) rfl) ?_;walk_at "w";refine Do (v:= .ref l3) (SqT.of hp3) (A6 (j:=1) rfl) ?_;walk_at "w";refine ⟨x7,n3,l3,r3,rfl,C7,hl3,c3.ok,λ HA sA=> ?_⟩;walk_at "w";refine Bk (v:= .ref x5) (SqL.of (sA _ _ h8)) (A6 (j:=0) rfl) ?_;walk_at "w";exact ⟨x5,n1,l1,r1,rfl,C5.same sA,sA _ _ hl1,c1.ok,λ HB sB=>k HB⟩
end
end K20
namespace K20
open PySem L2 PySem.Spec PyProof.Rows
theorem all_mk {l:PySem.W.OpenLaw} {w:World} {K:PySem.W.Frag} {h:Heap} {mg:Str->Option Value} {fa:Addr} (X:K.In h) (G:h.Ns mainGlobals mg) (hfa:mg "law"=some (.ref fa))
    {C_Cloth f0 f1 f2 f3 f4 f5 f6 f7 f8 f9 f10 f11 f12 f13 f14 f15 f16 f17 f18 f19 f20 f21 f22 f23 f24 f25 f26 f27 f28 f29 f30 f31 f32 f33 f34 f35 f36 f37 f38:Addr} {d0 d1 d2 d3 d4 d5 d6 d7 d8 d9 d10 d11 d12 d13 d14 d15 d16 d17 d18 d19 d20 d21 d22 d23 d24 d25 d26 d27 d28 d29 d30 d31 d32 d33 d34 d35 d36 d37 d38:FuncData}
    (T0:Txt K mg ⟨C_Cloth⟩)
    (D0:DefAt K mg "bit_of" Fi ["number"] f0 d0)
    (D1:DefAt K mg "mask_of" Ed ["numbers"] f1 d1)
    (D2:DefAt K mg "mask_to" Ei ["most"] f2 d2)
    (D3:DefAt K mg "has_number" Cd ["mask","number"] f3 d3)
    (D4:DefAt K mg "numbers_of" Cj ["mask"] f4 d4)
    (D5:DefAt K mg "is_whole" DE ["thing"] f5 d5)
    (D6:DefAt K mg "is_among" Ds ["thing","least","most"] f6 d6)
    (D7:DefAt K mg "need_cloth" Co ["ends","rows"] f7 d7)
    (j8:Mk K C_Cloth f8)
    (D8:FnA K "__init__" "Cloth.__init__" Bl ["self","ends","rows"] f8 d8)
    (j9:Meth K C_Cloth "ends" f9)
    (D9:FnA K "ends" "Cloth.ends" Ct ["self"] f9 d9)
    (j10:Meth K C_Cloth "picks" f10)
    (D10:FnA K "picks" "Cloth.picks" BV ["self"] f10 d10)
    (j11:Meth K C_Cloth "column_at" f11)
    (D11:FnA K "column_at" "Cloth.column_at" Bd ["self","end"] f11 d11)
    (D12:DefAt K mg "columns_of" CA ["cloth"] f12 d12)
    (D13:DefAt K mg "least_told_over" Bc ["masks"] f13 d13)
    (D14:DefAt K mg "least_repeat" BM ["cloth"] f14 d14)
    (D15:DefAt K mg "turned_right" BI ["row","ends","step"] f15 d15)
    (D16:DefAt K mg "is_step" DY ["cloth","step"] f16 d16)
    (D17:DefAt K mg "step_of" Ee ["cloth"] f17 d17)
    (D18:DefAt K mg "repeat_cloth" BH ["cloth"] f18 d18)
    (D19:DefAt K mg "is_plain" DD ["repeat"] f19 d19)
    (D20:DefAt K mg "is_twill" Dw ["repeat"] f20 d20)
    (D21:DefAt K mg "has_lone_ends" Br ["repeat"] f21 d21)
    (D22:DefAt K mg "is_satin" DA ["repeat"] f22 d22)
    (D23:DefAt K mg "sort_of" Es ["cloth"] f23 d23)
    (D24:DefAt K mg "_law_alike" Bz ["_law_found","_law_due"] f24 d24)
    (D25:DefAt K mg "_law_mixed" Ci ["_law_cell","_law_k"] f25 d25)
    (D26:DefAt K mg "_law_cell_at" BN ["_law_script","_law_k"] f26 d26)
    (D27:DefAt K mg "_law_turned" BZ ["_law_mask","_law_steps_here","_law_size"] f27 d27)
    (D28:DefAt K mg "_law_told_over" Bi ["_law_script","_law_number","_law_most"] f28 d28)
    (D29:DefAt K mg "_law_laid" CZ ["_law_script","_law_number","_law_ends","_law_picks"] f29 d29)
    (D30:DefAt K mg "_law_steps" Cz ["_law_number","_law_ends","_law_most"] f30 d30)
    (D31:DefAt K mg "_law_weave" Cp ["_law_script","_law_most"] f31 d31)
    (D32:DefAt K mg "_law_columns" BC ["_law_ends","_law_rows"] f32 d32)
    (D33:DefAt K mg "_law_gaps" CI ["_law_ends","_law_rows"] f33 d33)
    (D34:DefAt K mg "_law_least" Cg ["_law_texts"] f34 d34)
    (D35:DefAt K mg "_law_step" CU ["_law_ends","_law_rows"] f35 d35)
    (D36:DefAt K mg "_law_sort" CH ["_law_ends","_law_rows"] f36 d36)
    (D37:DefAt K mg "_law_right" Cq ["_law_weave_here","_law_ends","_law_rows"] f37 d37)
    (D38:DefAt K mg "law" Ke ["_law_script"] f38 d38)
    (hlb:∀ (s:Shared) (u:Value),BindsTo s d38 ⟨[u],[]⟩ [("_law_script",u)])
    : ∃ fd:FuncData,(∀ (s:Shared) (v:Value),BindsTo s fd ⟨[v],[]⟩ [("_law_script",v)])/\∀ base:Heap,K.In base->base.Ns mainGlobals mg->FnOk l.prog w K mg base CX0 9 fa fd ["_law_script"] (IE K):=by
  cases hfa.symm.trans D38.at';have T:=T0;exact ⟨_,hlb,λ base _ _=>by
    have c_bit_of:=D0.call (JL (P:=l.prog) (w:=w) (base:=base) D0.fn T);have c_mask_of:=D1.call (HH (P:=l.prog) (w:=w) (base:=base) D1.fn T c_bit_of);have c_mask_to:=D2.call (HW (P:=l.prog) (w:=w) (base:=base) D2.fn T);have c_has_number:=D3.call (FF (P:=l.prog) (w:=w) (base:=base) D3.fn T c_bit_of);have c_numbers_of:=D4.call (FK (P:=l.prog) (w:=w) (base:=base) D4.fn T c_has_number);have c_is_whole:=D5.call (G7 (P:=l.prog) (w:=w) (base:=base) D5.fn T);have c_is_among:=D6.call (G8 (P:=l.prog) (w:=w) (base:=base) D6.fn T c_is_whole);have c_need_cloth:=D7.call (FU (P:=l.prog) (w:=w) (base:=base) D7.fn T c_is_among c_mask_to);have m_Cloth:IW l.prog w K mg base "Cloth" C_Cloth 4 ["self","ends","rows"] _:=⟨_,_,T.g_Cloth,j8,DS (P:=l.prog) (w:=w) (base:=base) D8.fn T c_need_cloth,D8.bi⟩;have d_Cloth_ends:BK l.prog w K mg base C_Cloth "ends" 1 ["self"] _:=⟨_,_,T.kd_Cloth.cl,j9,FQ (P:=l.prog) (w:=w) (base:=base) D9.fn T,D9.bi⟩;have d_Cloth_picks:BK l.prog w K mg base C_Cloth "picks" 1 ["self"] _:=⟨_,_,T.kd_Cloth.cl,j10,E9 (P:=l.prog) (w:=w) (base:=base) D10.fn T,D10.bi⟩;have d_Cloth_column_at:BK l.prog w K mg base C_Cloth "column_at" 3 ["self","end"] _:=⟨_,_,T.kd_Cloth.cl,j11,Dx (P:=l.prog) (w:=w) (base:=base) D11.fn T c_mask_of c_has_number,D11.bi⟩;have c_columns_of:=D12.call (Fz (P:=l.prog) (w:=w) (base:=base) D12.fn T d_Cloth_column_at d_Cloth_ends);have c_least_told_over:=D13.call (Dz (P:=l.prog) (w:=w) (base:=base) D13.fn T);have c_least_repeat:=D14.call (EK (P:=l.prog) (w:=w) (base:=base) D14.fn T c_columns_of c_least_told_over);have c_turned_right:=D15.call (EI (P:=l.prog) (w:=w) (base:=base) D15.fn T c_mask_to);have c_is_step:=D16.call (HY (P:=l.prog) (w:=w) (base:=base) D16.fn T d_Cloth_ends c_turned_right);have c_step_of:=D17.call (Ib (P:=l.prog) (w:=w) (base:=base) D17.fn T d_Cloth_ends c_is_step);have c_repeat_cloth:=D18.call (EN (P:=l.prog) (w:=w) (base:=base) D18.fn T c_least_repeat c_mask_to m_Cloth);have c_is_plain:=D19.call (Hq (P:=l.prog) (w:=w) (base:=base) D19.fn T d_Cloth_ends);have c_is_twill:=D20.call (Hy (P:=l.prog) (w:=w) (base:=base) D20.fn T d_Cloth_ends d_Cloth_picks c_step_of);have c_has_lone_ends:=D21.call (Eb (P:=l.prog) (w:=w) (base:=base) D21.fn T d_Cloth_ends c_numbers_of);have c_is_satin:=D22.call (Hr (P:=l.prog) (w:=w) (base:=base) D22.fn T d_Cloth_ends d_Cloth_picks c_has_lone_ends c_step_of);have c_sort_of:=D23.call (HJ (P:=l.prog) (w:=w) (base:=base) D23.fn T c_repeat_cloth c_is_plain c_is_twill c_is_satin);have c__law_mixed:=D25.call (FG (P:=l.prog) (w:=w) (base:=base) D25.fn T);have c__law_cell_at:=D26.call (EM (P:=l.prog) (w:=w) (base:=base) D26.fn T);have c__law_turned:=D27.call (E3 (P:=l.prog) (w:=w) (base:=base) D27.fn T);have c__law_told_over:=D28.call (DK (P:=l.prog) (w:=w) (base:=base) D28.fn T c__law_mixed c__law_cell_at);have c__law_laid:=D29.call (GO (P:=l.prog) (w:=w) (base:=base) D29.fn T c__law_mixed c__law_cell_at);have c__law_steps:=D30.call (FD (P:=l.prog) (w:=w) (base:=base) D30.fn T c__law_turned);have c__law_weave:=D31.call (FI (P:=l.prog) (w:=w) (base:=base) D31.fn T c__law_mixed c__law_cell_at c__law_told_over c__law_laid c__law_steps);have c__law_columns:=D32.call (EG (P:=l.prog) (w:=w) (base:=base) D32.fn T);have c__law_gaps:=D33.call (GX (P:=l.prog) (w:=w) (base:=base) D33.fn T);have c__law_least:=D34.call (FS (P:=l.prog) (w:=w) (base:=base) D34.fn T);have c__law_step:=D35.call (Gk (P:=l.prog) (w:=w) (base:=base) D35.fn T c__law_gaps);have c__law_sort:=D36.call (GU (P:=l.prog) (w:=w) (base:=base) D36.fn T c__law_columns c__law_gaps c__law_least c__law_step);have c__law_right:=D37.call (FA (P:=l.prog) (w:=w) (base:=base) D37.fn T c__law_columns c__law_gaps c__law_least c__law_step c__law_sort (D24.call (Df (P:=l.prog) (w:=w) (base:=base) D24 T 3)) c_least_repeat c_step_of c_sort_of);exact Nj D38.fn T c__law_weave c__law_right m_Cloth
    ⟩
theorem walk {l:PySem.W.OpenLaw} {q:Program} {loose:List Str} {XP:(Str->Option Value)->Heap->Prop} {YP:World->Heap->Prop} {d:DefRec} {K:Params->PySem.W.Frag} (hn:l.most=some 63) (hdf:d.params.defaults=[])
    (hY:∀ (w:World) (h:Heap),YP w h->(K w.params).In h)
    (F:∀ (w:World) (mg:Str->Option Value) (fa:Addr) (h:Heap),(K w.params).In h->h.Ns mainGlobals mg->mg d.name=some (.ref fa)->
      ∃ fd:FuncData,(∀ (s:Shared) (v:Value),BindsTo s fd ⟨[v],[]⟩ [("_law_script",v)])/\∀ base:Heap,(K w.params).In base->base.Ns mainGlobals mg->FnOk l.prog w (K w.params) mg base CX0 9 fa fd ["_law_script"] (IE (K w.params))):
    PySem.W.WalkO q loose XP YP l.row.toRowW d [] (λ f vs=>PySem.call f vs):=
  L2.walk_of (n:=63) (k:=9) (x:="_law_script") (CX:=λ _=>CX0) (sp:=λ w=>IE (K w.params)) hn (by decide) hdf ⟨rfl,by decide,by decide⟩ hY F (λ _ _ a ns hl _ hS=>⟨a,ns,rfl,hS,hl,λ _=>rfl⟩) λ _ _ _ _ _ z=>z
end K20
open PySem PySem.W PyProof.Rows
set_option maxRecDepth 100000 in
set_option maxHeartbeats 0 in
theorem PySem.Challenge.cw_loomwright_k20_repeats_and_sorts_holds : PySem.Challenge.rw_loomwright_k20_repeats_and_sorts.Holds := by
  w_on
  refine PySem.W.holds_law K20.wsaid λ said=> ?_;refine PySem.W.holds_open (q:=K20.view) (loose:=[]) (Xt:=K20.Xt) (XP:=PySem.W.XL K20.view []) (Yf:=(PySem.W.kHook K20.frag K20.addrs K20.addrs_eq).obs) (Ya:=(PySem.W.kHook K20.frag K20.addrs K20.addrs_eq).val) (YP:=(PySem.W.kHook K20.frag K20.addrs K20.addrs_eq).says) (N:=K20.fuel) K20.left (PySem.W.kHook K20.frag K20.addrs K20.addrs_eq).of (PySem.W.kHook K20.frag K20.addrs K20.addrs_eq).keeps (λ s e=>PySem.W.xl_of s (Bool.and_eq_true_iff.mp e).1) PySem.W.XL.keeps (by rfl) (by rfl) (by rfl) (λ s e=>PySem.W.recFacts_of (Bool.and_eq_true_iff.mp e).2) (by rfl) (by first | assumption | decide +kernel) (by first | k_qdec | decide +kernel) ⟨rfl,rfl,rfl,rfl,rfl,by decide +kernel⟩ ?hw ?hc
  (case hw=>w_witness2)
  k_fill
  refine K20.walk (l:=PySem.Challenge.rw_loomwright_k20_repeats_and_sorts) rfl rfl (λ w h Y=>PySem.W.kIn_of Y) ?F
  case F=>
    intro w mg fa h KX G hmg;refine' K20.all_mk KX G hmg ?T ?_ ?_ ?_ ?_ ?_ ?_ ?_ ?_ ?_ ?_ ?_ ?_ ?_ ?_ ?_ ?_ ?_ ?_ ?_ ?_ ?_ ?_ ?_ ?_ ?_ ?_ ?_ ?_ ?_ ?_ ?_ ?_ ?_ ?_ ?_ ?_ ?_ ?_ ?_ ?_ ?_ ?_ ?_ ?_
    case T=>
      intros
      constructor
      all_goals try dsimp only
      all_goals try ((with_reducible refine' PySem.W.mg_of KX G ?_);k_is)
      all_goals first
        | ((with_reducible refine' L2.own_cons (PySem.W.mg_none_of KX G ?_) ?_) <;> (repeat' first | (with_reducible exact L2.own_nil) | (with_reducible refine' L2.own_cons (PySem.W.mg_none_of KX G ?_) ?_) | k_is))
        | ((with_reducible first | refine' L2.ci_mk (PySem.W.mg_of KX G ?_) | refine' L2.cs_mk (PySem.W.mg_of KX G ?_)) <;> first | k_is | skip)
        | with_reducible assumption
        | (refine' ⟨⟨?_,?_,?_,?_⟩,?_,?_,?_,?_⟩ <;> k_is)
        | ((with_reducible refine' L2.exc_mk ?_ ?_ ?_ ?_ ?_ ?_ ?_ ?_) <;> k_is)
        | (refine' ⟨?_,?_,?_⟩ <;> first | k_is | kernel_rfl)
        | (unfold L2.NoAttr;k_is)
        | k_is | k_exc | kts_exm | kit_is
    all_goals first
      | (refine' L2.def_mk (PySem.W.mg_of KX G ?_) (L2.fun_mk ?_ ?_ ?_) ?_ <;> first | k_is | exact L2.arg1 λ _=>rfl | exact L2.arg2 λ _ _=>rfl | exact L2.arg3 λ _ _ _=>rfl | exact L2.arg4 λ _ _ _ _=>rfl | exact L2.arg5 λ _ _ _ _ _=>rfl | exact L2.arg6 λ _ _ _ _ _ _=>rfl | exact L2.arg7 λ _ _ _ _ _ _ _=>rfl | exact L2.arg8 λ _ _ _ _ _ _ _ _=>rfl | exact L2.arg9 λ _ _ _ _ _ _ _ _ _=>rfl | skip)
      | (refine' L2.fnA_mk (L2.fun_mk ?_ ?_ ?_) ?_ <;> first | k_is | exact L2.arg1 λ _=>rfl | exact L2.arg2 λ _ _=>rfl | exact L2.arg3 λ _ _ _=>rfl | exact L2.arg4 λ _ _ _ _=>rfl | exact L2.arg5 λ _ _ _ _ _=>rfl | exact L2.arg6 λ _ _ _ _ _ _=>rfl | exact L2.arg7 λ _ _ _ _ _ _ _=>rfl | exact L2.arg8 λ _ _ _ _ _ _ _ _=>rfl | exact L2.arg9 λ _ _ _ _ _ _ _ _ _=>rfl | skip)
      | (refine' ⟨?_,?_,?_,?_⟩;all_goals first | k_is | kernel_rfl | skip)
      | (refine' ⟨?_,?_,?_⟩;all_goals first | k_is | kernel_rfl | skip)
      | k_is
      | exact λ s u=> .of_eq rfl
      | rfl | kernel_rfl | exact List.mem_cons_self | decide | skip
