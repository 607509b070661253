import PyProof.Rows.All
import Wide.All
import OpenK.AllK
import Wide.FinOn
import Lean
import PyProof.EqAt
import PyProof.EqKinds
import PyProof.TupleCall
import KE.KIntText
import PyProof.EnumFor
import PyProof.EnumMake
import PyProof.ZipIter
import PyProof.LayNew
import KE.KTurns
import PyProof.Rows.Range3
import KE.KRevSl
import KE.KDictList
import PyProof.Draws
import PyProof.Rows.RuleM_int
import PyProof.Rows.BitMore
import PyProof.NeKinds
import KE.KRevIter
import PyProof.JoinWalk
import KE.KDictSum
import KE.KSortTup
import KE.KTryMore
import PyProof.ExcArgs
import OpenK.KOwn
import PyProof.ExcBaseAll.ValueError
import KE.KLam
import KE.KNestM
import PyProof.AttrMissHeap
import KE.KDictOf
import PySem.Challenge.RW_loomwright_k22_lifted_and_hanging
set_option Elab.async false
set_option linter.all false
set_option maxRecDepth 100000
set_option genSizeOf false
set_option bootstrap.genMatcherCode false
set_option compiler.extract_closed false
set_option maxHeartbeats 4000000
noncomputable section
namespace L2
open PySem
def AS (s:Stmt) (j:Nat):Stmt:=match s with
  | .ClassDef _ _ _ body _ _ _ _ _ _ _=>body.getD j (.Pass ⟨0,0,0,0⟩)
  | _=> .Pass ⟨0,0,0,0⟩
def EV (s:Stmt):Arguments:=match s with
  | .FunctionDef _ a _ _ _ _ _ _ _ _=>a
  | _=>{ posonlyargs:=[],args:=[],vararg:=none,kwonlyargs:=[],kw_defaults:=[],kwarg:=none,defaults:=[] }
def DV (s:Stmt):List Stmt:=match s with
  | .FunctionDef _ _ b _ _ _ _ _ _ _=>b
  | _=>[]
def Aj (s:Stmt):Scope:=match s with
  | .FunctionDef _ _ _ _ _ _ sc _ _ _=>sc
  | _=>{ kind:= .function,names:=[],isGenerator:=false,isCoroutine:=false }
end L2
namespace K22
open PySem
def top (i:Nat):Stmt:=PySem.Challenge.pw_loomwright_k22_lifted_and_hanging.main.body.getD i (.Pass ⟨0,0,0,0⟩)
end K22
namespace HX
open PySem PySem.W PySem.Calls PyProof.Rows
def topT (tb:String->Option Builtin) (p:Program) (w:World) (n₀:Nat) (ann:Option Value):Nat->SharedT->Thread->Option SharedT
  | 0,_,_=>none
  | n+1,s,t=>match through t with
    | true=>some s
    | false=>match stepOk n₀ ann t with
      | false=>none
      | true=>match stepT (denote tb) p w s t with
        | some (s',t')=>topT tb p w n₀ ann n s' t'
        | none=>none
theorem topT_of {tb:String->Option Builtin} {p:Program} {w:World} {n₀:Nat} {ann:Option Value}:∀ {n:Nat} {s s':SharedT} {t:Thread},topT tb p w n₀ ann n s t=some s'->topRun tb p w n₀ ann n s.abs t=some s'.abs
  | 0,_,_,_,h=>by cases h
  | n+1,s,s',t,h=>by
    unfold topT at h;unfold topRun;cases ht:through t with
    | true=>rw [ht] at h;cases h;rfl
    | false=>
      rw [ht] at h;cases hk:stepOk n₀ ann t with
      | false=>rw [hk] at h;cases h
      | true=>
        rw [hk] at h;cases hs:stepT (denote tb) p w s t with
        | none=>rw [hs] at h;cases h
        | some x=>
          obtain ⟨s2,t2⟩:=x;rw [hs] at h;dsimp only;rw [stepT_spec hs];exact topT_of h
def ofL:List Obj->Nat->BT->BT
  | [],_,t=>t
  | o::r,i,t=>ofL r (i+1) (t.ins i o)
def bootT (P:Params):BT:=ofL (boot_heap P).objs.toList 0 .nil
def goT (tb:String->Option Builtin) (p:Program) (w:World) (n₀:Nat) (ann:Option Value):Nat->SharedT->Thread->Option (SharedT × Thread)
  | 0,s,t=>some (s,t)
  | n+1,s,t=>match through t with
    | true=>none
    | false=>match stepOk n₀ ann t with
      | false=>none
      | true=>match stepT (denote tb) p w s t with
        | some (s',t')=>goT tb p w n₀ ann n s' t'
        | none=>none
theorem left_run {p q:Program} {loose:List Str} {Xt:Shared->Bool} {α:Type} {Yf:Shared->α} {Ya:World->α} {N:Nat} {g0:Bool}
    (e:opening p=plainProg p.main.scope.names) (hN:Nat.ble 600 N=true) (f:∀ s,fenceModules? p s=some s)
    (hb:∀ P:Params,(absHeap (bootT P) 11 {},boot_drawn,(boot_heap P).isNs mainGlobals,(boot_heap P).objs.size,(boot_heap P).nsMap mainGlobals "__annotations__")=(boot_heap P,boot_drawn,true,11,some (.ref 6)))
    (run:∀ (w:World) (os:OsState),∃ s:Shared,topRun treeTable p w 11 (some (.ref 6)) N (⟨bootT w.params,11,{},Array.mk [],boot_drawn,boot_toks,os⟩:SharedT).abs (topStub p)=some s/\((staticsOk (importedModules p.main.body) (boot_heap w.params) s.heap&&namesBound p s.heap&&gensDone s&&laidKept (boot_heap w.params) s.heap),openSeen q loose (importedModules p.main.body) Xt g0 s,Yf s)=(true,openGood q loose,Ya w)):LeftO p q loose Xt Yf Ya N g0:=λ w=>by
  obtain ⟨⟨h,gs,d,k,os⟩,e1,e'⟩:=Option.map_eq_some_iff.mp (boot_open (p:=p) (N:=N) e hN f w);obtain ⟨rfl,rfl,rfl,rfl⟩:h=boot_heap w.params/\gs=Array.mk []/\d=boot_drawn/\k=boot_toks:=by simpa using e'
  have hb':=hb w.params;simp only [Prod.mk.injEq] at hb';obtain ⟨b1,_,b2,b3,b4⟩:=hb';obtain ⟨s,r,l⟩:=run w os;obtain ⟨l1,l2,l3⟩:_/\_/\_:=by simpa only [Prod.mk.injEq] using l
  have b0:(⟨bootT w.params,11,{},Array.mk [],boot_drawn,boot_toks,os⟩:SharedT).abs=⟨boot_heap w.params,Array.mk [],boot_drawn,boot_toks,os⟩:=by
    show (⟨absHeap (bootT w.params) 11 {},_,_,_,_⟩:Shared)=_;rw [b1]
  rw [b0] at r;have t:topFrom treeTable p w N ⟨boot_heap w.params,Array.mk [],boot_drawn,boot_toks,os⟩=some s:=by
    unfold topFrom;dsimp only;rw [b2,b3,b4];show Option.bind (topRun treeTable p w 11 (some (.ref 6)) N ⟨boot_heap w.params,Array.mk [],boot_drawn,boot_toks,os⟩ (topStub p)) _=_;rw [r];show (match staticsOk (importedModules p.main.body) (boot_heap w.params) s.heap&&namesBound p s.heap&&gensDone s&&laidKept (boot_heap w.params) s.heap with | true=>_ | false=>_)=_;rw [l1]
  unfold openEnds;rw [e1];show (topFrom treeTable p w N _).map _=_;rw [t];exact congrArg some (Prod.ext l2 l3)
theorem three {α β γ:Type} {a a':α} {b b':β} {c c':γ} (h:(a,c)=(a',c')) (k:b=b'):(a,b,c)=(a',b',c'):=by
  cases h;cases k;rfl
theorem hb (P:Params):(absHeap (bootT P) 11 {},boot_drawn,(boot_heap P).isNs mainGlobals,(boot_heap P).objs.size,(boot_heap P).nsMap mainGlobals "__annotations__")=(boot_heap P,boot_drawn,true,11,some (.ref 6)):=by kernel_rfl
end HX
namespace K22
open PySem L2 PySem.W PySem.Calls PyProof.Rows
abbrev Ob:=Params->Obj
abbrev dE (P:Params) (s:Str) (t:Tok) (v:Value):DictEntry:=⟨PyData.keyHash P s, .str s t,v⟩
abbrev dR (P:Params) (s:Str) (t:Tok) (a:Addr):DictEntry:=⟨PyData.keyHash P s, .str s t, .ref a⟩
abbrev tu (xs:Array Value):Obj:=⟨.type "tuple",none, .seq xs 0, #[]⟩
abbrev di (es:Array DictEntry) (n:Nat):Obj:=⟨.type "dict",none, .dict es n, #[]⟩
abbrev fo (n q:Str) (st:Stmt) (m:Str) (t:Tok) (c:Addr):Obj:=⟨.type "function",none, .func (fnOf n q (EV st) (DV st) (Aj st) .none .none .none (.str m t) none (.ref c) .none), #[]⟩
abbrev co (n q:Str) (t:Tok) (l ac nl:Int) (a:Addr) (b:Bool) (r:Addr) (c d e:Value) (k:Int) (t4:Tok):Obj:=⟨.type "code",none, .fields #[.str n t, .str q (t+1), .str "/claim/cut.py" (t+2), .int l 0, .int ac 0, .int 0 0, .int 0 0, .int nl 0, .ref a, .bool b, .int 181 0, .ref r, .none,c,d,e, .int k 0, .int l 0, .str "/claim/cut.py" t4], #[]⟩
def o3:Ob:=λ P=>di #[dE P "__name__" 165 (.str "law_loomwright_k22_lifted_and_hanging" 462),dE P "__doc__" 166 .none,dE P "__package__" 167 .none,dE P "__loader__" 168 (.builtin "__main__.__loader__#opaque"),dE P "__spec__" 169 .none,dR P "__annotations__" 170 6,dR P "__builtins__" 171 4,dE P "__file__" 173 (.str "/claim/cut.py" 172),dE P "__cached__" 174 .none,dR P "_wall" 193 21,dR P "bit_of" 202 28,dR P "mask_of" 211 35,dR P "mask_to" 218 42,dR P "has_number" 226 49,dR P "numbers_of" 232 54,dR P "other_mask" 240 61,dE P "MOST_ENDS" 242 (.int 60 241),dE P "MOST_PICKS" 244 (.int 60 243),dR P "LoomError" 264 71,dR P "BadCloth" 280 84,dR P "is_whole" 289 93,dR P "is_among" 298 100,dR P "need_cloth" 306 105,dR P "Cloth" 381 162,dR P "inverted" 389 171,dE P "END" 393 (.str "end" 392),dE P "PICK" 395 (.str "pick" 394),dR P "end_threads" 401 176,dR P "pick_threads" 407 181,dR P "threads_of" 414 188,dR P "over_of" 422 195,dR P "overs_of" 431 202,dR P "threads_ahead" 444 209,dR P "lifted_with" 452 216,dR P "hangs" 461 223,dR P "_law_mixed" 472 230,dR P "_law_cell_at" 480 237,dR P "_law_alike" 486 242,dR P "_law_longer" 494 249,dR P "_law_turned" 503 256,dR P "_law_told_over" 509 261,dR P "_law_laid" 515 266,dR P "_law_steps" 527 273,dR P "_law_weave" 533 278,dR P "_law_threads" 539 283,dR P "_law_is_over" 549 290,dR P "_law_uppers" 555 295,dR P "_law_reach" 568 302,dR P "_law_right" 574 307,dR P "law" 586 314] 50
def o20:Ob:=λ P=>co "_wall" "_wall" 187 1 1 3 15 true 16 (.ref 17) (.ref 18) (.ref 19) 191 192
def o21:Ob:=λ P=>fo "_wall" "_wall" (top 0) "__main__" 164 20
def o27:Ob:=λ P=>co "bit_of" "bit_of" 196 5 1 3 22 true 23 (.ref 24) (.ref 25) (.ref 26) 200 201
def o28:Ob:=λ P=>fo "bit_of" "bit_of" (top 2) "loomwright.masks" 194 27
def o34:Ob:=λ P=>co "mask_of" "mask_of" 203 7 1 3 29 true 30 (.ref 31) (.ref 32) (.ref 33) 209 210
def o35:Ob:=λ P=>fo "mask_of" "mask_of" (top 3) "loomwright.masks" 194 34
def o41:Ob:=λ P=>co "mask_to" "mask_to" 212 12 1 3 36 true 37 (.ref 38) (.ref 39) (.ref 40) 216 217
def o42:Ob:=λ P=>fo "mask_to" "mask_to" (top 4) "loomwright.masks" 194 41
def o48:Ob:=λ P=>co "has_number" "has_number" 219 14 2 3 43 true 44 (.ref 45) (.ref 46) (.ref 47) 224 225
def o49:Ob:=λ P=>fo "has_number" "has_number" (top 5) "loomwright.masks" 194 48
def o53:Ob:=λ P=>co "numbers_of" "numbers_of" 227 16 1 3 50 true 51 .none .none (.ref 52) 230 231
def o54:Ob:=λ P=>fo "numbers_of" "numbers_of" (top 6) "loomwright.masks" 194 53
def o60:Ob:=λ P=>co "other_mask" "other_mask" 233 18 2 3 55 true 56 (.ref 57) (.ref 58) (.ref 59) 238 239
def o61:Ob:=λ P=>fo "other_mask" "other_mask" (top 7) "loomwright.masks" 194 60
def o62:Ob:=λ P=>tu #[(.type "ValueError")]
def o69:Ob:=λ P=>tu #[]
def o70:Ob:=λ P=>di #[dE P "__module__" 254 (.str "loomwright.errors" 245),dE P "__firstlineno__" 258 (.int 23 257),dR P "__static_attributes__" 259 69,dR P "__weakref__" 261 72,dE P "__doc__" 262 .none] 3
def o71:Ob:=λ P=>⟨(.type "type"),none,(.cls ⟨"LoomError",[(.type "ValueError")],[(.ref 71),(.type "ValueError"),(.type "Exception"),(.type "BaseException"),(.type "object")],70,"LoomError",true,[],[(.ref 84)],false,none,false⟩), #[(some (.ref 62)),none,(some (.str "LoomError" 247)),(some (.str "LoomError" 255)),(some (.builtin "ValueError.__new__")),(some (.bool true))]⟩
def o72:Ob:=λ P=>⟨(.type "getset_descriptor"),none,(.fields #[(.str "__weakref__" 260),(.ref 71),(.builtin "ExceptionGroup.__weakref__"), .none]), #[]⟩
def o75:Ob:=λ P=>tu #[(.ref 71)]
def o82:Ob:=λ P=>tu #[]
def o83:Ob:=λ P=>di #[dE P "__module__" 272 (.str "loomwright.errors" 245),dE P "__firstlineno__" 276 (.int 25 275),dR P "__static_attributes__" 277 82,dE P "__doc__" 278 .none] 2
def o84:Ob:=λ P=>⟨(.type "type"),none,(.cls ⟨"BadCloth",[(.ref 71)],[(.ref 84),(.ref 71),(.type "ValueError"),(.type "Exception"),(.type "BaseException"),(.type "object")],83,"BadCloth",true,[],[],false,none,false⟩), #[(some (.ref 75)),none,(some (.str "BadCloth" 265)),(some (.str "BadCloth" 273)),(some (.builtin "ValueError.__new__")),(some (.bool true))]⟩
def o92:Ob:=λ P=>co "is_whole" "is_whole" 283 28 1 3 87 true 88 (.ref 89) (.ref 90) (.ref 91) 287 288
def o93:Ob:=λ P=>fo "is_whole" "is_whole" (top 14) "loomwright.words" 281 92
def o99:Ob:=λ P=>co "is_among" "is_among" 290 30 3 3 94 true 95 (.ref 96) (.ref 97) (.ref 98) 296 297
def Rc:Ob:=λ P=>fo "is_among" "is_among" (top 15) "loomwright.words" 281 99
def QY:Ob:=λ P=>co "need_cloth" "need_cloth" 301 33 2 3 101 true 102 .none .none (.ref 103) 304 305
def Qh:Ob:=λ P=>fo "need_cloth" "need_cloth" (top 17) "loomwright.cloth" 299 104
def Rl:Ob:=λ P=>co "__init__" "Cloth.__init__" 319 42 3 3 113 true 114 (.ref 115) (.ref 116) (.ref 117) 325 326
def P8:Ob:=λ P=>fo "__init__" "Cloth.__init__" (AS (top 18) 0) "loomwright.cloth" 299 118
def Qi:Ob:=λ P=>co "told" "Cloth.told" 328 47 1 3 120 true 121 (.ref 122) (.ref 123) (.ref 124) 332 333
def P1:Ob:=λ P=>fo "told" "Cloth.told" (AS (top 18) 1) "loomwright.cloth" 299 125
def Rg:Ob:=λ P=>co "ends" "Cloth.ends" 335 50 1 3 127 true 128 (.ref 129) (.ref 130) (.ref 131) 339 340
def PY:Ob:=λ P=>fo "ends" "Cloth.ends" (AS (top 18) 2) "loomwright.cloth" 299 132
def P9:Ob:=λ P=>co "picks" "Cloth.picks" 342 53 1 3 134 true 135 (.ref 136) (.ref 137) (.ref 138) 346 347
def Rm:Ob:=λ P=>fo "picks" "Cloth.picks" (AS (top 18) 3) "loomwright.cloth" 299 139
def QQ:Ob:=λ P=>co "row_at" "Cloth.row_at" 349 56 2 3 141 true 142 (.ref 143) (.ref 144) (.ref 145) 354 355
def Q4:Ob:=λ P=>fo "row_at" "Cloth.row_at" (AS (top 18) 4) "loomwright.cloth" 299 146
def QJ:Ob:=λ P=>co "column_at" "Cloth.column_at" 357 59 2 3 148 true 149 .none .none (.ref 150) 360 361
def Ra:Ob:=λ P=>fo "column_at" "Cloth.column_at" (AS (top 18) 5) "loomwright.cloth" 299 151
def P0:Ob:=λ P=>co "is_up" "Cloth.is_up" 363 62 3 3 153 true 154 (.ref 155) (.ref 156) (.ref 157) 369 370
def P5:Ob:=λ P=>fo "is_up" "Cloth.is_up" (AS (top 18) 6) "loomwright.cloth" 299 158
def Ri:Ob:=λ P=>tu #[(.str "rows" 372),(.str "width" 373)]
def Qk:Ob:=λ P=>di #[dE P "__module__" 314 (.str "loomwright.cloth" 299),dE P "__firstlineno__" 318 (.int 40 317),dR P "__init__" 327 119,dR P "told" 334 126,dR P "ends" 341 133,dR P "picks" 348 140,dR P "row_at" 356 147,dR P "column_at" 362 152,dR P "is_up" 371 159,dR P "__static_attributes__" 374 160,dR P "__dict__" 376 163,dR P "__weakref__" 378 164,dE P "__doc__" 379 .none] 4
def PV:Ob:=λ P=>⟨(.type "type"),none,(.cls ⟨"Cloth",[(.type "object")],[(.ref 162),(.type "object")],161,"Cloth",true,[],[],false,none,false⟩), #[none,none,(some (.str "Cloth" 307)),(some (.str "Cloth" 315)),(some (.builtin "object.__new__")),(some (.bool true))]⟩
def QD:Ob:=λ P=>⟨(.type "getset_descriptor"),none,(.fields #[(.str "__dict__" 375),(.ref 162),(.builtin "function.__dict__"),(.builtin "function.__dict__#set")]), #[]⟩
def QU:Ob:=λ P=>⟨(.type "getset_descriptor"),none,(.fields #[(.str "__weakref__" 377),(.ref 162),(.builtin "ExceptionGroup.__weakref__"), .none]), #[]⟩
def Qm:Ob:=λ P=>co "inverted" "inverted" 384 65 1 3 167 true 168 .none .none (.ref 169) 387 388
def P2:Ob:=λ P=>fo "inverted" "inverted" (top 20) "loomwright.turns" 382 170
def Q2:Ob:=λ P=>co "end_threads" "end_threads" 396 70 1 3 172 true 173 .none .none (.ref 174) 399 400
def Qj:Ob:=λ P=>fo "end_threads" "end_threads" (top 24) "loomwright.hanging" 390 175
def QK:Ob:=λ P=>co "pick_threads" "pick_threads" 402 72 1 3 177 true 178 .none .none (.ref 179) 405 406
def Q3:Ob:=λ P=>fo "pick_threads" "pick_threads" (top 25) "loomwright.hanging" 390 180
def Qp:Ob:=λ P=>co "threads_of" "threads_of" 408 74 1 3 182 true 183 (.ref 184) (.ref 185) (.ref 186) 412 413
def QH:Ob:=λ P=>fo "threads_of" "threads_of" (top 26) "loomwright.hanging" 390 187
def Qo:Ob:=λ P=>co "over_of" "over_of" 415 76 2 3 189 true 190 (.ref 191) (.ref 192) (.ref 193) 420 421
def QR:Ob:=λ P=>fo "over_of" "over_of" (top 27) "loomwright.hanging" 390 194
def QV:Ob:=λ P=>co "overs_of" "overs_of" 423 80 1 3 196 true 197 (.ref 198) (.ref 199) (.ref 200) 429 430
def P6:Ob:=λ P=>fo "overs_of" "overs_of" (top 28) "loomwright.hanging" 390 201
def Qg:Ob:=λ P=>co "threads_ahead" "threads_ahead" 432 85 2 3 203 true 204 (.ref 205) (.ref 206) (.ref 207) 442 443
def PU:Ob:=λ P=>fo "threads_ahead" "threads_ahead" (top 29) "loomwright.hanging" 390 208
def QN:Ob:=λ P=>co "lifted_with" "lifted_with" 445 97 2 3 210 true 211 (.ref 212) (.ref 213) (.ref 214) 450 451
def P4:Ob:=λ P=>fo "lifted_with" "lifted_with" (top 30) "loomwright.hanging" 390 215
def Qt:Ob:=λ P=>co "hangs" "hangs" 453 99 1 3 217 true 218 (.ref 219) (.ref 220) (.ref 221) 459 460
def Qz:Ob:=λ P=>fo "hangs" "hangs" (top 31) "loomwright.hanging" 390 222
def Q8:Ob:=λ P=>co "_law_mixed" "_law_mixed" 464 104 2 3 224 true 225 (.ref 226) (.ref 227) (.ref 228) 470 471
def QP:Ob:=λ P=>fo "_law_mixed" "_law_mixed" (top 33) "law_loomwright_k22_lifted_and_hanging" 462 229
def Qx:Ob:=λ P=>co "_law_cell_at" "_law_cell_at" 473 107 2 3 231 true 232 (.ref 233) (.ref 234) (.ref 235) 478 479
def Rb:Ob:=λ P=>fo "_law_cell_at" "_law_cell_at" (top 34) "law_loomwright_k22_lifted_and_hanging" 462 236
def Rf:Ob:=λ P=>co "_law_alike" "_law_alike" 481 109 2 3 238 true 239 .none .none (.ref 240) 484 485
def QW:Ob:=λ P=>fo "_law_alike" "_law_alike" (top 35) "law_loomwright_k22_lifted_and_hanging" 462 241
def Qn:Ob:=λ P=>co "_law_longer" "_law_longer" 487 115 1 3 243 true 244 (.ref 245) (.ref 246) (.ref 247) 492 493
def QZ:Ob:=λ P=>fo "_law_longer" "_law_longer" (top 36) "law_loomwright_k22_lifted_and_hanging" 462 248
def Qa:Ob:=λ P=>co "_law_turned" "_law_turned" 495 121 3 3 250 true 251 (.ref 252) (.ref 253) (.ref 254) 501 502
def Q0:Ob:=λ P=>fo "_law_turned" "_law_turned" (top 37) "law_loomwright_k22_lifted_and_hanging" 462 255
def QF:Ob:=λ P=>co "_law_told_over" "_law_told_over" 504 123 3 3 257 true 258 .none .none (.ref 259) 507 508
def Qy:Ob:=λ P=>fo "_law_told_over" "_law_told_over" (top 38) "law_loomwright_k22_lifted_and_hanging" 462 260
def Ql:Ob:=λ P=>co "_law_laid" "_law_laid" 510 128 4 3 262 true 263 .none .none (.ref 264) 513 514
def PZ:Ob:=λ P=>fo "_law_laid" "_law_laid" (top 39) "law_loomwright_k22_lifted_and_hanging" 462 265
def Rh:Ob:=λ P=>co "_law_steps" "_law_steps" 516 141 3 3 267 true 268 (.ref 269) (.ref 270) (.ref 271) 525 526
def Qd:Ob:=λ P=>fo "_law_steps" "_law_steps" (top 40) "law_loomwright_k22_lifted_and_hanging" 462 272
def QI:Ob:=λ P=>co "_law_weave" "_law_weave" 528 148 2 3 274 true 275 .none .none (.ref 276) 531 532
def QM:Ob:=λ P=>fo "_law_weave" "_law_weave" (top 41) "law_loomwright_k22_lifted_and_hanging" 462 277
def P3:Ob:=λ P=>co "_law_threads" "_law_threads" 534 163 2 3 279 true 280 .none .none (.ref 281) 537 538
def PX:Ob:=λ P=>fo "_law_threads" "_law_threads" (top 42) "law_loomwright_k22_lifted_and_hanging" 462 282
def Qq:Ob:=λ P=>co "_law_is_over" "_law_is_over" 540 165 4 3 284 true 285 (.ref 286) (.ref 287) (.ref 288) 547 548
def P7:Ob:=λ P=>fo "_law_is_over" "_law_is_over" (top 43) "law_loomwright_k22_lifted_and_hanging" 462 289
def Q5:Ob:=λ P=>co "_law_uppers" "_law_uppers" 550 171 2 3 291 true 292 .none .none (.ref 293) 553 554
def Rn:Ob:=λ P=>fo "_law_uppers" "_law_uppers" (top 44) "law_loomwright_k22_lifted_and_hanging" 462 294
def Rj:Ob:=λ P=>co "_law_reach" "_law_reach" 556 177 2 3 296 true 297 (.ref 298) (.ref 299) (.ref 300) 566 567
def Qs:Ob:=λ P=>fo "_law_reach" "_law_reach" (top 45) "law_loomwright_k22_lifted_and_hanging" 462 301
def QB:Ob:=λ P=>co "_law_right" "_law_right" 569 189 4 3 303 true 304 .none .none (.ref 305) 572 573
def Qr:Ob:=λ P=>fo "_law_right" "_law_right" (top 46) "law_loomwright_k22_lifted_and_hanging" 462 306
def QG:Ob:=λ P=>co "law" "law" 575 203 1 3 308 true 309 (.ref 310) (.ref 311) (.ref 312) 584 585
def QC:Ob:=λ P=>fo "law" "law" (top 47) "law_loomwright_k22_lifted_and_hanging" 462 313
def frag (P:Params):Frag:=(nat_lit 2,boot_o_2 P)::(nat_lit 3,o3 P)::(nat_lit 20,o20 P)::(nat_lit 21,o21 P)::(nat_lit 27,o27 P)::(nat_lit 28,o28 P)::(nat_lit 34,o34 P)::(nat_lit 35,o35 P)::(nat_lit 41,o41 P)::(nat_lit 42,o42 P)::(nat_lit 48,o48 P)::(nat_lit 49,o49 P)::(nat_lit 53,o53 P)::(nat_lit 54,o54 P)::(nat_lit 60,o60 P)::(nat_lit 61,o61 P)::(nat_lit 62,o62 P)::(nat_lit 69,o69 P)::(nat_lit 70,o70 P)::(nat_lit 71,o71 P)::(nat_lit 72,o72 P)::(nat_lit 75,o75 P)::(nat_lit 82,o82 P)::(nat_lit 83,o83 P)::(nat_lit 84,o84 P)::(nat_lit 92,o92 P)::(nat_lit 93,o93 P)::(nat_lit 99,o99 P)::(nat_lit 100,Rc P)::(nat_lit 104,QY P)::(nat_lit 105,Qh P)::(nat_lit 118,Rl P)::(nat_lit 119,P8 P)::(nat_lit 125,Qi P)::(nat_lit 126,P1 P)::(nat_lit 132,Rg P)::(nat_lit 133,PY P)::(nat_lit 139,P9 P)::(nat_lit 140,Rm P)::(nat_lit 146,QQ P)::(nat_lit 147,Q4 P)::(nat_lit 151,QJ P)::(nat_lit 152,Ra P)::(nat_lit 158,P0 P)::(nat_lit 159,P5 P)::(nat_lit 160,Ri P)::(nat_lit 161,Qk P)::(nat_lit 162,PV P)::(nat_lit 163,QD P)::(nat_lit 164,QU P)::(nat_lit 170,Qm P)::(nat_lit 171,P2 P)::(nat_lit 175,Q2 P)::(nat_lit 176,Qj P)::(nat_lit 180,QK P)::(nat_lit 181,Q3 P)::(nat_lit 187,Qp P)::(nat_lit 188,QH P)::(nat_lit 194,Qo P)::(nat_lit 195,QR P)::(nat_lit 201,QV P)::(nat_lit 202,P6 P)::(nat_lit 208,Qg P)::(nat_lit 209,PU P)::(nat_lit 215,QN P)::(nat_lit 216,P4 P)::(nat_lit 222,Qt P)::(nat_lit 223,Qz P)::(nat_lit 229,Q8 P)::(nat_lit 230,QP P)::(nat_lit 236,Qx P)::(nat_lit 237,Rb P)::(nat_lit 241,Rf P)::(nat_lit 242,QW P)::(nat_lit 248,Qn P)::(nat_lit 249,QZ P)::(nat_lit 255,Qa P)::(nat_lit 256,Q0 P)::(nat_lit 260,QF P)::(nat_lit 261,Qy P)::(nat_lit 265,Ql P)::(nat_lit 266,PZ P)::(nat_lit 272,Rh P)::(nat_lit 273,Qd P)::(nat_lit 277,QI P)::(nat_lit 278,QM P)::(nat_lit 282,P3 P)::(nat_lit 283,PX P)::(nat_lit 289,Qq P)::(nat_lit 290,P7 P)::(nat_lit 294,Q5 P)::(nat_lit 295,Rn P)::(nat_lit 301,Rj P)::(nat_lit 302,Qs P)::(nat_lit 306,QB P)::(nat_lit 307,Qr P)::(nat_lit 313,QG P)::(nat_lit 314,QC P)::[]
def addrs:List Addr:=[2,3,20,21,27,28,34,35,41,42,48,49,53,54,60,61,62,69,70,71,72,75,82,83,84,92,93,99,100,104,105,118,119,125,126,132,133,139,140,146,147,151,152,158,159,160,161,162,163,164,170,171,175,176,180,181,187,188,194,195,201,202,208,209,215,216,222,223,229,230,236,237,241,242,248,249,255,256,260,261,265,266,272,273,277,278,282,283,289,290,294,295,301,302,306,307,313,314]
def view:Program:={ PySem.Challenge.pw_loomwright_k22_lifted_and_hanging with main:={ PySem.Challenge.pw_loomwright_k22_lifted_and_hanging.main with body:=[top 0,top 2,top 3,top 4,top 5,top 6,top 7,top 8,top 9,top 11,top 12,top 14,top 15,top 17,top 18,top 20,top 22,top 23,top 24,top 25,top 26,top 27,top 28,top 29,top 30,top 31,top 33,top 34,top 35,top 36,top 37,top 38,top 39,top 40,top 41,top 42,top 43,top 44,top 45,top 46,top 47] } }
abbrev Xt:Shared->Bool:=λ s=>xlAt view [] s&&recOk (RowW.records PySem.Challenge.rw_loomwright_k22_lifted_and_hanging.row.toRowW) s
theorem addrs_eq:∀ P:Params,addrs=(frag P).map (·.1):=λ _=>by kernel_rfl
abbrev hook:Hook:=kHook frag addrs addrs_eq
abbrev fuel:Nat:=3928
def _root_.PySem.W.Fast.tw11484048639502277427:Program:=PySem.Challenge.pw_loomwright_k22_lifted_and_hanging
theorem _root_.PySem.W.Fast.te11484048639502277427:PySem.Challenge.pw_loomwright_k22_lifted_and_hanging=PySem.W.Fast.tw11484048639502277427:=rfl
theorem O8:(λ _=>true) (HX.topT treeTable)=true:=by k_qdec
theorem wsaid:PySem.Challenge.rw_loomwright_k22_lifted_and_hanging.wellSaid=true:=by k_qdec
theorem Qf (w:World) (os:OsState):(HX.topT treeTable PySem.Challenge.pw_loomwright_k22_lifted_and_hanging w 11 (some (.ref 6)) fuel ⟨HX.bootT w.params,11,{},Array.mk [],boot_drawn,boot_toks,os⟩ (topStub PySem.Challenge.pw_loomwright_k22_lifted_and_hanging)).map (λ s=>((staticsOk (importedModules PySem.Challenge.pw_loomwright_k22_lifted_and_hanging.main.body) (boot_heap w.params) s.abs.heap&&namesBound PySem.Challenge.pw_loomwright_k22_lifted_and_hanging s.abs.heap&&gensDone s.abs&&laidKept (boot_heap w.params) s.abs.heap),addrs.map s.abs.heap.get?))=some (true,((frag w.params).map λ p=>some p.2)):=by
  have _tw:=O8;rw [PySem.W.Fast.te5923862056798008813,PySem.W.Fast.te14364793385576792824,PySem.W.Fast.te9621378704136392807];kernel_rfl
theorem Qw (w:World) (os:OsState):(HX.topT treeTable PySem.Challenge.pw_loomwright_k22_lifted_and_hanging w 11 (some (.ref 6)) fuel ⟨HX.bootT w.params,11,{},Array.mk [],boot_drawn,boot_toks,os⟩ (topStub PySem.Challenge.pw_loomwright_k22_lifted_and_hanging)).map (λ s=>(openSeen view [] (importedModules PySem.Challenge.pw_loomwright_k22_lifted_and_hanging.main.body) Xt true s.abs))=some (openGood view []):=by
  unfold Xt;rw [PySem.W.Fast.te5923862056798008813,PySem.W.Fast.te4187177175401517315,PySem.W.Fast.te2368527892694137696,PySem.W.Fast.te14364793385576792824,PySem.W.Fast.te9621378704136392807];kernel_rfl
theorem left:LeftO PySem.Challenge.pw_loomwright_k22_lifted_and_hanging view [] Xt hook.obs hook.val fuel:=HX.left_run (by kernel_rfl) (by decide) (λ s=>by kernel_rfl) HX.hb λ w os=>by
  obtain ⟨s,r,l⟩:=Option.map_eq_some_iff.mp (Qf w os);obtain ⟨s2,r2,l2⟩:=Option.map_eq_some_iff.mp (Qw w os);cases r.symm.trans r2;exact ⟨s.abs,HX.topT_of r,HX.three l l2⟩
end K22
namespace L2
open PySem PySem.Spec PyProof.Rows
abbrev Key:=Sum Int Str
def F4:Key->Value->Bool
  | .inl k,v=>Value.isInt k v
  | .inr x,v=>Value.isStrOf x v
def Q1 (w:World):Key->Int
  | .inl k=>hashInt k
  | .inr x=>hashStr w x
theorem AH:∀ {k:Key} {v:Value},F4 k v=true->(∃ i t,k=Sum.inl i/\v=Value.int i t)\/(∃ x t,k=Sum.inr x/\v=Value.str x t)
  | .inl i,v,h=>by
    obtain ⟨t,e⟩:=Value.isInt_shape (k:=i) (v:=v) h;exact .inl ⟨i,t,rfl,e⟩
  | .inr x,v,h=>by
    obtain ⟨t,e⟩:=Value.isStrOf_shape (x:=x) (v:=v) h;exact .inr ⟨x,t,rfl,e⟩
theorem JW (i:Int) (t:Tok):F4 (.inl i) (.int i t)=true:=by simp [F4,Value.isInt]
theorem JZ (x:Str) (t:Tok):F4 (.inr x) (.str x t)=true:=by simp [F4,Value.isStrOf]
theorem OE (a b:Int):decide ((Sum.inl a:Key)=Sum.inl b)=(a == b):=by
  by_cases e:a=b
  · subst e;simp
  · have h:¬ (Sum.inl a:Key)=Sum.inl b:=λ q=>e (Sum.inl.inj q);rw [decide_eq_false h];exact (beq_eq_false_iff_ne.mpr e).symm
theorem NM (a b:Str):decide ((Sum.inr a:Key)=Sum.inr b)=decide (a=b):=by
  by_cases e:a=b
  · subst e;simp
  · have h:¬ (Sum.inr a:Key)=Sum.inr b:=λ q=>e (Sum.inr.inj q);rw [decide_eq_false h,decide_eq_false e]
theorem ND (a:Int) (b:Str):decide ((Sum.inl a:Key)=Sum.inr b)=false:=decide_eq_false (λ q=>nomatch q)
theorem Oa (a:Str) (b:Int):decide ((Sum.inr a:Key)=Sum.inl b)=false:=decide_eq_false (λ q=>nomatch q)
def AO (prog:Program) (w:World):PySem.KeyKind prog w Key where
  is:=F4
  hash:=Q1 w
  inj:=λ v a b ha hb=>by
    rcases AH ha with ⟨i,t,rfl,rfl⟩ | ⟨x,t,rfl,rfl⟩
    · rcases AH hb with ⟨j,u,rfl,e⟩ | ⟨y,u,rfl,e⟩
      · injection e with e1 _;rw [e1]
      · exact nomatch e
    · rcases AH hb with ⟨j,u,rfl,e⟩ | ⟨y,u,rfl,e⟩
      · exact nomatch e
      · injection e with e1 _;rw [e1]
  byValue:=λ k v h=>by
    rcases AH h with ⟨i,t,rfl,rfl⟩ | ⟨x,t,rfl,rfl⟩ <;> rfl
  pyHash:=λ hv h=>by
    rcases AH hv with ⟨i,t,rfl,rfl⟩ | ⟨x,t,rfl,rfl⟩
    · exact wpAny_pyHash_int h
    · exact wpAny_pyHash_str h
  eqBool:=λ hu hv h=>by
    rcases AH hu with ⟨i,t,rfl,rfl⟩ | ⟨x,t,rfl,rfl⟩
    · rcases AH hv with ⟨j,u,rfl,rfl⟩ | ⟨y,u,rfl,rfl⟩
      · rw [OE] at h;exact wpAny_eqBool_int h
      · rw [ND] at h;exact SeqAt.EqAt.int_str i t y u _ _ _ _ h
    · rcases AH hv with ⟨j,u,rfl,rfl⟩ | ⟨y,u,rfl,rfl⟩
      · rw [Oa] at h;exact SeqAt.EqAt.str_int x t j u _ _ _ _ h
      · rw [NM] at h;exact wpAny_eqBool_str h
  «strs» := λ k x t v h=>by
    rcases AH h with ⟨i,u,rfl,e⟩ | ⟨y,u,rfl,e⟩
    · exact nomatch e
    · injection e with e1 _;subst e1;cases v <;> rfl
theorem Hy (prog:Program) (w:World) (i:Int) (t:Tok):(AO prog w).is (.inl i) (.int i t)=true:=JW i t
theorem He (prog:Program) (w:World) (x:Str) (t:Tok):(AO prog w).is (.inr x) (.str x t)=true:=JZ x t
inductive V where
  | non | bl (b:Bool) | int (i:Int) | str (x:Str) | byt (b:Array UInt8) | flt (b:UInt64) | ref (a:Addr) | ty (n:String)
  deriving DecidableEq
def RelV:V->Value->Prop
  | .non,u=>u=Value.none
  | .bl b,u=>u=Value.bool b
  | .int i,u=>∃ t,u=Value.int i t
  | .str x,u=>∃ t,u=Value.str x t
  | .byt b,u=>∃ t,u=Value.bytes b t
  | .flt b,u=>∃ t,u=Value.float b t
  | .ref a,u=>u=Value.ref a
  | .ty n,u=>u=Value.type n
abbrev Vals:List V->List Value->Prop:=Paired RelV
theorem Vals.length {xs:List V} {us:List Value} (r:Vals xs us):xs.length=us.length:=Paired.length r
theorem Vals.get:∀ {xs:List V} {us:List Value} {i:Nat} {x:V},Vals xs us->xs[i]?=some x->∃ u,us[i]?=some u/\RelV x u
  | _,_,_,_, .nil,e=>by simp at e
  | _,_,0,_, .cons r _,e=>by simp at e;subst e;exact ⟨_,rfl,r⟩
  | _,_,i+1,x, .cons _ t,e=>by
    obtain ⟨u,h1,h2⟩:=Vals.get (i:=i) (x:=x) t (by simpa using e);exact ⟨u,by simpa using h1,h2⟩
theorem Vals.append:∀ {xs ys:List V} {us ws:List Value},Vals xs us->Vals ys ws->Vals (xs++ys) (us++ws)
  | _,_,_,_, .nil,s=>s
  | _,_,_,_, .cons r t,s=> .cons r (Vals.append t s)
theorem Vals.take:∀ {xs:List V} {us:List Value} (n:Nat),Vals xs us->Vals (xs.take n) (us.take n)
  | _,_,0,_=> .nil
  | _,_,_+1, .nil=> .nil
  | _,_,n+1, .cons r t=> .cons r (Vals.take n t)
theorem Vals.drop:∀ {xs:List V} {us:List Value} (n:Nat),Vals xs us->Vals (xs.drop n) (us.drop n)
  | _,_,0,r=>r
  | _,_,_+1, .nil=> .nil
  | _,_,n+1, .cons _ t=>Vals.drop n t
def RelO:Option V->Option Value->Prop
  | some v,some u=>RelV v u
  | none,none=>True
  | _,_=>False
def KV {κ:Type}:List (κ × V)->List (κ × Value)->Prop:=Paired λ (p:κ × V) (q:κ × Value)=>p.1=q.1/\RelV p.2 q.2
def kV:Key->V
  | .inl i=> .int i
  | .inr x=> .str x
inductive HO where
  | lst (xs:List V)
  | tup (xs:List V)
  | dK (kvs:List (Key × V)) | dT (kvs:List (List Key × V))
  | set (S:Int->Bool) (n:Nat)
  | ins (C dx:Addr) (fs:List (Str × V))
  | own (x:Addr)
  | xd (fs:List (Str × V))
  | met (f x:Addr)
  | rng (lo hi:Int)
  | frz (o:Obj) (u:HO)
  | tbl (ps:Array Value)
  | ext (φ:Heap->Prop)
abbrev Hp:=Addr->Option HO
def upd (H:Hp) (a:Addr) (o:HO):Hp:=λ b=>if b=a then some o else H b
theorem Ad {H:Hp} {a:Addr} {o:HO}:upd H a o a=some o:=by unfold upd;rw [if_pos rfl]
theorem Al {H:Hp} {a b:Addr} {o:HO} (h:b≠a):upd H a o b=H b:=by unfold upd;rw [if_neg h]
theorem Mh {H:Hp} {a:Addr} {o u:HO}:upd (upd H a o) a u=upd H a u:=by
  funext b;unfold upd;split <;> rfl
theorem CT {H:Hp} {a b:Addr} {o u:HO} (h:H a=some o) (h':H b=some u) (d:o≠u):a≠b:=by
  intro e;subst e;rw [h] at h';exact d (Option.some.inj h')
theorem Ao {H:Hp} {a b:Addr} {o:HO} (h:H a=some o) (h':H b=none):a≠b:=by
  intro e;subst e;rw [h] at h';cases h'
section
variable (P:Program) (w:World)
def ObjOk (H:Hp) (h:Heap) (a:Addr):HO->Prop
  | .lst xs=>xs.length<=sizeLine/\∃ (its:List Value) (n:Nat),Vals xs its/\h.get? a=some { cls:= .type "list",data:= .seq its.toArray n }
  | .tup xs=>xs.length<=sizeLine/\∃ its:List Value,Vals xs its/\IsTup h a its.toArray
  | .dK kvs=>kvs.length<=sizeLine/\(a == sysModules)=false/\∃ vs,KV kvs vs/\h.DictOf (AO P w) a vs
  | .dT kvs=>kvs.length<=sizeLine/\(a == sysModules)=false/\∃ xs:List (List Key × Addr × Value),
      Paired (λ (p:List Key × V) (q:List Key × Addr × Value)=>p.1=q.1/\H q.2.1=some (.tup (p.1.map kV))/\RelV p.2 q.2.2) kvs xs/\
      ∃ o es ep,h.get? a=some o/\o.ExactDict/\o.data= .dict es ep/\es.toList=xs.map (entryOfKey (tupleKind (AO P w)))/\(xs.map (·.1)).Nodup
  | .set S n=>h.SetOf (intKind P w) a S n
  | .ins C dx fs=>H dx=some (.own a)/\fs.length<=1000/\dx≠a/\h.get? a=some (PySem.W.instObj C dx)/\
      ∃ mA,h.Ns1 dx mA/\(∀ f,RelO (fs.lookup f) (mA f))/\PySem.Within mA (fs.map (·.1))
  | .own _=>∃ o,h.get? a=some o
  | .xd fs=>∃ mA,h.Ns1 a mA/\∀ f,RelO (fs.lookup f) (mA f)
  | .rng lo hi=>∃ t u v,h.get? a=some { cls:= .type "range",data:= .fields #[.int lo t, .int hi u, .int 1 v] }
  | .frz o u=>h.get? a=some o/\ObjOk H h a u
  | .tbl ps=>h.get? a=some { cls:= .none,data:= .fields ps }
  | .met f x=>h.get? a=some (PySem.W.methodObj (.ref f) (.ref x))
  | .ext φ=>φ h/\(∃ o,h.get? a=some o)/\∀ h1 h2:Heap,φ h1->(∀ o,h1.get? a=some o->h2.get? a=some o)->φ h2
def HOk (H:Hp) (h:Heap):Prop:=∀ a o,H a=some o->ObjOk P w H h a o
end
section
variable {P:Program} {w:World} {H H':Hp} {h h':Heap} {a:Addr} {o:HO}
theorem ObjOk.lt (x:ObjOk P w H h a o):a<h.objs.size:=by
  cases o with
  | lst xs=>obtain ⟨_,_,_,_,e⟩:=x;exact Heap.lt_size e
  | tup xs=>obtain ⟨_,_,_,p⟩:=x;exact p.lt
  | dK kvs=>obtain ⟨_,_,_,_,o,_,_,e,_⟩:=x;exact Heap.lt_size e
  | dT kvs=>obtain ⟨_,_,_,_,o,_,_,e,_⟩:=x;exact Heap.lt_size e
  | set S n=>obtain ⟨o,_,_,_,e,_⟩:=x;exact Heap.lt_size e
  | ins C dx fs=>obtain ⟨_,_,_,e,_⟩:=x;exact Heap.lt_size e
  | own y=>obtain ⟨_,e⟩:=x;exact Heap.lt_size e
  | xd fs=>obtain ⟨_,⟨_,_,_,e,_⟩,_⟩:=x;exact Heap.lt_size e
  | rng lo hi=>obtain ⟨_,_,_,e⟩:=x;exact Heap.lt_size e
  | frz ob u=>obtain ⟨e,_⟩:=x;exact Heap.lt_size e
  | tbl ps=>exact Heap.lt_size (show h.get? a=some _ from x)
  | met f y=>exact Heap.lt_size (show h.get? a=some _ from x)
  | ext φ=>obtain ⟨_,⟨_,e⟩,_⟩:=x;exact Heap.lt_size e
theorem Paired.mapP {α β:Type} {F G:α->β->Prop}:∀ {l₁:List α} {l₂:List β},Paired F l₁ l₂->(∀ a b,F a b->G a b)->Paired G l₁ l₂
  | _,_, .nil,_=> .nil
  | _,_, .cons r t,f=> .cons (f _ _ r) (Paired.mapP t f)
theorem ObjOk.stay (x:ObjOk P w H h a o) (k:∀ b u,(b=a\/H b=some (.own a))->h.get? b=some u->h'.get? b=some u)
    (ho:∀ b,H b=some (.own a)->H' b=some (.own a)) (ht:∀ b xs,H b=some (.tup xs)->H' b=some (.tup xs)):ObjOk P w H' h' a o:=by
  induction o with
  | lst xs=>obtain ⟨z,its,n,r,e⟩:=x;exact ⟨z,its,n,r,k _ _ (.inl rfl) e⟩
  | tup xs=>obtain ⟨z,its,r,ob,e,c⟩:=x;exact ⟨z,its,r,ob,k _ _ (.inl rfl) e,c⟩
  | dK kvs=>obtain ⟨z,y,vs,r,ob,es,ep,e,c⟩:=x;exact ⟨z,y,vs,r,ob,es,ep,k _ _ (.inl rfl) e,c⟩
  | dT kvs=>
    obtain ⟨z,y,xs,r,ob,es,ep,e,c⟩:=x;exact ⟨z,y,xs,Paired.mapP r λ p q z=>⟨z.1,ht _ _ z.2.1,z.2.2⟩,ob,es,ep,k _ _ (.inl rfl) e,c⟩
  | set S n=>obtain ⟨ob,es,ep,t,e,c⟩:=x;exact ⟨ob,es,ep,t,k _ _ (.inl rfl) e,c⟩
  | ins C dx fs=>
    obtain ⟨d,z,ne,e,mA,⟨od,es,ep,e2,c⟩,r⟩:=x;exact ⟨ho _ d,z,ne,k _ _ (.inl rfl) e,mA,⟨od,es,ep,k _ _ (.inr d) e2,c⟩,r⟩
  | own y=>obtain ⟨ob,e⟩:=x;exact ⟨ob,k _ _ (.inl rfl) e⟩
  | xd fs=>obtain ⟨mA,⟨od,es,ep,e,c⟩,r⟩:=x;exact ⟨mA,⟨od,es,ep,k _ _ (.inl rfl) e,c⟩,r⟩
  | rng lo hi=>obtain ⟨t,u,v,e⟩:=x;exact ⟨t,u,v,k _ _ (.inl rfl) e⟩
  | frz ob u ih=>obtain ⟨e,q⟩:=x;exact ⟨k _ _ (.inl rfl) e,ih q⟩
  | tbl ps=>
    have e:h.get? a=some { cls:= .none,data:= .fields ps }:=x;show h'.get? a=some { cls:= .none,data:= .fields ps };exact k a _ (.inl rfl) e
  | met f y=>
    have e:h.get? a=some (PySem.W.methodObj (.ref f) (.ref y)):=x;show h'.get? a=some (PySem.W.methodObj (.ref f) (.ref y));exact k a _ (.inl rfl) e
  | ext φ=>obtain ⟨p,⟨o,e⟩,st⟩:=x;exact ⟨st _ _ p λ o q=>k _ _ (.inl rfl) q,⟨o,k _ _ (.inl rfl) e⟩,st⟩
theorem HOk.lt (x:HOk P w H h) (e:H a=some o):a<h.objs.size:=(x a o e).lt
theorem HOk.fresh (x:HOk P w H h) (e:h.objs.size<=a):H a=none:=by
  cases q:H a with
  | none=>rfl
  | some u=>exact absurd (Nat.lt_of_lt_of_le (x.lt q) e) (Nat.lt_irrefl _)
theorem HOk.kept (x:HOk P w H h) (k:∀ b u,h.get? b=some u->h'.get? b=some u):HOk P w H h':=λ a o e=>
  (x a o e).stay (λ b u _ q=>k b u q) (λ _ q=>q) λ _ _ q=>q
theorem HOk.laid (x:HOk P w H h) (k:∀ b u,h.get? b=some u->h'.get? b=some u) (hp:h.objs.size<=a) (new:ObjOk P w (upd H a o) h' a o):HOk P w (upd H a o) h':=λ b u e=>by
  have hn:=x.fresh hp;by_cases hb:b=a
  · subst hb;rw [Ad] at e;cases e;exact new
  · rw [Al hb] at e;exact (x b u e).stay (λ c v _ q=>k c v q) (λ c q=>by rw [Al (Ao q hn)];exact q) λ c xs q=>by rw [Al (Ao q hn)];exact q
end
def Rd (H:Hp) (a:Addr) (u:HO):Prop:=H a=some u\/∃ o,H a=some (.frz o u)
theorem Rd.ok {P:Program} {w:World} {H:Hp} {h:Heap} {a:Addr} {u:HO} (r:Rd H a u) (x:HOk P w H h):ObjOk P w H h a u:=by
  rcases r with r | ⟨o,r⟩
  · exact x a u r
  · obtain ⟨_,q⟩:=x a _ r;exact q
def Mut:Option HO->Prop
  | some (.lst _)=>True
  | some (.dK _)=>True
  | some (.dT _)=>True
  | some (.set _ _)=>True
  | some (.ins _ _ _)=>True
  | some (.ext _)=>True
  | _=>False
section
variable {P:Program} {w:World} {H:Hp} {h h':Heap} {x e:Addr} {o':HO}
theorem HOk.write (ok:HOk P w H h) (mu:Mut (H x)) (he:e=x\/H e=some (.own x)) (k:∀ b u,b≠e->h.get? b=some u->h'.get? b=some u) (heo:∃ u,h'.get? e=some u)
    (new:ObjOk P w (upd H x o') h' x o'):HOk P w (upd H x o') h':=λ b u q=>by
  have nown:∀ c y,H c=some (.own y)->c≠x:=λ c y r z=>by subst z;rw [r] at mu;exact mu
  have ntup:∀ c xs,H c=some (.tup xs)->c≠x:=λ c xs r z=>by subst z;rw [r] at mu;exact mu
  by_cases hb:b=x
  · subst hb;rw [Ad] at q;cases q;exact new
  · rw [Al hb] at q;by_cases hbe:b=e
    · have q':H b=some (.own x):=by
        rcases he with z | z
        · exact absurd (hbe.trans z) hb
        · rw [hbe];exact z
      rw [q] at q';cases q';obtain ⟨v,hv⟩:=heo;exact ⟨v,by rw [hbe];exact hv⟩
    · refine (ok b u q).stay (λ c v hc r=>k c v ?_ r) (λ c r=>by rw [Al (nown c b r)];exact r) λ c xs r=>by rw [Al (ntup c xs r)];exact r
      rcases hc with rfl | hc
      · exact hbe
      · rintro rfl;rcases he with z | z
        · exact nown c b hc z
        · rw [hc] at z;cases z;exact hb rfl
end
structure Un (fs ex:List Addr) (H H':Hp) (h h':Heap):Prop where
  keep:∀ b o,h.get? b=some o->H b=none->b∉fs->b∉ex->h'.get? b=some o
  slot:∀ b o,h.get? b=some o->H b=none->b∈fs->b∉ex->∃ sl,h'.get? b=some { o with slots:=sl }
  free:∀ b o,h.get? b=some o->H b=none->b∉ex->H' b=none
  there:∀ b o,h.get? b=some o->b∉ex->∃ o',h'.get? b=some o'
  tups:∀ b xs,H b=some (.tup xs)->H' b=some (.tup xs)
  frzs:∀ b o u,H b=some (.frz o u)->H' b=some (.frz o u)
  tbls:∀ b ps,H b=some (.tbl ps)->∃ more,H' b=some (.tbl (ps++more))
section
variable {fs fs' ex ex':List Addr} {H H1 H2:Hp} {h h1 h2 h':Heap} {a x e:Addr} {o:HO}
theorem Un.any (u:Un fs ex H H1 h h1) {b:Addr} {ob:Obj} (q:h.get? b=some ob) (n:H b=none) (hx:b∉ex):∃ sl,h1.get? b=some { ob with slots:=sl }:=by
  by_cases hb:b∈fs
  · exact u.slot b ob q n hb hx
  · exact ⟨ob.slots,u.keep b ob q n hb hx⟩
theorem Un.kept (k:∀ b u,h.get? b=some u->h'.get? b=some u):Un fs ex H H h h':=
  ⟨λ b ob q _ _ _=>k b ob q,λ b ob q _ _ _=>⟨ob.slots,k b ob q⟩,λ _ _ _ n _=>n,λ b ob q _=>⟨ob,k b ob q⟩,λ _ _ q=>q,λ _ _ _ q=>q,λ _ ps q=>⟨#[],by rw [q];simp⟩⟩
theorem Un.refl:Un fs ex H H h h:=Un.kept λ _ _ q=>q
theorem Un.laid (k:∀ b u,h.get? b=some u->h'.get? b=some u) (hp:h.objs.size<=a) (hn:H a=none):Un fs ex H (upd H a o) h h' where
  keep:=λ b u q _ _ _=>k b u q
  slot:=λ b u q _ _ _=>⟨u.slots,k b u q⟩
  free:=λ b u q n _=>by rw [Al (Nat.ne_of_lt (Nat.lt_of_lt_of_le (Heap.lt_size q) hp))];exact n
  there:=λ b u q _=>⟨u,k b u q⟩
  tups:=λ b xs q=>by rw [Al (Ao q hn)];exact q
  frzs:=λ b u xs q=>by rw [Al (Ao q hn)];exact q
  tbls:=λ b ps q=>⟨#[],by rw [Al (Ao q hn),q];simp⟩
theorem Un.write (mu:Mut (H x)) (he:e=x\/H e=some (.own x)) (k:∀ b u,b≠e->h.get? b=some u->h'.get? b=some u) (heo:∃ u,h'.get? e=some u):Un fs ex H (upd H x o) h h':=by
  have hx:∀ b,H b=none->b≠x:=λ b n z=>by subst z;rw [n] at mu;exact mu
  have hb:∀ b,H b=none->b≠e:=λ b n z=>by
    subst z;rcases he with r | r
    · exact hx b n r
    · rw [n] at r;cases r
  have hm:∀ b u,H b=some u->¬ Mut (some u)->b≠x:=λ b u q nm z=>by subst z;rw [q] at mu;exact nm mu
  refine ⟨λ b u q n _ _=>k b u (hb b n) q,λ b u q n _ _=>⟨u.slots,k b u (hb b n) q⟩,λ b u q n _=>by rw [Al (hx b n)];exact n,λ b u q _=> ?_,
    λ b xs q=>by rw [Al (hm b _ q λ z=>z)];exact q,λ b u xs q=>by rw [Al (hm b _ q λ z=>z)];exact q,λ b ps q=>⟨#[],by rw [Al (hm b _ q λ z=>z),q];simp⟩⟩
  by_cases hbe:b=e
  · subst hbe;exact heo
  · exact ⟨u,k b u hbe q⟩
end
def trk (h:Heap) (H:Hp):List Addr:=(List.range h.objs.size).filter λ a=>(H a).isSome
def GB (h:Heap) (H:Hp):Heap:=PySem.W.hideAll h (trk h H)
theorem JV (h:Heap) (H:Hp):(GB h H).objs.size=h.objs.size:=PySem.W.hideAll_size _ _
theorem KW {h:Heap} {H:Hp} {b:Addr} {o:Obj} (e:h.get? b=some o) (n:H b=none):(GB h H).get? b=some o:=
  PySem.W.hideAll_get _ e λ hm=>by
    have q:(H b).isSome=true:=(List.mem_filter.mp hm).2;rw [n] at q;simp at q
theorem MH {h:Heap} {H:Hp} {b:Addr} {o:Obj} (e:(GB h H).get? b=some o):h.get? b=some o/\H b=none:=by
  have e':h.get? b=some o:=PySem.W.of_hideAll (trk h H) e;refine ⟨e',?_⟩;cases q:H b with
  | none=>rfl
  | some x=>
    have hm:b∈trk h H:=List.mem_filter.mpr ⟨List.mem_range.mpr (Heap.lt_size e'),by simp [q]⟩;have z:(GB h H).get? b=none:=PySem.W.hideAll_none (trk h H) hm;rw [z] at e;cases e
structure Mod (K:PySem.W.Frag) (mg:Str->Option Value) (base:Heap):Prop where
  kin:K.In base
  glob:base.Ns mainGlobals mg
  blt:∃ mb,base.Ns builtinsNs mb/\∀ x:Str,x≠"__name__"->mb x=bootBuiltins x
  nolimit:base.NoLimit
structure Cx where
  prog:Program
  w:World
  K:PySem.W.Frag
  mg:Str->Option Value
  base:Heap
  A:Around
  N:List Str
  s₀:Shared
  H₀:Hp
  env:Env
  outer:List Env
  stack:List Env
  ex:List Addr
  fn:Str->Bool
  calm:Bool
  pn:List (Addr × Obj)
  xe:Value->Shared->Prop
def frs (l:List Env):List Addr:=l.filterMap (·.frame)
abbrev Cx.fs (X:Cx):List Addr:=frs X.outer
def Vis (sc:Scope) (x:Str):Prop:=sc.names.lookup x=some .local\/sc.names.lookup x=some .cell\/sc.names.lookup x=some .free
def Loc (sc:Scope) (x:Str):Prop:=sc.names.lookup x=some .local\/sc.names.lookup x=some .cell
def Qu (env:Env) (h:Heap) (m:Str->Option Value) (x:Str) (u:Value):Prop:=
  (env.kindOf x=some .local/\m x=some u)\/((env.kindOf x=some .cell\/env.kindOf x=some .free)/\∃ c,env.cells.lookup x=some c/\h.IsCell c (some u))
structure Cx.Ok (X:Cx):Prop where
  mod:Mod X.K X.mg X.base
  kind:X.env.scope.kind= .function
  glob:X.env.globals=mainGlobals
  blt:X.env.builtins=builtinsNs
  above:X.s₀.heap.objs.size<=X.env.locals
  inj:∀ x y c,X.env.cells.lookup x=some c->X.env.cells.lookup y=some c->x=y
  has:∀ x,(X.env.kindOf x=some .cell\/X.env.kindOf x=some .free)->∃ c,X.env.cells.lookup x=some c
  cab:∀ x c,X.fn x=true->X.env.cells.lookup x=some c->X.s₀.heap.objs.size<=c
  hd:X.calm=true->X.A.handled=none
  frames:X.A.frames=some X.stack
  stk:X.stack=X.outer\/(X.stack=X.env::X.outer/\X.env.frame=some X.env.locals)
  exf:∀ b∈X.ex,b≠X.env.locals/\∀ x c,X.env.cells.lookup x=some c->c≠b
  bs:∀ b o,X.base.get? b=some o->X.s₀.heap.get? b=some o/\X.H₀ b=none
  bsz:X.base.objs.size<=X.s₀.heap.objs.size
  noex:∀ b o,X.base.get? b=some o->b∉X.ex
  exfs:∀ b∈X.ex,b∉X.fs
  funs:X.s₀.heap.FunFrames X.base X.outer
  frf:∀ b∈X.fs,X.H₀ b=none
structure Inv (X:Cx) (pins:List (Addr × Obj)) (σ:List (Option V)) (H:Hp) (s:Shared):Prop where
  ok:X.Ok
  os:s.os=X.s₀.os
  bare:AllBare s.gens
  base:Un X.fs X.ex X.H₀ H X.s₀.heap s.heap
  loc:∃ m,s.heap.Ns X.env.locals m/\∀ (i:Nat) (x:Str) (v:V),X.N[i]?=some x->σ[i]?=some (some v)->Vis X.env.scope x->∃ u,RelV v u/\Qu X.env s.heap m x u
  cell:∀ x c,X.env.cells.lookup x=some c->∃ v,s.heap.IsCell c v
  free:H X.env.locals=none
  freeC:∀ x c,X.env.cells.lookup x=some c->H c=none
  pin:∀ p∈X.pn++pins,s.heap.get? p.1=some p.2/\H p.1=none/\p.1≠X.env.locals/\p.1∉X.fs/\∀ v,p.2.data≠ .cell v
  hok:HOk X.prog X.w H s.heap
  len:σ.length=X.N.length
section
variable {X:Cx} {pins:List (Addr × Obj)} {σ:List (Option V)} {H H':Hp} {s:Shared} {h':Heap}
theorem Cx.Ok.nofr (ok:X.Ok) {b:Addr} {o:Obj} (e:X.base.get? b=some o):b∉X.fs:=λ hb=>by
  have:=(ok.funs.mem hb).1;rw [e] at this;cases this
theorem Inv.bs (I:Inv X pins σ H s):∀ b o,X.base.get? b=some o->s.heap.get? b=some o/\H b=none:=λ b o e=>
  ⟨I.base.keep b o (I.ok.bs b o e).1 (I.ok.bs b o e).2 (I.ok.nofr e) (I.ok.noex b o e),I.base.free b o (I.ok.bs b o e).1 (I.ok.bs b o e).2 (I.ok.noex b o e)⟩
theorem Inv.bk (I:Inv X pins σ H s):∀ b o,X.base.get? b=some o->s.heap.get? b=some o:=λ b o e=>(I.bs b o e).1
theorem Inv.mod (I:Inv X pins σ H s):Mod X.K X.mg X.base:=I.ok.mod
theorem Inv.kIn (I:Inv X pins σ H s):X.K.In s.heap:=I.ok.mod.kin.keeps I.bk
theorem Inv.fr (I:Inv X pins σ H s):∃ m,Fr X.base X.env.locals s.heap m:=
  let ⟨m,hn,_⟩:=I.loc
  ⟨m,hn,I.bk,Nat.le_trans I.ok.bsz I.ok.above⟩
theorem Inv.lt (I:Inv X pins σ H s):X.env.locals<s.heap.objs.size:=let ⟨_,hn,_⟩:=I.loc;hn.lt
theorem Inv.sz (I:Inv X pins σ H s):X.s₀.heap.objs.size<=s.heap.objs.size:=Nat.le_trans I.ok.above (Nat.le_of_lt I.lt)
theorem Inv.nofs (I:Inv X pins σ H s) {a:Addr} (h:s.heap.objs.size<=a):a∉X.fs:=λ hb=>by
  obtain ⟨_,o,ho,_⟩:=I.ok.funs.mem hb;exact absurd (Nat.lt_of_lt_of_le (Heap.lt_size ho) (Nat.le_trans I.sz h)) (Nat.lt_irrefl _)
theorem Inv.cne (I:Inv X pins σ H s):∀ x c,X.env.cells.lookup x=some c->c≠X.env.locals:=λ x c e z=>by
  obtain ⟨v,o,ho,hd⟩:=I.cell x c e;obtain ⟨m,⟨o',es,ep,ho',hd',_⟩,_⟩:=I.loc;rw [z,ho'] at ho;cases ho;rw [hd'] at hd;cases hd
theorem Inv.funs (I:Inv X pins σ H s):s.heap.FunFrames X.base X.outer:=by
  have all:∀ (l:List Env),(∀ b∈frs l,b∈X.fs)->X.s₀.heap.FunFrames X.base l->s.heap.FunFrames X.base l:=by
    intro l
    induction l with
    | nil=>intro _ _;trivial
    | cons env r ih=>
      intro hs hl;obtain ⟨hk,⟨L,o,hf,hn,ho,hd⟩,hr⟩:=hl;have hL:L∈X.fs:=hs L (by unfold frs;rw [List.filterMap_cons,hf];exact List.mem_cons_self);obtain ⟨sl,e⟩:=I.base.slot L o ho (I.ok.frf L hL) hL λ z=>I.ok.exfs L z hL;exact ⟨hk,⟨L,_,hf,hn,e,hd⟩,ih (λ b hb=>hs b (by unfold frs;rw [List.filterMap_cons,hf];exact List.mem_cons_of_mem _ hb)) hr⟩
  exact all X.outer (λ _ hb=>hb) I.ok.funs
theorem Inv.stack (I:Inv X pins σ H s):s.heap.FunFrames X.base X.stack:=by
  rcases I.ok.stk with e | ⟨e,hf⟩
  · rw [e];exact I.funs
  · rw [e];obtain ⟨m,hn,_⟩:=I.loc;refine .cons (by rw [I.ok.kind];decide) hf hn ?_ I.funs;exact Heap.get?_none_of_le (Nat.le_trans I.ok.bsz I.ok.above)
theorem Inv.stkSub (I:Inv X pins σ H s):∀ b∈frs X.stack,b∈X.env.locals::X.fs:=λ b hb=>by
  rcases I.ok.stk with e | ⟨e,hf⟩
  · rw [e] at hb;exact List.mem_cons_of_mem _ hb
  · rw [e] at hb;unfold frs at hb;rw [List.filterMap_cons,hf] at hb;exact hb
theorem Inv.stkFree (I:Inv X pins σ H s):∀ b∈frs X.stack,H b=none:=λ b hb=>by
  rcases List.mem_cons.mp (I.stkSub b hb) with e | hb
  · rw [e];exact I.free
  · obtain ⟨_,o,ho,_⟩:=I.ok.funs.mem hb;exact I.base.free b o ho (I.ok.frf b hb) λ z=>I.ok.exfs b z hb
theorem Inv.step {g':Array GenState} {t':Nat} {d':Drawn} {ch:List Addr} (I:Inv X pins σ H s)
    (hch:∀ b∈ch,(b∈X.ex\/X.s₀.heap.objs.size<=b)/\b≠X.env.locals/\(∀ x c,X.env.cells.lookup x=some c->c≠b)/\∀ p∈X.pn++pins,p.1≠b)
    (keep:∀ b o,b≠X.env.locals->b∉X.fs->b∉ch->s.heap.get? b=some o->H b=none->h'.get? b=some o)
    (slot:∀ b o,b≠X.env.locals->b∈X.fs->b∉ch->s.heap.get? b=some o->H b=none->∃ sl,h'.get? b=some { o with slots:=sl }) (free:∀ b o,b∉ch->s.heap.get? b=some o->H b=none->H' b=none)
    (there:∀ b o,b∉ch->s.heap.get? b=some o->∃ o',h'.get? b=some o')
    (tups:∀ b xs,H b=some (.tup xs)->H' b=some (.tup xs)) (frzs:∀ b o u,H b=some (.frz o u)->H' b=some (.frz o u)) (tbls:∀ b ps,H b=some (.tbl ps)->∃ more,H' b=some (.tbl (ps++more)))
    (ns:∀ m,s.heap.Ns X.env.locals m->h'.Ns X.env.locals m) (hok:HOk X.prog X.w H' h') (hg:AllBare g'):
    Inv X pins σ H' { s with heap:=h',gens:=g',drawn:=d',toks:=t' }:=by
  have neL:∀ b o,X.s₀.heap.get? b=some o->b≠X.env.locals:=λ b o e=>Nat.ne_of_lt (Nat.lt_of_lt_of_le (Heap.lt_size e) I.ok.above);have neC:∀ b o,X.s₀.heap.get? b=some o->b∉X.ex->b∉ch:=λ b o e hx hb=>by
    rcases (hch b hb).1 with z | z
    · exact hx z
    · exact absurd (Nat.lt_of_lt_of_le (Heap.lt_size e) z) (Nat.lt_irrefl _)
  have cellK:∀ x c,X.env.cells.lookup x=some c->∀ v,s.heap.IsCell c v->h'.IsCell c v:=λ x c e v ⟨o,ho,hd⟩=>by
    have nch:c∉ch:=λ z=>(hch c z).2.2.1 x c e rfl;by_cases hc:c∈X.fs
    · obtain ⟨sl,q⟩:=slot c o (I.cne x c e) hc nch ho (I.freeC x c e);exact ⟨_,q,hd⟩
    · exact ⟨o,keep c o (I.cne x c e) hc nch ho (I.freeC x c e),hd⟩
  refine ⟨I.ok,I.os,hg,⟨λ b o e n hb hx=> ?_,λ b o e n hb hx=> ?_,λ b o e n hx=> ?_,λ b o e hx=> ?_,λ b xs e=>tups b xs (I.base.tups b xs e),λ b o xs e=>frzs b o xs (I.base.frzs b o xs e),λ b ps e=> ?_⟩,?_,λ x c e=> ?_,?_,λ x c e=> ?_,λ p hp=> ?_,hok,I.len⟩
  · exact keep b o (neL b o e) hb (neC b o e hx) (I.base.keep b o e n hb hx) (I.base.free b o e n hx)
  · obtain ⟨sl,e1⟩:=I.base.slot b o e n hb hx;obtain ⟨sl',e2⟩:=slot b _ (neL b o e) hb (neC b o e hx) e1 (I.base.free b o e n hx);exact ⟨sl',e2⟩
  · obtain ⟨o',e1⟩:=I.base.there b o e hx;exact free b o' (neC b o e hx) e1 (I.base.free b o e n hx)
  · obtain ⟨o',e1⟩:=I.base.there b o e hx;exact there b o' (neC b o e hx) e1
  · obtain ⟨m1,e1⟩:=I.base.tbls b ps e;obtain ⟨m2,e2⟩:=tbls b _ e1;exact ⟨m1++m2,by rw [e2,Array.append_assoc]⟩
  · obtain ⟨m,hn,hl⟩:=I.loc;refine ⟨m,ns m hn,λ i x v e1 e2 e3=> ?_⟩;obtain ⟨u,r,l⟩:=hl i x v e1 e2 e3;refine ⟨u,r,?_⟩;rcases l with l | ⟨k,c,e,z⟩
    · exact .inl l
    · exact .inr ⟨k,c,e,cellK x c e _ z⟩
  · obtain ⟨v,z⟩:=I.cell x c e;exact ⟨v,cellK x c e v z⟩
  · obtain ⟨m,⟨o,_,_,ho,_⟩,_⟩:=I.loc;exact free _ o (λ z=>(hch _ z).2.1 rfl) ho I.free
  · obtain ⟨v,o,ho,hd⟩:=I.cell x c e;exact free c o (λ z=>(hch c z).2.2.1 x c e rfl) ho (I.freeC x c e)
  · obtain ⟨e,n,ne,nf,d⟩:=I.pin p hp;have nch:p.1∉ch:=λ z=>(hch p.1 z).2.2.2 p hp rfl;exact ⟨keep p.1 p.2 ne nf nch e n,free p.1 p.2 nch e n,ne,nf,d⟩
theorem Inv.un {t':Nat} (I:Inv X pins σ H s) (u:Un X.fs [] H H' s.heap h') (hok:HOk X.prog X.w H' h'):Inv X pins σ H' { s with heap:=h',toks:=t' }:=by
  obtain ⟨m,⟨o,es,ep,ho,r⟩,_⟩:=id I.loc;obtain ⟨sl,hL⟩:=u.any ho I.free (by simp);exact I.step (g':=s.gens) (d':=s.drawn) (ch:=[]) (λ _ z=>nomatch z) (λ b o _ hb _ e n=>u.keep b o e n hb (by simp)) (λ b o _ hb _ e n=>u.slot b o e n hb (by simp)) (λ b o _ e n=>u.free b o e n (by simp)) (λ b o _ e=>u.there b o e (by simp)) u.tups u.frzs u.tbls (λ m' hm=>by
    obtain ⟨o',es',ep',ho',r'⟩:=hm;rw [ho] at ho';cases ho';exact ⟨_,es',ep',hL,r'⟩) hok I.bare
theorem Inv.call {g':Array GenState} {t':Nat} {d':Drawn} {ch:List Addr} (I:Inv X pins σ H s) (u:Un (frs X.stack) ch H H' s.heap h') (hok:HOk X.prog X.w H' h') (hg:AllBare g')
    (hch:∀ b∈ch,(b∈X.ex\/X.s₀.heap.objs.size<=b)/\b≠X.env.locals/\(∀ x c,X.env.cells.lookup x=some c->c≠b)/\∀ p∈X.pn++pins,p.1≠b):
    Inv X pins σ H' { s with heap:=h',gens:=g',drawn:=d',toks:=t' }:=by
  obtain ⟨m,⟨o,es,ep,ho,r⟩,_⟩:=id I.loc;obtain ⟨sl,hL⟩:=u.any ho I.free λ z=>(hch _ z).2.1 rfl;exact I.step (ch:=ch) hch (λ b o hL hb hc e n=>u.keep b o e n (λ z=>(List.mem_cons.mp (I.stkSub b z)).elim hL hb) hc) (λ b o _ _ hc e n=>u.any e n hc) (λ b o hc e n=>u.free b o e n hc) (λ b o hc e=>u.there b o e hc) u.tups u.frzs u.tbls (λ m' hm=>by
    obtain ⟨o',es',ep',ho',r'⟩:=hm;rw [ho] at ho';cases ho';exact ⟨_,es',ep',hL,r'⟩) hok hg
theorem Inv.turned {t':Nat} {it:Addr} (I:Inv X pins σ H s) (k:∀ b o,b≠it->s.heap.get? b=some o->h'.get? b=some o) (hn:H it=none) (hL:it≠X.env.locals)
    (h1:it∈X.ex\/X.s₀.heap.objs.size<=it) (h2:∀ x c,X.env.cells.lookup x=some c->c≠it) (h3:∀ p∈X.pn++pins,p.1≠it):Inv X pins σ H { s with heap:=h',toks:=t' }:=by
  have nit:∀ b u,H b=some u->b≠it:=λ b u e z=>by rw [z,hn] at e;cases e
  refine I.step (g':=s.gens) (d':=s.drawn) (ch:=[it]) (λ b hb=> ?_) (λ b o _ _ hc e _=>k b o (λ z=>hc (by simp [z])) e) (λ b o _ _ hc e _=>⟨o.slots,k b o (λ z=>hc (by simp [z])) e⟩) (λ _ _ _ _ n=>n)
    (λ b o hc e=>⟨o,k b o (λ z=>hc (by simp [z])) e⟩) (λ _ _ e=>e) (λ _ _ _ e=>e) (λ b ps e=>⟨#[],by rw [e];simp⟩) (λ m hm=> ?_) (λ b u e=> ?_) I.bare
  · have e:b=it:=by simpa using hb
    subst e;exact ⟨h1,hL,h2,h3⟩
  · obtain ⟨o,es,ep,ho,r⟩:=hm;exact ⟨o,es,ep,k _ o (Ne.symm hL) ho,r⟩
  · refine (I.hok b u e).stay (λ c v hc q=>k c v ?_ q) (λ _ q=>q) λ _ _ q=>q;rcases hc with z | z
    · rw [z];exact nit b u e
    · exact nit c _ z
theorem Inv.tok (I:Inv X pins σ H s) (t:Nat):Inv X pins σ H { s with toks:=t }:=I.un (h':=s.heap) (t':=t) Un.refl I.hok
theorem Inv.kept {t':Nat} (I:Inv X pins σ H s) (k:∀ b u,s.heap.get? b=some u->h'.get? b=some u):Inv X pins σ H { s with heap:=h',toks:=t' }:=I.un (Un.kept k) (I.hok.kept k)
theorem Inv.laid {a:Addr} {o:HO} {t':Nat} (I:Inv X pins σ H s) (k:∀ b u,s.heap.get? b=some u->h'.get? b=some u) (hp:s.heap.objs.size<=a) (new:ObjOk X.prog X.w (upd H a o) h' a o):
    Inv X pins σ (upd H a o) { s with heap:=h',toks:=t' }:=I.un (Un.laid k hp (I.hok.fresh hp)) (I.hok.laid k hp new)
theorem Inv.write {x e:Addr} {o:HO} {t':Nat} (I:Inv X pins σ H s) (mu:Mut (H x)) (he:e=x\/H e=some (.own x)) (k:∀ b u,b≠e->s.heap.get? b=some u->h'.get? b=some u) (heo:∃ u,h'.get? e=some u)
    (new:ObjOk X.prog X.w (upd H x o) h' x o):Inv X pins σ (upd H x o) { s with heap:=h',toks:=t' }:=I.un (Un.write mu he k heo) (I.hok.write mu he k heo new)
theorem Inv.weak {σ':List (Option V)} (I:Inv X pins σ H s) (hl:σ'.length=σ.length) (w:∀ (i:Nat) v,σ'[i]?=some (some v)->σ[i]?=some (some v)):Inv X pins σ' H s:=
  ⟨I.ok,I.os,I.bare,I.base,let ⟨m,hn,hl'⟩:=I.loc;⟨m,hn,λ i x v e1 e2 e3=>hl' i x v e1 (w i v e2) e3⟩,I.cell,I.free,I.freeC,I.pin,I.hok,hl.trans I.len⟩
theorem Inv.pins_of {pins':List (Addr × Obj)} (I:Inv X pins σ H s) (h:∀ p∈pins',s.heap.get? p.1=some p.2/\H p.1=none/\p.1≠X.env.locals/\p.1∉X.fs/\∀ v,p.2.data≠ .cell v):Inv X pins' σ H s:=
  ⟨I.ok,I.os,I.bare,I.base,I.loc,I.cell,I.free,I.freeC,λ p hp=>(List.mem_append.mp hp).elim (λ z=>I.pin p (List.mem_append_left _ z)) (h p),I.hok,I.len⟩
theorem HW {N:List Str} (hN:N.Nodup) {i j:Nat} {x:Str} (a:N[i]?=some x) (b:N[j]?=some x):i=j:=by
  obtain ⟨h1,e1⟩:=List.getElem?_eq_some_iff.mp a;obtain ⟨h2,e2⟩:=List.getElem?_eq_some_iff.mp b;exact (List.getElem_inj hN).mp (e1.trans e2.symm)
theorem JL {M:Model} {A:Around} {E:Value->Shared->Prop} {i:Nat} {x:Str} {v:V} {u:Value} {Q:Unit->Shared->Prop} (I:Inv X pins σ H s) (hN:X.N.Nodup) (hi:X.N[i]?=some x) (hx:Loc X.env.scope x) (r:RelV v u)
    (h:∀ s',Inv X pins (σ.set i (some v)) H s'->(∃ a,Heap.SameBut a s.heap s'.heap/\(a=X.env.locals\/X.env.cells.lookup x=some a))->Q () s') (hf:X.fn x=true\/X.env.scope.names.lookup x=some .local:=by first | exact .inl rfl | exact .inr rfl | assumption):wpAny M A (storeName X.env x u) Q E s:=by
  obtain ⟨m,hn,hl⟩:=id I.loc;have hcls:(X.env.scope.kind == .class||(X.env.scope.kind == .module&&X.env.locals != X.env.globals))=false:=by rw [I.ok.kind];rfl
  have hiσ:i<σ.length:=by rw [I.len];exact (List.getElem?_eq_some_iff.mp hi).1
  have cne:=I.cne;have tracked:∀ {a:Addr} {h':Heap},(∃ o,s.heap.get? a=some o/\H a=none)->Heap.SameBut a s.heap h'->HOk X.prog X.w H h':=λ {a h'} ha hs b ob e=>by
    obtain ⟨_,_,hfree⟩:=ha;refine (I.hok b ob e).stay (λ c w' hc q=>(hs.2 c ?_).trans q) (λ _ q=>q) λ _ _ q=>q;rintro rfl;rcases hc with rfl | hc
    · rw [hfree] at e;cases e
    · rw [hfree] at hc;cases hc
  rcases hx with hk | hk
  · refine wpAny_storeName_local hk hn (λ h' hn' hs=> ?_) hcls;obtain ⟨oL,_,_,hoL,_⟩:=id hn;refine h _ ⟨I.ok,I.os,I.bare,⟨λ b o e n hb hx=> ?_,λ b o e n hb hx=> ?_,I.base.free,λ b o e hx=> ?_,I.base.tups,I.base.frzs,I.base.tbls⟩,⟨_,hn',λ j y v' e1 e2 e3=> ?_⟩,λ y c e=> ?_,I.free,I.freeC,λ p hp=> ?_,tracked ⟨oL,hoL,I.free⟩ hs,by simpa using I.len⟩ ⟨_,hs, .inl rfl⟩
    · exact (hs.2 b (Nat.ne_of_lt (Nat.lt_of_lt_of_le (Heap.lt_size e) I.ok.above))).trans (I.base.keep b o e n hb hx)
    · obtain ⟨sl,e1⟩:=I.base.slot b o e n hb hx;exact ⟨sl,(hs.2 b (Nat.ne_of_lt (Nat.lt_of_lt_of_le (Heap.lt_size e) I.ok.above))).trans e1⟩
    · obtain ⟨o',e1⟩:=I.base.there b o e hx;exact ⟨o',(hs.2 b (Nat.ne_of_lt (Nat.lt_of_lt_of_le (Heap.lt_size e) I.ok.above))).trans e1⟩
    · by_cases hj:j=i
      · subst hj;rw [hi] at e1;cases e1;rw [List.getElem?_set_self hiσ] at e2;cases e2;exact ⟨u,r, .inl ⟨hk,by simp⟩⟩
      · rw [List.getElem?_set_ne (Ne.symm hj)] at e2;obtain ⟨u',r',q⟩:=hl j y v' e1 e2 e3;refine ⟨u',r',?_⟩;rcases q with ⟨k,e⟩ | ⟨k,c,e,z⟩
        · refine .inl ⟨k,?_⟩;have:y≠x:=λ e=>hj (HW hN e1 (e▸hi));simp [this,e]
        · exact .inr ⟨k,c,e,z.sameBut hs (cne y c e)⟩
    · obtain ⟨w',z⟩:=I.cell y c e;exact ⟨w',z.sameBut hs (cne y c e)⟩
    · obtain ⟨e,n,ne,nf,d⟩:=I.pin p hp;exact ⟨(hs.2 p.1 ne).trans e,n,ne,nf,d⟩
  · have hfn:X.fn x=true:=by
      rcases hf with z | z
      · exact z
      · rw [z] at hk;cases hk
    obtain ⟨c,hc⟩:=I.ok.has x (.inl hk);obtain ⟨w',z⟩:=I.cell x c hc;refine wpAny_storeName_cell I.ok.kind hk hc z (λ h' hc' hs=> ?_);obtain ⟨oc,hoc,hocd⟩:=id z;refine h { s with heap:=h' } ⟨I.ok,I.os,I.bare,⟨λ b o e n hb hx=> ?_,λ b o e n hb hx=> ?_,I.base.free,λ b o e hx=> ?_,I.base.tups,I.base.frzs,I.base.tbls⟩,⟨m,hn.sameBut hs (Ne.symm (cne x c hc)),λ j y v' e1 e2 e3=> ?_⟩,λ y c' e=> ?_,I.free,I.freeC,λ p hp=> ?_,tracked ⟨oc,hoc,I.freeC x c hc⟩ hs,by simpa using I.len⟩ ⟨c,hs, .inr hc⟩
    · exact (hs.2 b (Nat.ne_of_lt (Nat.lt_of_lt_of_le (Heap.lt_size e) (I.ok.cab x c hfn hc)))).trans (I.base.keep b o e n hb hx)
    · obtain ⟨sl,e1⟩:=I.base.slot b o e n hb hx;exact ⟨sl,(hs.2 b (Nat.ne_of_lt (Nat.lt_of_lt_of_le (Heap.lt_size e) (I.ok.cab x c hfn hc)))).trans e1⟩
    · obtain ⟨o',e1⟩:=I.base.there b o e hx;exact ⟨o',(hs.2 b (Nat.ne_of_lt (Nat.lt_of_lt_of_le (Heap.lt_size e) (I.ok.cab x c hfn hc)))).trans e1⟩
    · by_cases hj:j=i
      · subst hj;rw [hi] at e1;cases e1;rw [List.getElem?_set_self hiσ] at e2;cases e2;exact ⟨u,r, .inr ⟨.inl hk,c,hc,hc'⟩⟩
      · rw [List.getElem?_set_ne (Ne.symm hj)] at e2;obtain ⟨u',r',q⟩:=hl j y v' e1 e2 e3;refine ⟨u',r',?_⟩;rcases q with q | ⟨k,c',e,z'⟩
        · exact .inl q
        · refine .inr ⟨k,c',e,z'.sameBut hs ?_⟩;rintro rfl;exact hj (HW hN e1 (I.ok.inj _ _ _ e hc▸hi))
    · by_cases hcc:c'=c
      · subst hcc;exact ⟨_,hc'⟩
      · obtain ⟨w2,z2⟩:=I.cell y c' e;exact ⟨w2,z2.sameBut hs hcc⟩
    · obtain ⟨e,n,ne,nf,d⟩:=I.pin p hp;refine ⟨(hs.2 p.1 ?_).trans e,n,ne,nf,d⟩;intro q;rw [q,hoc] at e;have q':oc=p.2:=Option.some.inj e;exact d w' (by rw [<-q'];exact hocd)
theorem DZ {M:Model} {A:Around} {E:Value->Shared->Prop} {i:Nat} {x:Str} {v:V} {u:Value} {Q:Unit->Shared->Prop} (I:Inv X pins σ H s) (hN:X.N.Nodup) (hi:X.N[i]?=some x) (hx:Loc X.env.scope x) (r:RelV v u)
    (h:∀ s',Inv X pins (σ.set i (some v)) H s'->Q () s') (hf:X.fn x=true\/X.env.scope.names.lookup x=some .local:=by first | exact .inl rfl | exact .inr rfl | assumption):wpAny M A (storeName X.env x u) Q E s:=
  JL I hN hi hx r (λ s' I' _=>h s' I') hf
theorem Inv.call' {s':Shared} {ch:List Addr} (I:Inv X pins σ H s) (ho:s'.os=s.os) (u:Un (frs X.stack) ch H H' s.heap s'.heap) (hok:HOk X.prog X.w H' s'.heap) (hg:AllBare s'.gens)
    (hch:∀ b∈ch,(b∈X.ex\/X.s₀.heap.objs.size<=b)/\b≠X.env.locals/\(∀ x c,X.env.cells.lookup x=some c->c≠b)/\∀ p∈X.pn++pins,p.1≠b):Inv X pins σ H' s':=by
  obtain ⟨h',g',d',t',o'⟩:=s';have e:o'=s.os:=ho;subst e;exact I.call (g':=g') (t':=t') (d':=d') u hok hg hch
end
abbrev XK:=Value->Option Addr->Hp->Prop
abbrev St:=List (Option V)
abbrev VK:=V->Hp->Prop
abbrev TE:=St->Hp->VK->Prop
abbrev TT:=St->Hp->(Bool->Hp->Prop)->Prop
abbrev TA:=St->Hp->(List V->Hp->Prop)->Prop
structure Ends where
  nx:St->Hp->Prop
  rt:VK
  bk:St->Hp->Prop:=λ _ _=>False
  ct:St->Hp->Prop:=λ _ _=>False
abbrev TS:=Ends->St->Hp->Prop
def EP (X:Cx) (pins:List (Addr × Obj)) (σ:St) (Q:VK) (u:Value) (s':Shared):Prop:=∃ v H',Inv X pins σ H' s'/\RelV v u/\Q v H'
def TP (X:Cx) (pins:List (Addr × Obj)) (σ:St) (Q:Bool->Hp->Prop) (b:Bool) (s':Shared):Prop:=∃ H',Inv X pins σ H' s'/\Q b H'
def AP (X:Cx) (pins:List (Addr × Obj)) (σ:St) (Q:List V->Hp->Prop) (us:List Value) (s':Shared):Prop:=∃ vs H',Inv X pins σ H' s'/\Vals vs us/\Q vs H'
def SP (X:Cx) (pins:List (Addr × Obj)) (D:Ends) (f:Flow) (s':Shared):Prop:=
  match f with
  | .next=>∃ σ' H',Inv X pins σ' H' s'/\D.nx σ' H'
  | .brk=>∃ σ' H',Inv X pins σ' H' s'/\D.bk σ' H'
  | .cont=>∃ σ' H',Inv X pins σ' H' s'/\D.ct σ' H'
  | .ret u=>∃ v σ' H',Inv X pins σ' H' s'/\RelV v u/\D.rt v H'
def PE (X:Cx) (e:Expr) (t:TE):Prop:=
  ∀ (pins:List (Addr × Obj)) (s:Shared) (σ:St) (H:Hp) (Q:VK),Inv X pins σ H s->t σ H Q->wpAny (model X.prog X.w) X.A (eval e X.env) (EP X pins σ Q) X.xe s
def PT (X:Cx) (e:Expr) (t:TT):Prop:=
  ∀ (pins:List (Addr × Obj)) (s:Shared) (σ:St) (H:Hp) (Q:Bool->Hp->Prop),Inv X pins σ H s->t σ H Q->wpAny (model X.prog X.w) X.A (isTrue e X.env (eval e X.env)) (TP X pins σ Q) X.xe s
def PW (X:Cx) (e:Expr) (t:TT):Prop:=
  ∀ (whole:Sem Value) (pins:List (Addr × Obj)) (s:Shared) (σ:St) (H:Hp) (Q:Bool->Hp->Prop),Inv X pins σ H s->t σ H Q->wpAny (model X.prog X.w) X.A (isTrue e X.env whole) (TP X pins σ Q) X.xe s
theorem PW.pt {X:Cx} {e:Expr} {t:TT} (h:PW X e t):PT X e t:=h _
def PA (X:Cx) (es:List Expr) (t:TA):Prop:=
  ∀ (pos:Pos) (pins:List (Addr × Obj)) (s:Shared) (σ:St) (H:Hp) (Q:List V->Hp->Prop),Inv X pins σ H s->t σ H Q->wpAny (model X.prog X.w) X.A (spliced (backTo pos (starEach es X.env))) (AP X pins σ Q) X.xe s
def PS (X:Cx) (st:Stmt) (t:TS):Prop:=
  ∀ (pins:List (Addr × Obj)) (s:Shared) (σ:St) (H:Hp) (D:Ends),Inv X pins σ H s->t D σ H->wpAny (model X.prog X.w) X.A (exec st X.env) (SP X pins D) X.xe s
def PSs (X:Cx) (st:List Stmt) (t:TS):Prop:=
  ∀ (pins:List (Addr × Obj)) (s:Shared) (σ:St) (H:Hp) (D:Ends),Inv X pins σ H s->t D σ H->wpAny (model X.prog X.w) X.A (execs st X.env) (SP X pins D) X.xe s
theorem thn {α:Type} {t:Sem α} {Q Q':α->Shared->Prop} {M:Model} {A:Around} {E:Value->Shared->Prop} {s:Shared} (h:wpAny M A t Q E s) (hQ:∀ a s,Q a s->Q' a s):wpAny M A t Q' E s:=wpAny_mono h hQ λ _ _ x=>x
section
variable {X:Cx}
theorem bin {a b:Expr} {ta tb:TE} (ha:PE X a ta) (hb:PE X b tb) {pins:List (Addr × Obj)} {s:Shared} {σ:St} {H:Hp} {R:V->V->Hp->Prop} (I:Inv X pins σ H s) (h:ta σ H λ x H1=>tb σ H1 λ y H2=>R x y H2)
    {α:Type} {Q:α->Shared->Prop} {f:Value->Value->Sem α}
    (hf:∀ v u s2 x y H2,Inv X pins σ H2 s2->RelV x v->RelV y u->R x y H2->wpAny (model X.prog X.w) X.A (f v u) Q X.xe s2):
    wpAny (model X.prog X.w) X.A (eval a X.env) (λ v s₁=>wpAny (model X.prog X.w) X.A (eval b X.env) (λ u s₂=>wpAny (model X.prog X.w) X.A (f v u) Q X.xe s₂) X.xe s₁) X.xe s:=by
  refine thn (ha pins s σ H _ I h) λ v s1 ⟨x,H1,I1,r1,q1⟩=> ?_;refine thn (hb pins s1 σ H1 _ I1 q1) λ u s2 ⟨y,H2,I2,r2,q2⟩=> ?_;exact hf v u s2 x y H2 I2 r1 r2 q2
def LU (i:Nat):TE:=λ σ H Q=>∃ v,σ[i]?=some (some v)/\Q v H
def tC (v:V):TE:=λ _ H Q=>Q v H
theorem OP {i:Nat} {x:Str} {pos:Pos} (hN:X.N[i]?=some x) (hv:Vis X.env.scope x) (hd:(x == ("__debug__":Str))=false:=by decide) (hcd:(x == ("__classdict__":Str))=false:=by decide):PE X (.Name x pos) (LU i):=by
  intro pins s σ H Q I h;obtain ⟨v,e,h⟩:=h;obtain ⟨m,hn,hl⟩:=I.loc;obtain ⟨u,r,l⟩:=hl i x v hN e hv;have fin:EP X pins σ Q u s:=⟨v,H,I,r,h⟩;rcases l with ⟨hk,hm⟩ | ⟨hk,c,hc,hcell⟩
  · exact wpAny_Name (wpAny_loadName_local I.ok.kind hk hn hm fin) hd
  · rcases hk with hk | hk
    · exact wpAny_Name (wpAny_loadName_cell I.ok.kind hk hc hcell fin) hd
    · exact wpAny_Name (wpAny_loadName_free I.ok.kind hk hc hcell fin hcd) hd
theorem Ac {i j pos}:PE X (.Constant (.int i) j pos) (tC (.int i)):=λ _ _ _ H _ I h=>wpAny_Constant_int ⟨.int i,H,I.tok _,⟨_,rfl⟩,h⟩
theorem Gc {b j pos}:PE X (.Constant (.bool b) j pos) (tC (.bl b)):=λ _ _ _ H _ I h=>Constant_bool ⟨.bl b,H,I,rfl,h⟩
theorem Os {j pos}:PE X (.Constant .none j pos) (tC .non):=λ _ _ _ H _ I h=>Constant_none ⟨.non,H,I,rfl,h⟩
theorem G3 {x j pos}:PE X (.Constant (.str x) j pos) (tC (.str x)):=λ _ _ _ H _ I h=>Calls.Constant_str ⟨.str x,H,I.tok _,⟨_,rfl⟩,h⟩
def Gl (X:Cx) (x:Str):Prop:=X.env.kindOf x=some .globalImplicit
theorem GC {E:Value->Shared->Prop} {pins:List (Addr × Obj)} {s:Shared} {σ:St} {H:Hp} {x:Str} {u:Value} {pos:Pos} {Q:Value->Shared->Prop} (I:Inv X pins σ H s) (hg:Gl X x) (hm:X.mg x=some u) (h:Q u s)
    (hd:(x == ("__debug__":Str))=false:=by decide):wpAny (model X.prog X.w) X.A (eval (.Name x pos) X.env) Q E s:=
  Calls.Name_function_global I.ok.kind hg (Calls.loadGlobal_global (by rw [I.ok.glob];exact I.mod.glob.keeps I.bk) hm h) hd
theorem Cb {E:Value->Shared->Prop} {pins:List (Addr × Obj)} {s:Shared} {σ:St} {H:Hp} {x:Str} {u:Value} {pos:Pos} {Q:Value->Shared->Prop} (I:Inv X pins σ H s) (hg:Gl X x) (hm:X.mg x=none) (hv:bootBuiltins x=some u) (h:Q u s)
    (hn:x≠"__name__":=by decide) (hd:(x == ("__debug__":Str))=false:=by decide):wpAny (model X.prog X.w) X.A (eval (.Name x pos) X.env) Q E s:=by
  obtain ⟨mb,h1,h2⟩:=I.mod.blt;exact Calls.Name_function_global I.ok.kind hg (Calls.loadGlobal_builtin (by rw [I.ok.glob];exact I.mod.glob.keeps I.bk) hm (by rw [I.ok.blt];exact h1.keeps I.bk) ((h2 x hn).trans hv) h) hd
theorem Jb {x:Str} {v:V} {u:Value} {pos:Pos} (hg:Gl X x) (hm:X.mg x=some u) (r:RelV v u) (hd:(x == ("__debug__":Str))=false:=by decide):PE X (.Name x pos) (tC v):=
  λ _ _ _ H _ I h=>GC I hg hm ⟨v,H,I,r,h⟩ hd
theorem Ma {x:Str} {v:V} {u:Value} {pos:Pos} (hg:Gl X x) (hm:X.mg x=none) (hv:bootBuiltins x=some u) (r:RelV v u) (hn:x≠"__name__":=by decide) (hd:(x == ("__debug__":Str))=false:=by decide):PE X (.Name x pos) (tC v):=
  λ _ _ _ H _ I h=>Cb I hg hm hv ⟨v,H,I,r,h⟩ hn hd
variable {a b:Expr} {ta tb:TE} {pos:Pos}
def PC (X:Cx) (op:CmpOp) (a b:Expr) (t:TE):Prop:=
  ∀ (pins:List (Addr × Obj)) (s:Shared) (σ:St) (H:Hp) (Q:VK),Inv X pins σ H s->t σ H Q->
    wpAny (model X.prog X.w) X.A (eval a X.env) (λ v s₁=>wpAny (model X.prog X.w) X.A (eval b X.env) (λ u s₂=>wpAny (model X.prog X.w) X.A (compareOp op v u) (EP X pins σ Q) X.xe s₂) X.xe s₁) X.xe s
theorem KQ (b:Expr) {op:CmpOp} (h:op≠ .In) (h2:op≠ .NotIn):behindInMarks op b=false:=by
  have e1:(op == CmpOp.In)=false:=by cases op <;> first | rfl | exact absurd rfl h
  have e2:(op == CmpOp.NotIn)=false:=by cases op <;> first | rfl | exact absurd rfl h2
  cases b <;> simp [behindInMarks,e1,e2]
def tB (t:TE):TT:=λ σ H Q=>t σ H λ x H1=>∃ c,x= .bl c/\Q c H1
theorem Ie {op:CmpOp} {t:TE} (h:PC X op a b t) (h1:behindInMarks op b=false:=by first | exact KQ _ (by decide) (by decide) | rfl):PT X (.Compare a [op] [b] pos) (tB t):=by
  intro pins s σ H Q I hw;refine wpAny_isTrue_Compare1 (thn (h pins s σ H _ I hw) λ v s1 h1=>thn h1 λ u s2 h2=>thn h2 λ c s3 ⟨x,H1,I1,r1,q1⟩=> ?_) h1;obtain ⟨d,rfl,q⟩:=q1;cases r1;exact wpAny_truthy_bool ⟨H1,I1,q⟩
theorem A0 {e:Expr} {t:TE} (h:PE X e t) (he:∀ whole,isTrue e X.env whole=(do let v <-whole;standAt e.pos;holding [v] (truthy v)):=by intro _;rfl):PT X e (tB t):=by
  intro pins s σ H Q I hw;refine isTrue_plain (thn (h pins s σ H _ I hw) λ v s1 ⟨x,H1,I1,r1,q1⟩=> ?_) (he _);obtain ⟨d,rfl,q⟩:=q1;cases r1;exact wpAny_truthy_bool ⟨H1,I1,q⟩
variable {tA tB':TT} {rest:List Expr}
def tOr (t u:TT):TT:=λ σ H Q=>t σ H λ c H1=>if c=true then Q true H1 else u σ H1 Q
def Po (t:TT):TT:=λ σ H Q=>t σ H λ c H1=>Q (!c) H1
theorem Fb (ha:PT X a tA):PW X (.BoolOp .Or [a] pos) tA:=by
  intro wh pins s σ H Q I h;refine isTrue_or (thn (ha pins s σ H Q I h) λ c s1 e=> ?_);cases c with
  | false=>exact isTrue_or_nil e
  | true=>exact e
theorem Hc (ha:PT X a tA) (hb:PW X (.BoolOp .Or (b::rest) pos) tB'):PW X (.BoolOp .Or (a::b::rest) pos) (tOr tA tB'):=by
  intro wh pins s σ H Q I h;refine isTrue_or (thn (ha pins s σ H _ I h) λ c s1 ⟨H1,I1,q1⟩=> ?_);cases c with
  | true=>exact ⟨H1,I1,q1⟩
  | false=>exact hb wh pins s1 σ H1 Q I1 q1
theorem CM (ha:PT X a tA):PT X (.UnaryOp .Not a pos) (Po tA):=by
  intro pins s σ H Q I h;exact isTrue_not (ha pins s σ H (λ c H1=>Q (!c) H1) I h)
def NA (ta tb:TE):TE:=λ σ H Q=>ta σ H λ x H1=>∃ c,x= .bl c/\if c=true then tb σ H1 Q else Q (.bl false) H1
def Nu (ta:TE):TE:=λ σ H Q=>ta σ H λ x H1=>∃ c,x= .bl c/\Q (.bl (!c)) H1
theorem Et {op} {t:TE} (h:PE X a t):PE X (.BoolOp op [a] pos) t:=λ pins s σ H Q I hw=>BoolOp_one (h pins s σ H Q I hw)
theorem El (ha:PE X a ta) (hb:PE X (.BoolOp .And (b::rest) pos) tb):PE X (.BoolOp .And (a::b::rest) pos) (NA ta tb):=by
  intro pins s σ H Q I h;refine BoolOp_and (thn (ha pins s σ H _ I h) λ v s1 ⟨x,H1,I1,r1,q1⟩=> ?_);obtain ⟨c,rfl,q1⟩:=q1;cases r1;refine wpAny_truthy_bool ?_;cases c with
  | true=>exact hb pins s1 σ H1 Q I1 q1
  | false=>exact ⟨.bl false,H1,I1,rfl,q1⟩
theorem NQ (ha:PE X a ta):PE X (.UnaryOp .Not a pos) (Nu ta):=by
  intro pins s σ H Q I h;refine UnaryOp_ (thn (ha pins s σ H _ I h) λ v s1 ⟨x,H1,I1,r1,q1⟩=> ?_);obtain ⟨c,rfl,q1⟩:=q1;cases r1;exact not_of (wpAny_truthy_bool ⟨.bl (!c),H1,I1,rfl,q1⟩)
def tIf (t:TT) (ta tb:TE):TE:=λ σ H Q=>t σ H λ c H1=>if c=true then ta σ H1 Q else tb σ H1 Q
theorem KR {c:Expr} (hc:PT X c tA) (ha:PE X a ta) (hb:PE X b tb):PE X (.IfExp c a b pos) (tIf tA ta tb):=by
  intro pins s σ H Q I h;refine wpAny_IfExp (thn (hc pins s σ H _ I h) λ d s1 ⟨H1,I1,q1⟩=> ?_);cases d with
  | true=>exact ha pins s1 σ H1 Q I1 q1
  | false=>exact hb pins s1 σ H1 Q I1 q1
end
def SqL (K:PySem.W.Frag) (H:Hp) (a:Addr) (xs:List V):Prop:=
  Rd H a (.lst xs)\/
    ∃ (o:Obj) (its:Array Value) (n:Nat),K.lookup a=some o/\o.cls= .type "list"/\o.dict=none/\o.data= .seq its n/\its.size<=sizeLine/\Vals xs its.toList
def SqT (K:PySem.W.Frag) (H:Hp) (a:Addr) (xs:List V):Prop:=
  Rd H a (.tup xs)\/
    ∃ (o:Obj) (its:Array Value) (n:Nat),K.lookup a=some o/\o.cls= .type "tuple"/\o.data= .seq its n/\its.size<=sizeLine/\Vals xs its.toList
def Q7:Value->Option V
  | .none=>some .non
  | .bool b=>some (.bl b)
  | .int i _=>some (.int i)
  | .str x _=>some (.str x)
  | .bytes b _=>some (.byt b)
  | .float b _=>some (.flt b)
  | .ref a=>some (.ref a)
  | .type n=>some (.ty n)
  | _=>none
theorem RelV.abs {x:V} {u:Value} (r:RelV x u):Q7 u=some x:=by
  cases x with
  | non=>cases r;rfl
  | bl _=>cases r;rfl
  | int _=>obtain ⟨t,rfl⟩:=r;rfl
  | str _=>obtain ⟨t,rfl⟩:=r;rfl
  | byt _=>obtain ⟨t,rfl⟩:=r;rfl
  | flt _=>obtain ⟨t,rfl⟩:=r;rfl
  | ref _=>cases r;rfl
  | ty _=>cases r;rfl
theorem RelV.inj {x y:V} {u:Value} (r:RelV x u) (q:RelV y u):x=y:=Option.some.inj (r.abs.symm.trans q.abs)
theorem Vals.inj:∀ {xs ys:List V} {us:List Value},Vals xs us->Vals ys us->xs=ys
  | _,_,_, .nil, .nil=>rfl
  | _,_,_, .cons r t, .cons r' t'=>by rw [r.inj r',Vals.inj t t']
section
variable {X:Cx} {pins:List (Addr × Obj)} {σ:St} {H:Hp} {s:Shared} {a:Addr} {xs ys:List V}
theorem SqL.of {K:PySem.W.Frag} (h:H a=some (.lst xs)):SqL K H a xs:= .inl (.inl h)
theorem SqT.of {K:PySem.W.Frag} (h:H a=some (.tup xs)):SqT K H a xs:= .inl (.inl h)
theorem Inv.list (I:Inv X pins σ H s) (h:SqL X.K H a xs):∃ its:List Value,Vals xs its/\PlainL s.heap a its.toArray/\xs.length<=sizeLine:=by
  rcases h with h | ⟨o,its,n,hk,hc,hd,hs,hz,r⟩
  · obtain ⟨z,its,n,r,e⟩:=h.ok I.hok;exact ⟨its,r,⟨_,n,e,rfl,rfl,rfl⟩,z⟩
  · refine ⟨its.toList,r,⟨o,n,I.kIn a o hk,hc,hd,by simpa using hs⟩,?_⟩;have e:=r.length;simp only [Array.length_toList] at e;omega
theorem Inv.tuple (I:Inv X pins σ H s) (h:SqT X.K H a xs):∃ its:List Value,Vals xs its/\IsTup s.heap a its.toArray/\xs.length<=sizeLine:=by
  rcases h with h | ⟨o,its,n,hk,hc,hs,hz,r⟩
  · obtain ⟨z,its,r,p⟩:=h.ok I.hok;exact ⟨its,r,p,z⟩
  · refine ⟨its.toList,r,⟨o,I.kIn a o hk,hc,n,by simpa using hs⟩,?_⟩;have e:=r.length;simp only [Array.length_toList] at e;omega
theorem Inv.list_inj (I:Inv X pins σ H s) (h:SqL X.K H a xs) (h':SqL X.K H a ys):xs=ys:=by
  obtain ⟨its,r,⟨o,n,e,_,_,d⟩,_⟩:=I.list h;obtain ⟨its',r',⟨o',n',e',_,_,d'⟩,_⟩:=I.list h';rw [e] at e';cases e';rw [d] at d';injection d' with d1 _;have:its=its':=by simpa using congrArg Array.toList d1
  subst this;exact r.inj r'
theorem Inv.tuple_inj (I:Inv X pins σ H s) (h:SqT X.K H a xs) (h':SqT X.K H a ys):xs=ys:=by
  obtain ⟨its,r,⟨o,e,_,n,d⟩,_⟩:=I.tuple h;obtain ⟨its',r',⟨o',e',_,n',d'⟩,_⟩:=I.tuple h';rw [e] at e';cases e';rw [d] at d';injection d' with d1 _;have:its=its':=by simpa using congrArg Array.toList d1
  subst this;exact r.inj r'
end
abbrev Cx.wish (X:Cx) (E:Value->Shared->Prop):Cx:={ X with xe:=E }
abbrev Cx.nox (X:Cx):Cx:=X.wish λ _ _=>False
theorem Cx.Ok.wish {X:Cx} (ok:X.Ok) (E:Value->Shared->Prop):(X.wish E).Ok:=
  ⟨ok.mod,ok.kind,ok.glob,ok.blt,ok.above,ok.inj,ok.has,ok.cab,ok.hd,ok.frames,ok.stk,ok.exf,ok.bs,ok.bsz,ok.noex,ok.exfs,ok.funs,ok.frf⟩
theorem Cx.Ok.unwish {X:Cx} {E:Value->Shared->Prop} (ok:(X.wish E).Ok):X.Ok:=
  ⟨ok.mod,ok.kind,ok.glob,ok.blt,ok.above,ok.inj,ok.has,ok.cab,ok.hd,ok.frames,ok.stk,ok.exf,ok.bs,ok.bsz,ok.noex,ok.exfs,ok.funs,ok.frf⟩
section
variable {X:Cx} {pins:List (Addr × Obj)} {σ:St} {H:Hp} {s:Shared} {E:Value->Shared->Prop}
theorem Inv.wish (I:Inv X pins σ H s) (E:Value->Shared->Prop):Inv (X.wish E) pins σ H s:=⟨I.ok.wish E,I.os,I.bare,I.base,I.loc,I.cell,I.free,I.freeC,I.pin,I.hok,I.len⟩
theorem Inv.unwish (I:Inv (X.wish E) pins σ H s):Inv X pins σ H s:=⟨I.ok.unwish,I.os,I.bare,I.base,I.loc,I.cell,I.free,I.freeC,I.pin,I.hok,I.len⟩
theorem SP.unwish {D:Ends} {f:Flow} {s':Shared} (h:SP (X.wish E) pins D f s'):SP X pins D f s':=by
  cases f with
  | next=>obtain ⟨σ',H',I,q⟩:=h;exact ⟨σ',H',I.unwish,q⟩
  | brk=>obtain ⟨σ',H',I,q⟩:=h;exact ⟨σ',H',I.unwish,q⟩
  | cont=>obtain ⟨σ',H',I,q⟩:=h;exact ⟨σ',H',I.unwish,q⟩
  | ret u=>obtain ⟨v,σ',H',I,r,q⟩:=h;exact ⟨v,σ',H',I.unwish,r,q⟩
theorem PSs.nox {st:List Stmt} {t:TS} (h:PSs X.nox st t):PSs X st t:=λ pins s σ H D I hw=>
  wpAny_mono (h pins s σ H D (I.wish _) hw) (λ _ _ q=>q.unwish) λ _ _ z=>False.elim z
end
section
variable {X:Cx} {st:Stmt} {rest:List Stmt} {t u:TS} {e:Expr} {te:TE} {pos:Pos}
def LL:TS:=λ D σ H=>D.nx σ H
def O0 (t u:TS):TS:=λ D σ H=>t { D with nx:=u D } σ H
theorem AC:PSs X [] LL:=λ _ _ σ H _ I h=>wpAny_execs_nil ⟨σ,H,I,h⟩
theorem Ae (h1:PS X st t) (h2:PSs X rest u):PSs X (st::rest) (O0 t u):=by
  intro pins s σ H D I h;refine wpAny_execs_cons (thn (h1 pins s σ H { D with nx:=u D } I h) λ f s1 q=> ?_);cases f with
  | next=>
    obtain ⟨σ',H',I',q⟩:=q;exact h2 pins s1 σ' H' D I' q
  | ret v=>exact q
  | brk=>exact q
  | cont=>exact q
theorem Ah (h1:PS X st t):PSs X [st] t:=by
  intro pins s σ H D I h;refine wpAny_execs_cons (thn (h1 pins s σ H D I h) λ f s1 q=> ?_);cases f with
  | next=>exact wpAny_execs_nil q
  | ret v=>exact q
  | brk=>exact q
  | cont=>exact q
theorem Inv.quiet {pins:List (Addr × Obj)} {σ:St} {H:Hp} {s:Shared} (I:Inv X pins σ H s):interactive X.env=false:=by simp [interactive,I.ok.kind]
def LM (te:TE):TS:=λ D σ H=>te σ H λ _ H1=>D.nx σ H1
theorem B3 (he:PE X e te) (hs:swapsWith e none pos.line X.env=pure false:=by rfl):PS X (.Expr e pos) (LM te):=by
  intro pins s σ H D I h;exact wpAny_Expr_any (thn (he pins s σ H _ I h) λ v s1 ⟨x,H1,I1,r1,q1⟩=>⟨σ,H1,I1,q1⟩) I.quiet hs
def OR (te:TE):TS:=λ D σ H=>te σ H D.rt
theorem An (he:PE X e te):PS X (.Return (some e) pos) (OR te):=by
  intro pins s σ H D I h;exact wpAny_Return_some (thn (he pins s σ H _ I h) λ v s1 ⟨x,H1,I1,r1,q1⟩=>⟨x,σ,H1,I1,r1,q1⟩)
def OF (c:TT) (t u:TS):TS:=λ D σ H=>c σ H λ b H1=>if b=true then t D σ H1 else u D σ H1
theorem A5 {c:Expr} {a b:List Stmt} {tc:TT} (hc:PT X c tc) (ha:PSs X a t) (hb:PSs X b u):PS X (.If c a b pos) (OF tc t u):=by
  intro pins s σ H D I h;refine wpAny_If (thn (hc pins s σ H _ I h) λ d s1 ⟨H1,I1,q1⟩=> ?_);cases d with
  | true=>exact ha pins s1 σ H1 D I1 q1
  | false=>exact hb pins s1 σ H1 D I1 q1
def Ou:TS:=λ _ _ _=>False
theorem Fm:PS X st Ou:=λ _ _ _ _ _ _ h=>h.elim
end
abbrev TG:=V->St->Hp->(St->Hp->Prop)->Prop
abbrev TGs:=List V->St->Hp->(St->Hp->Prop)->Prop
def PG (X:Cx) (target:Expr) (t:TG):Prop:=
  ∀ (pins:List (Addr × Obj)) (s:Shared) (σ:St) (H:Hp) (v:V) (u:Value) (Q:St->Hp->Prop),Inv X pins σ H s->RelV v u->t v σ H Q->
    wpAny (model X.prog X.w) X.A (assign target X.env u) (λ _ s'=>∃ σ' H',Inv X pins σ' H' s'/\Q σ' H') X.xe s
def PGs (X:Cx) (ts:List Expr) (t:TGs):Prop:=
  ∀ (pins:List (Addr × Obj)) (s:Shared) (σ:St) (H:Hp) (vs:List V) (us:List Value) (Q:St->Hp->Prop),Inv X pins σ H s->Vals vs us->t vs σ H Q->
    wpAny (model X.prog X.w) X.A (assignInOrder ((assignEach ts X.env).map (·.2)) us) (λ _ s'=>∃ σ' H',Inv X pins σ' H' s'/\Q σ' H') X.xe s
abbrev TIp:=V->V->Hp->VK->Prop
def PIp (X:Cx) (op:Operator) (t:TIp):Prop:=
  ∀ (pins:List (Addr × Obj)) (s:Shared) (σ:St) (H:Hp) (x y:V) (v u:Value) (Q:VK),Inv X pins σ H s->RelV x v->RelV y u->t x y H Q->
    wpAny (model X.prog X.w) X.A (inplaceOp op v u) (EP X pins σ Q) X.xe s
section
variable {X:Cx} {pos:Pos}
def AB (i:Nat):TG:=λ v σ H Q=>Q (σ.set i (some v)) H
theorem AD {i:Nat} {x:Str} (hN:X.N.Nodup) (hi:X.N[i]?=some x) (hx:Loc X.env.scope x) (hf:X.fn x=true\/X.env.scope.names.lookup x=some .local:=by first | exact .inl rfl | exact .inr rfl | assumption):PG X (.Name x pos) (AB i):=by
  intro pins s σ H v u Q I r h;exact wpAny_assign_Name (DZ I hN hi hx r (λ s' I'=>⟨_,H,I',h⟩) hf)
def GJ:TGs:=λ vs σ H Q=>vs=[]/\Q σ H
def BB (t:TG) (u:TGs):TGs:=λ vs σ H Q=>∃ v r,vs=v::r/\t v σ H λ σ' H'=>u r σ' H' Q
theorem EY:PGs X [] GJ:=by
  intro pins s σ H vs us Q I r h;obtain ⟨e,h⟩:=h;subst e;cases r;exact assignInOrder_nil ⟨σ,H,I,h⟩
theorem Bq {e:Expr} {es:List Expr} {t:TG} {u:TGs} (h1:PG X e t) (h2:PGs X es u)
    (hs:(assignEach (e::es) X.env).map (·.2)=assign e X.env::(assignEach es X.env).map (·.2):=by rfl):PGs X (e::es) (BB t u):=by
  intro pins s σ H vs us Q I r h;obtain ⟨v,vr,e1,h⟩:=h;subst e1;cases r with
  | cons r rr=>
    rw [hs];refine assignInOrder_cons (thn (h1 pins s σ H _ _ _ I r h) λ _ s1 ⟨σ1,H1,I1,q1⟩=> ?_);exact h2 pins s1 σ1 H1 _ _ Q I1 rr q1
def FG (K:PySem.W.Frag) (n:Nat) (t:TGs):TG:=λ v σ H Q=>∃ a xs,v= .ref a/\SqT K H a xs/\xs.length=n/\t xs σ H Q
theorem KS {es:List Expr} {k:Nat} {t:TGs} {n:Nat} (hc:X.calm=true) (h:PGs X es t)
    (hn:(assignEach es X.env).length=n:=by rfl) (hst:(assignEach es X.env).findIdx? (·.1)=none:=by rfl):PG X (.Tuple es k pos) (FG X.K n t):=by
  intro pins s σ H v u Q I r hw;obtain ⟨a,xs,e1,hq,hl,hw⟩:=hw;subst e1;cases r;obtain ⟨its,rv,ht,hz⟩:=I.tuple hq;refine assign_Tuple_tuple (I.ok.hd hc) ht (by simp [hn, <-hl,rv.length]) hst λ h' hx=> ?_;have I1:Inv X pins σ H { s with heap:=h' }:=I.kept (t':=s.toks) λ b o e=>hx b o (Nat.ne_of_lt (Heap.lt_size e)) e;exact h pins _ σ H xs _ Q I1 (by simpa using rv) hw
def J4 (te:TE) (g:TG):TS:=λ D σ H=>te σ H λ x H1=>g x σ H1 D.nx
theorem Iy {tg e:Expr} {te:TE} {g:TG} (he:PE X e te) (hg:PG X tg g) (hs:swapsWithSole [tg] e pos.line X.env=pure false:=by rfl) (hw:swappedStores [tg] e X.env=pure none:=by rfl)
    (h1:(assignEach [tg] X.env).map (·.2)=[assign tg X.env]:=by rfl):PS X (.Assign [tg] e pos) (J4 te g):=by
  intro pins s σ H D I h;refine wpAny_Assign_stores (thn (he pins s σ H _ I h) λ v s1 ⟨x,H1,I1,r1,q1⟩=> ?_) hs hw;rw [h1];exact thn (hg pins s1 σ H1 x v _ I1 r1 q1) λ _ s2 q=>q
theorem Ar {i:Nat} {x:Str} {e:Expr} {te:TE} {pos':Pos} (hN:X.N.Nodup) (hi:X.N[i]?=some x) (hx:Loc X.env.scope x) (he:PE X e te) (hs:swapsWith e (some (.Name x pos')) pos.line X.env=pure false:=by rfl) (hf:X.fn x=true\/X.env.scope.names.lookup x=some .local:=by first | exact .inl rfl | exact .inr rfl | assumption):
    PS X (.Assign [.Name x pos'] e pos) (J4 te (AB i)):=by
  intro pins s σ H D I h;refine wpAny_Assign_Name (thn (he pins s σ H _ I h) λ v s1 ⟨y,H1,I1,r1,q1⟩=> ?_) hs;exact DZ I1 hN hi hx r1 (λ s2 I2=>⟨_,H1,I2,q1⟩) hf
def Pq (i:Nat) (te:TE) (ti:TIp):TS:=λ D σ H=>∃ x,σ[i]?=some (some x)/\te σ H λ y H1=>ti x y H1 λ z H2=>D.nx (σ.set i (some z)) H2
theorem OM {i:Nat} {x:Str} {e:Expr} {te:TE} {op:Operator} {ti:TIp} {pos':Pos} (hN:X.N.Nodup) (hi:X.N[i]?=some x) (hx:Loc X.env.scope x) (he:PE X e te) (ho:PIp X op ti) (hf:X.fn x=true\/X.env.scope.names.lookup x=some .local:=by first | exact .inl rfl | exact .inr rfl | assumption):
    PS X (.AugAssign (.Name x pos') op e pos) (Pq i te ti):=by
  intro pins s σ H D I h;obtain ⟨v,e1,h⟩:=h;obtain ⟨m,hn,hl⟩:=I.loc;have vis:Vis X.env.scope x:=by rcases hx with k | k;exact .inl k;exact .inr (.inl k)
  obtain ⟨u,r,l⟩:=hl i x v hi e1 vis;refine wpAny_AugAssign_Name ?_;have go:wpAny (model X.prog X.w) X.A (eval e X.env) (λ w s₂=>wpAny (model X.prog X.w) X.A (inplaceOp op u w) (λ r s₃=>wpAny (model X.prog X.w) X.A (storeName X.env x r) (λ _=>SP X pins D .next) X.xe s₃) X.xe s₂) X.xe s:=by
    refine thn (he pins s σ H _ I h) λ w s1 ⟨y,H1,I1,r1,q1⟩=> ?_;refine thn (ho pins s1 σ H1 v y u w _ I1 r r1 q1) λ z s2 ⟨zv,H2,I2,r2,q2⟩=> ?_;exact DZ I2 hN hi hx r2 (λ s3 I3=>⟨_,H2,I3,q2⟩) hf
  rcases l with ⟨hk,hm⟩ | ⟨hk,c,hc,hcell⟩
  · exact wpAny_loadName_local I.ok.kind hk hn hm go
  · rcases hk with hk | hk
    · exact wpAny_loadName_cell I.ok.kind hk hc hcell go
    · rcases hx with k | k
      · have:X.env.scope.names.lookup x=some .free:=hk;rw [k] at this;cases this
      · have:X.env.scope.names.lookup x=some .free:=hk;rw [k] at this;cases this
end
section
variable {X:Cx} {pos:Pos}
def NY (c:TT) (tb:TS):TS:=λ D σ H=>∃ W:Nat->St->Hp->Prop,(∃ m,W m σ H)/\∀ m σ H,W m σ H->
  c σ H λ b H1=>if b=true then ∃ N:St->Hp->Prop,(∀ σ' H',N σ' H'->∃ m',m'<m/\W m' σ' H')/\tb { D with nx:=N,ct:=N,bk:=D.nx } σ H1 else D.nx σ H1
theorem Hr {c:Expr} {body:List Stmt} {tc:TT} {tb:TS} (hp:PassesOwn (model X.prog X.w) X.A X.env X.xe) (hc:PT X c tc) (hb:PSs X body tb):PS X (.While c body [] pos) (NY tc tb):=by
  intro pins s σ H D I h;obtain ⟨W,⟨m0,w0⟩,turn⟩:=h;refine wpAny_While (codeAny_whileLoop (λ n s'=>∃ σ' H',Inv X pins σ' H' s'/\W n σ' H') ?_ m0 ⟨σ,H,I,w0⟩);rintro n s1 ⟨σ1,H1,I1,w1⟩;refine wpAny_passesOwn hp (thn (hc pins s1 σ1 H1 _ I1 (turn n σ1 H1 w1)) λ b s2 ⟨H2,I2,q2⟩=> ?_);cases b with
  | true=>
    obtain ⟨N,hN,q2⟩:=q2;rw [if_pos rfl];refine wpAny_passesOwn hp (thn (hb pins s2 σ1 H2 _ I2 q2) λ f s3 q3=> ?_);cases f with
    | next=>
      obtain ⟨σ3,H3,I3,n3⟩:=q3;obtain ⟨m',hm,w3⟩:=hN σ3 H3 n3;exact ⟨m',hm,σ3,H3,I3,w3⟩
    | cont=>
      obtain ⟨σ3,H3,I3,n3⟩:=q3;obtain ⟨m',hm,w3⟩:=hN σ3 H3 n3;exact ⟨m',hm,σ3,H3,I3,w3⟩
    | brk=>exact q3
    | ret v=>exact q3
  | false=>
    rw [if_neg Bool.false_ne_true];exact wpAny_execs_nil ⟨σ1,H2,I2,q2⟩
end
structure It where
  go:Nat->Hp->Prop
  yld:Nat->Hp->V->Hp->Prop
  stop:Nat->Hp->Prop
def BV (X:Cx) (pins:List (Addr × Obj)) (H:Hp) (b:Addr):Prop:=
  H b=none/\b≠X.env.locals/\b∉X.fs/\(b∈X.ex\/X.s₀.heap.objs.size<=b)/\(∀ x c,X.env.cells.lookup x=some c->c≠b)/\∀ p∈X.pn++pins,p.1≠b
theorem Inv.fpOk {X:Cx} {pins:List (Addr × Obj)} {σ:St} {H H':Hp} {s:Shared} {b:Addr} (I:Inv X pins σ H s) (hb:s.heap.objs.size<=b) (hn:H' b=none):BV X pins H' b:=by
  refine ⟨hn,Nat.ne_of_gt (Nat.lt_of_lt_of_le I.lt hb),I.nofs hb, .inr (Nat.le_trans I.sz hb),λ x c e z=> ?_,λ p hp z=> ?_⟩
  · obtain ⟨v,q⟩:=I.cell x c e;exact absurd (Nat.lt_of_lt_of_le q.lt (by rw [z];exact hb)) (Nat.lt_irrefl _)
  · exact absurd (Nat.lt_of_lt_of_le (Heap.lt_size (I.pin p hp).1) (by rw [z];exact hb)) (Nat.lt_irrefl _)
structure Turn (P:Program) (w:World) (K:PySem.W.Frag) (tg:Expr) (J:It) (fp:List Addr) (it:Addr) (tn:Nat->Heap->Prop):Prop where
  mem:it∈fp
  obj:∀ i h,tn i h->∀ b∈fp,∃ o,h.get? b=some o/\∀ v,o.data≠ .cell v
  keep:∀ i h h',tn i h->(∀ b∈fp,∀ o,h.get? b=some o->h'.get? b=some o)->tn i h'
  item:∀ (X:Cx),X.prog=P->X.w=w->X.K=K->X.calm=true->∀ (i:Nat) (pins:List (Addr × Obj)) (s:Shared) (σ:St) (H:Hp) (E:Value->Shared->Prop),Inv X pins σ H s->(∀ b∈fp,BV X pins H b)->tn i s.heap->J.go i H->
    wpAny (model P w) X.A (pyNext (.ref it)) (λ r s1=>∃ u,r=some u/\
      wpAny (model P w) X.A (letOwnedTupleGo tg (.ref it) u) (λ _ s2=>∃ x H',Inv X pins σ H' s2/\RelV x u/\J.yld i H x H'/\tn (i+1) s2.heap/\∀ b∈fp,H' b=none) E s1) E s
  done:∀ (X:Cx),X.prog=P->X.w=w->X.K=K->X.calm=true->∀ (i:Nat) (pins:List (Addr × Obj)) (s:Shared) (σ:St) (H:Hp) (E:Value->Shared->Prop),Inv X pins σ H s->(∀ b∈fp,BV X pins H b)->tn i s.heap->J.stop i H->
    wpAny (model P w) X.A (pyNext (.ref it)) (λ r s1=>r=none/\Inv X pins σ H s1) E s
  self:∀ (A:Around) (i:Nat) (s:Shared) (Q:Value->Shared->Prop) (E:Value->Shared->Prop),tn i s.heap->Q (.ref it) s->wpAny (model P w) A (pyIter (.ref it)) Q E s
abbrev TI:=St->Hp->(It->Hp->Prop)->Prop
def PIE (X:Cx) (pins:List (Addr × Obj)) (σ:St) (tg:Expr) (R:It->Hp->Prop) (itv:Value) (s2:Shared):Prop:=
  ∃ (it:Addr) (fp:List Addr) (tn:Nat->Heap->Prop) (J:It) (H':Hp),itv= .ref it/\Inv X pins σ H' s2/\Turn X.prog X.w X.K tg J fp it tn/\tn 0 s2.heap/\(∀ b∈fp,BV X pins H' b)/\R J H'
def PI (X:Cx) (tg iter:Expr) (wi:TI):Prop:=
  ∀ (pins:List (Addr × Obj)) (s:Shared) (σ:St) (H:Hp) (R:It->Hp->Prop),Inv X pins σ H s->wi σ H R->
    wpAny (model X.prog X.w) X.A (eval iter X.env) (λ v s1=>wpAny (model X.prog X.w) X.A (pyIter v) (PIE X pins σ tg R) X.xe s1) X.xe s
theorem K4 {M:Model} {A:Around} {E:Value->Shared->Prop} {s:Shared} {tg:Expr} {it:Addr} {u:Value} {o:Obj} {n:String} {vs:Array Value} {Q:Unit->Shared->Prop} (ho:s.heap.get? it=some o) (hc:o.cls= .type n) (hd:o.data= .fields vs)
    (hn:["enumerate","zip","dict_itemiterator","dict_reverseitemiterator","odict_iterator","itertools.zip_longest","itertools.pairwise"].contains n=false) (hQ:Q () s):wpAny M A (letOwnedTupleGo tg (.ref it) u) Q E s:=by
  unfold letOwnedTupleGo;cases tg <;> first
    | exact wpAny_pure hQ
    | (cases u <;> first
        | exact wpAny_pure hQ
        | (refine wpAny_bind (wpAny_load ho ?_)
           rw [hc,hd];show wpAny M A (if (["enumerate","zip","dict_itemiterator","dict_reverseitemiterator","odict_iterator","itertools.zip_longest","itertools.pairwise"].contains n&&vs[0]? == some (rawInt _))=true then _ else _) Q E s;rw [if_neg (by intro h;rw [hn,Bool.false_and] at h;cases h)];exact wpAny_pure hQ))
def Itl (K:PySem.W.Frag) (a:Addr):It:=
  ⟨λ i H=>∃ xs x,SqL K H a xs/\xs[i]?=some x,λ i H x H'=>H'=H/\∀ xs,SqL K H a xs->xs[i]?=some x,λ i H=>∃ xs,SqL K H a xs/\xs.length<=i⟩
def Itt (K:PySem.W.Frag) (a:Addr):It:=
  ⟨λ i H=>∃ xs x,SqT K H a xs/\xs[i]?=some x,λ i H x H'=>H'=H/\∀ xs,SqT K H a xs->xs[i]?=some x,λ i H=>∃ xs,SqT K H a xs/\xs.length<=i⟩
def Itr (lo:Int) (n:Nat):It:=⟨λ i _=>i<n,λ i H x H'=>H'=H/\x= .int (lo+i),λ i _=>n<=i⟩
theorem F9 {P:Program} {w:World} {K:PySem.W.Frag} {tg:Expr} (a it:Addr):Turn P w K tg (Itl K a) [it] it (λ i h=>h.IsListIter it a i) where
  mem:=by simp
  obj:=λ i h st b hb=>by
    have e:b=it:=by simpa using hb
    subst e;obtain ⟨o,e,c,d⟩:=st;exact ⟨o,e,λ v z=>by rw [d] at z;cases z⟩
  keep:=λ i h h' st k=>st.at λ o e=>k it (by simp) o e
  item:=by
    intro X hP hw hK hc i pins s σ H E I hf st hg;subst hP hw hK;obtain ⟨xs,x,hq,hx⟩:=hg;obtain ⟨its,rv,p,hz⟩:=I.list hq;obtain ⟨u,hu,ru⟩:=rv.get hx;obtain ⟨f0,f1,f2,f3,f4,f5⟩:=hf it (by simp);refine wpAny_pyNext_list_item st p.isList (x:=u) (by simpa using hu) λ h' st' sb=> ?_;have I1:Inv X pins σ H { s with heap:=h' }:=I.turned (t':=s.toks) (λ b o hb e=>(sb.2 b hb).trans e) f0 f1 f3 f4 f5;obtain ⟨o,e,c,d⟩:=id st';exact ⟨u,rfl,K4 (s:={ s with heap:=h' }) e c d (by decide) ⟨x,H,I1,ru,⟨rfl,λ ys hy=>by rw [I.list_inj hy hq];exact hx⟩,st',λ b hb=>(hf b hb).1⟩⟩
  done:=by
    intro X hP hw hK hc i pins s σ H E I hf st hg;subst hP hw hK;obtain ⟨xs,hq,hx⟩:=hg;obtain ⟨its,rv,p,hz⟩:=I.list hq;obtain ⟨f0,f1,f2,f3,f4,f5⟩:=hf it (by simp);have hl:=rv.length;exact wpAny_pyNext_list_end (I.ok.hd hc) st p.isList (by simp;omega) λ h' eb=>⟨rfl,I.turned (t':=s.toks) (λ b o hb e=>eb b o hb e) f0 f1 f3 f4 f5⟩
  self:=λ _ _ _ _ _ st h=>wpAny_pyIter_listiter st h
theorem E6 {P:Program} {w:World} {K:PySem.W.Frag} {tg:Expr} (a it:Addr):Turn P w K tg (Itt K a) [it] it (λ i h=>h.IsTupleIter it a i) where
  mem:=by simp
  obj:=λ i h st b hb=>by
    have e:b=it:=by simpa using hb
    subst e;obtain ⟨o,e,c,d⟩:=st;exact ⟨o,e,λ v z=>by rw [d] at z;cases z⟩
  keep:=λ i h h' st k=>st.at λ o e=>k it (by simp) o e
  item:=by
    intro X hP hw hK hc i pins s σ H E I hf st hg;subst hP hw hK;obtain ⟨xs,x,hq,hx⟩:=hg;obtain ⟨its,rv,p,hz⟩:=I.tuple hq;obtain ⟨u,hu,ru⟩:=rv.get hx;obtain ⟨f0,f1,f2,f3,f4,f5⟩:=hf it (by simp);refine wpAny_pyNext_tuple_item st (show s.heap.IsTuple a its.toArray from p) (x:=u) (by simpa using hu) λ h' st' sb=> ?_;have I1:Inv X pins σ H { s with heap:=h' }:=I.turned (t':=s.toks) (λ b o hb e=>(sb.2 b hb).trans e) f0 f1 f3 f4 f5;obtain ⟨o,e,c,d⟩:=id st';exact ⟨u,rfl,K4 (s:={ s with heap:=h' }) e c d (by decide) ⟨x,H,I1,ru,⟨rfl,λ ys hy=>by rw [I.tuple_inj hy hq];exact hx⟩,st',λ b hb=>(hf b hb).1⟩⟩
  done:=by
    intro X hP hw hK hc i pins s σ H E I hf st hg;subst hP hw hK;obtain ⟨xs,hq,hx⟩:=hg;obtain ⟨its,rv,p,hz⟩:=I.tuple hq;obtain ⟨f0,f1,f2,f3,f4,f5⟩:=hf it (by simp);have hl:=rv.length;exact wpAny_pyNext_tuple_end (I.ok.hd hc) st (show s.heap.IsTuple a its.toArray from p) (by simp;omega) λ h' eb=>⟨rfl,I.turned (t':=s.toks) (λ b o hb e=>eb b o hb e) f0 f1 f3 f4 f5⟩
  self:=λ _ _ _ _ _ st h=>wpAny_pyIter_tupleiter st h
theorem IE {P:Program} {w:World} {K:PySem.W.Frag} {tg:Expr} (it:Addr) (lo:Int) (n:Nat):Turn P w K tg (Itr lo n) [it] it (λ i h=>IsRangeIter h it (lo+(i:Nat)*1) ((n:Int) - (i:Nat)) 1) where
  mem:=by simp
  obj:=λ i h st b hb=>by
    have e:b=it:=by simpa using hb
    subst e;exact ⟨_,st,λ v z=>by
      have z':Data.fields _=Data.cell v:=z;cases z'⟩
  keep:=λ i h h' st k=>k it (by simp) _ st
  item:=by
    intro X hP hw hK hc i pins s σ H E I hf st hg;subst hP hw hK;obtain ⟨f0,f1,f2,f3,f4,f5⟩:=hf it (by simp);have W:=Walks.range (prog:=X.prog) (w:=X.w) (I.ok.hd hc) it lo 1 n;refine W.item i s _ _ hg st λ v h' tk hv st' kk=> ?_;obtain ⟨t,rfl⟩:=hv;have I1:Inv X pins σ H { s with heap:=h',toks:=tk }:=I.turned (λ b o hb e=>kk b o (by simpa using hb) e) f0 f1 f3 f4 f5;refine ⟨_,rfl,K4 (s:={ s with heap:=h',toks:=tk }) (n:="range_iterator") st' rfl rfl (by decide) ⟨.int (lo+i),H,I1,⟨t,?_⟩,⟨rfl,rfl⟩,st',λ b hb=>(hf b hb).1⟩⟩;rw [Int.mul_one]
  done:=by
    intro X hP hw hK hc i pins s σ H E I hf st hg;subst hP hw hK;obtain ⟨f0,f1,f2,f3,f4,f5⟩:=hf it (by simp);exact wpAny_pyNext_range_end (I.ok.hd hc) st (by have:n<=i:=hg;omega) λ h' eb=>⟨rfl,I.turned (t':=s.toks) (λ b o hb e=>eb b o hb e) f0 f1 f3 f4 f5⟩
  self:=λ _ _ _ _ _ st h=>wpAny_pyIter_rangeiter st h
section
variable {X:Cx} {tg:Expr}
def Ll (K:PySem.W.Frag) (tl:TE):TI:=λ σ H R=>tl σ H λ x H1=>∃ a,x= .ref a/\(∃ xs,SqL K H1 a xs)/\R (Itl K a) H1
def NT (K:PySem.W.Frag) (tl:TE):TI:=λ σ H R=>tl σ H λ x H1=>∃ a,x= .ref a/\(∃ xs,SqT K H1 a xs)/\R (Itt K a) H1
theorem MY {l:Expr} {tl:TE} (hl:PE X l tl):PI X tg l (Ll X.K tl):=by
  intro pins s σ H R I h;refine thn (hl pins s σ H _ I h) λ v s1 ⟨x,H1,I1,r1,q1⟩=> ?_;obtain ⟨a,e,⟨xs,hq⟩,q⟩:=q1;subst e;cases r1;obtain ⟨its,rv,p,hz⟩:=I1.list hq;refine wpAny_pyIter_list p.isList ?_;refine ⟨s1.heap.objs.size,[s1.heap.objs.size],_,_,H1,rfl,I1.kept (t':=s1.toks) λ b o e=>Heap.get?_push_of_some _ e,F9 a _,⟨_,Heap.get?_push_size _ rfl,rfl,rfl⟩,λ b hb=> ?_,q⟩;have e:b=s1.heap.objs.size:=by simpa using hb
  subst e;exact I1.fpOk (Nat.le_refl _) (I1.hok.fresh (Nat.le_refl _))
theorem N8 {l:Expr} {tl:TE} (hl:PE X l tl):PI X tg l (NT X.K tl):=by
  intro pins s σ H R I h;refine thn (hl pins s σ H _ I h) λ v s1 ⟨x,H1,I1,r1,q1⟩=> ?_;obtain ⟨a,e,⟨xs,hq⟩,q⟩:=q1;subst e;cases r1;obtain ⟨its,rv,p,hz⟩:=I1.tuple hq;refine wpAny_pyIter_tuple (show s1.heap.IsTuple a its.toArray from p) ?_;refine ⟨s1.heap.objs.size,[s1.heap.objs.size],_,_,H1,rfl,I1.kept (t':=s1.toks) λ b o e=>Heap.get?_push_of_some _ e,E6 a _,⟨_,Heap.get?_push_size _ rfl,rfl,rfl⟩,λ b hb=> ?_,q⟩;have e:b=s1.heap.objs.size:=by simpa using hb
  subst e;exact I1.fpOk (Nat.le_refl _) (I1.hok.fresh (Nat.le_refl _))
theorem HH {pins:List (Addr × Obj)} {σ:St} {H:Hp} {s:Shared} {R:It->Hp->Prop} {E:Value->Shared->Prop} {lo hi:Int} {t u v:Tok} {tk:Nat} (I:Inv X pins σ H s) (h1: -(2 ^ 62)<=lo) (h2:lo<2 ^ 62) (h3: -(2 ^ 62)<=hi) (h4:hi<2 ^ 62)
    (q:R (Itr lo (hi - lo).toNat) H):wpAny (model X.prog X.w) X.A (pyIter (.ref s.heap.objs.size)) (PIE X pins σ tg R) E { s with heap:=s.heap.push { cls:= .type "range",data:= .fields #[.int lo t, .int hi u, .int 1 v] },toks:=tk }:=by
  refine wpAny_pyIter_range (IsRange.new ..) (small_one h1 h2 h3 h4) ?_;have I1:Inv X pins σ H { s with heap:=s.heap.push { cls:= .type "range",data:= .fields #[.int lo t, .int hi u, .int 1 v] },toks:=tk }:=I.kept λ b o e=>Heap.get?_push_of_some _ e;refine ⟨(s.heap.push { cls:= .type "range",data:= .fields #[.int lo t, .int hi u, .int 1 v] }).objs.size,[(s.heap.push { cls:= .type "range",data:= .fields #[.int lo t, .int hi u, .int 1 v] }).objs.size],_,_,H,rfl,
    I1.kept (t':=tk) λ b o e=>Heap.get?_push_of_some _ e,IE _ lo (hi - lo).toNat,?_,λ b hb=> ?_,q⟩
  · have e1:lo+((0:Nat):Int)*1=lo:=by simp
    have e2:(((hi - lo).toNat:Nat):Int) - ((0:Nat):Int)=Builtin.Range.rangeSize lo hi 1:=by rw [rangeSize_one];split <;> omega
    show IsRangeIter _ _ (lo+((0:Nat):Int)*1) ((((hi - lo).toNat:Nat):Int) - ((0:Nat):Int)) 1;rw [e1,e2];exact Heap.get?_push_size _ rfl
  · have e:b=(s.heap.push { cls:= .type "range",data:= .fields #[.int lo t, .int hi u, .int 1 v] }).objs.size:=by simpa using hb
    subst e;exact I1.fpOk (Nat.le_refl _) (I1.hok.fresh (Nat.le_refl _))
def Nr (ta:TA):TI:=λ σ H R=>ta σ H λ vs H1=>∃ j:Int,vs=[.int j]/\ -(2 ^ 62)<=j/\j<2 ^ 62/\R (Itr 0 j.toNat) H1
def Nl (ta:TA):TI:=λ σ H R=>ta σ H λ vs H1=>∃ i j:Int,vs=[.int i, .int j]/\(-(2 ^ 62)<=i/\i<2 ^ 62/\ -(2 ^ 62)<=j/\j<2 ^ 62)/\R (Itr i (j - i).toNat) H1
theorem A3 {a:Expr} {ta:TA} {p pos:Pos} (hg:Gl X "range") (hm:X.mg "range"=none) (ha:PA X [a] ta) (hs:starEach [a] X.env=[(false,eval a X.env)]:=by rfl):PI X tg (.Call (.Name "range" p) [a] [] pos) (Nr ta):=by
  intro pins s σ H R I h;refine Call_ (Cb I hg hm boot_range (PyProof.Rows.callWith_type1 (thn (ha pos pins s σ H _ I h) λ us s1 ⟨vs,H1,I1,r1,q1⟩=> ?_) hs rfl));obtain ⟨j,e,q1,q2,q⟩:=q1;subst e;cases r1 with
  | cons r rr=>
    cases rr;obtain ⟨t,rfl⟩:=r;exact call_range_1 (HH I1 (by omega) (by omega) q1 q2 (by simpa using q))
theorem JU {a b:Expr} {ta:TA} {p pos:Pos} (hg:Gl X "range") (hm:X.mg "range"=none) (ha:PA X [a,b] ta) (hs:starEach [a,b] X.env=[(false,eval a X.env),(false,eval b X.env)]:=by rfl) (hs2:starEach [b] X.env=[(false,eval b X.env)]:=by rfl):
    PI X tg (.Call (.Name "range" p) [a,b] [] pos) (Nl ta):=by
  intro pins s σ H R I h;refine Call_ (Cb I hg hm boot_range (PyProof.Rows.callWith_type1 (thn (ha pos pins s σ H _ I h) λ us s1 ⟨vs,H1,I1,r1,q1⟩=> ?_) (by rw [hs,hs2]) (by rw [hs2];rfl)));obtain ⟨i,j,e,⟨q1,q2,q3,q4⟩,q⟩:=q1;subst e;cases r1 with
  | cons r rr=>
    cases rr with
    | cons r' rr=>
      cases rr;obtain ⟨t,rfl⟩:=r;obtain ⟨t',rfl⟩:=r';exact call_range_2 (HH I1 q1 q2 q3 q4 q)
def OW (wi:TI) (g:TG) (tb:TS):TS:=λ D σ H=>wi σ H λ J H1=>∃ W:Nat->Nat->St->Hp->Prop,(∃ m,W 0 m σ H1)/\∀ i m σ H,W i m σ H->
  (J.stop i H/\D.nx σ H)\/(J.go i H/\∃ N:St->Hp->Prop,(∀ σ' H',N σ' H'->∃ m',m'<m/\W (i+1) m' σ' H')/\∀ x H',J.yld i H x H'->g x σ H' λ σ2 H2=>tb { D with nx:=N,ct:=N,bk:=D.nx } σ2 H2)
def Ex (fp:List Addr) (h:Heap):List (Addr × Obj):=fp.filterMap λ b=>(h.get? b).map λ o=>(b,o)
theorem Bg {fp:List Addr} {h:Heap} {b:Addr} {o:Obj} (hb:b∈fp) (e:h.get? b=some o):(b,o)∈Ex fp h:=List.mem_filterMap.mpr ⟨b,hb,by rw [e];rfl⟩
theorem JR {fp:List Addr} {h:Heap} {p:Addr × Obj} (hp:p∈Ex fp h):p.1∈fp/\h.get? p.1=some p.2:=by
  obtain ⟨b,hb,e⟩:=List.mem_filterMap.mp hp;cases q:h.get? b with
  | none=>rw [q] at e;cases e
  | some o=>
    rw [q] at e;have e':(b,o)=p:=Option.some.inj e;subst e';exact ⟨hb,q⟩
theorem Inv.pinned {pins:List (Addr × Obj)} {σ:St} {H:Hp} {s:Shared} {fp:List Addr} (I:Inv X pins σ H s) (hf:∀ b∈fp,BV X pins H b) (ho:∀ b∈fp,∃ o,s.heap.get? b=some o/\∀ v,o.data≠ .cell v):Inv X (pins++Ex fp s.heap) σ H s:=
  I.pins_of λ p hp=>(List.mem_append.mp hp).elim (λ z=>I.pin p (List.mem_append_right _ z)) λ z=>by
    obtain ⟨hb,e⟩:=JR z;obtain ⟨f0,f1,f2,_⟩:=hf p.1 hb;obtain ⟨o,e',d⟩:=ho p.1 hb;rw [e] at e';cases e';exact ⟨e,f0,f1,f2,d⟩
theorem Inv.unpinned {pins pl:List (Addr × Obj)} {σ:St} {H:Hp} {s:Shared} (I:Inv X (pins++pl) σ H s):Inv X pins σ H s:=I.pins_of λ p hp=>I.pin p (List.mem_append_right _ (List.mem_append_left _ hp))
theorem Bv {iter:Expr} {body:List Stmt} {wi:TI} {g:TG} {tb:TS} {pos:Pos} (hp:PassesOwn (model X.prog X.w) X.A X.env X.xe) (hc:X.calm=true) (hi:PI X tg iter wi) (hg:PG X tg g) (hb:PSs X body tb)
    (hs:∀ x,foldedSetIterable iter X.env x=pure x:=by intro _;rfl):PS X (.For tg iter body [] pos) (OW wi g tb):=by
  intro pins s σ H D I h;refine wpAny_For (thn (hi pins s σ H _ I h) λ v s1 h1=>thn h1 λ itv s2 h2=> ?_) hs;obtain ⟨it,fp,tn,J,H2,e,I2,T,st2,f2,W,⟨m0,w0⟩,turn⟩:=h2;subst e;have stat:∀ {H':Hp},(∀ b∈fp,H' b=none)->∀ b∈fp,BV X pins H' b:=λ hn b hb=>⟨hn b hb,(f2 b hb).2⟩;refine codeAny_forLoop_any (λ n s'=>∃ i σ' H',Inv X pins σ' H' s'/\tn i s'.heap/\(∀ b∈fp,H' b=none)/\W i n σ' H') ?_ m0 ⟨0,σ,H2,I2,st2,λ b hb=>(f2 b hb).1,w0⟩;rintro n s3 ⟨i,σ3,H3,I3,st3,fr3,w3⟩;rcases turn i n σ3 H3 w3 with ⟨stop,qn⟩ | ⟨go,N,hN,step⟩
  · refine wpAny_passesOwn hp (thn (T.done X rfl rfl rfl hc i pins s3 σ3 H3 X.xe I3 (stat fr3) st3 stop) λ r s4 ⟨hr,I4⟩=> ?_);subst hr;exact wpAny_execs_nil ⟨σ3,H3,I4,qn⟩
  · refine wpAny_passesOwn hp (thn (T.item X rfl rfl rfl hc i pins s3 σ3 H3 X.xe I3 (stat fr3) st3 go) λ r s4 ⟨u,hr,h4⟩=> ?_);subst hr;refine wpAny_passesOwn hp (thn h4 λ _ s5 ⟨x,H5,I5,r5,y5,st5,fr5⟩=> ?_);have I5':=I5.pinned (stat fr5) (T.obj _ _ st5);refine wpAny_passesOwn hp (thn (hg _ s5 σ3 H5 x u _ I5' r5 (step x H5 y5)) λ _ s6 ⟨σ6,H6,I6,q6⟩=> ?_);refine wpAny_passesOwn hp (thn (hb _ s6 σ6 H6 _ I6 q6) λ f s7 q7=> ?_);have again:∀ {σ7:St} {H7:Hp},Inv X (pins++Ex fp s5.heap) σ7 H7 s7->N σ7 H7->∃ m,m<n/\∃ i σ' H',Inv X pins σ' H' s7/\tn i s7.heap/\(∀ b∈fp,H' b=none)/\W i m σ' H':=λ {σ7 H7} I7 n7=>by
      obtain ⟨m',hm,w7⟩:=hN σ7 H7 n7;refine ⟨m',hm,i+1,σ7,H7,I7.unpinned,T.keep _ _ _ st5 λ b hb o e=>(I7.pin (b,o) (List.mem_append_right _ (List.mem_append_right _ (Bg hb e)))).1,λ b hb=> ?_,w7⟩;obtain ⟨o,e,d⟩:=T.obj _ _ st5 b hb;exact (I7.pin (b,o) (List.mem_append_right _ (List.mem_append_right _ (Bg hb e)))).2.1
    cases f with
    | next=>obtain ⟨σ7,H7,I7,n7⟩:=q7;exact again I7 n7
    | cont=>obtain ⟨σ7,H7,I7,n7⟩:=q7;exact again I7 n7
    | brk=>obtain ⟨σ7,H7,I7,q7⟩:=q7;exact ⟨σ7,H7,I7.unpinned,q7⟩
    | ret v=>obtain ⟨x7,σ7,H7,I7,r7,q7⟩:=q7;exact ⟨x7,σ7,H7,I7.unpinned,r7,q7⟩
end
abbrev R2:=V->V->Hp->VK->Prop
def OpR (X:Cx) (f:Value->Value->Sem Value) (r:R2):Prop:=
  ∀ (pins:List (Addr × Obj)) (s:Shared) (σ:St) (H:Hp) (x y:V) (v u:Value) (Q:VK),Inv X pins σ H s->RelV x v->RelV y u->r x y H Q->
    wpAny (model X.prog X.w) X.A (f v u) (EP X pins σ Q) X.xe s
def UnR (X:Cx) (f:Value->Sem Value) (r:V->Hp->VK->Prop):Prop:=
  ∀ (pins:List (Addr × Obj)) (s:Shared) (σ:St) (H:Hp) (x:V) (v:Value) (Q:VK),Inv X pins σ H s->RelV x v->r x H Q->
    wpAny (model X.prog X.w) X.A (f v) (EP X pins σ Q) X.xe s
def AV (X:Cx) (f:Value) (r:List V->Hp->VK->Prop):Prop:=
  ∀ (pins:List (Addr × Obj)) (s:Shared) (σ:St) (H:Hp) (xs:List V) (us:List Value) (Q:VK),Inv X pins σ H s->Vals xs us->r xs H Q->
    wpAny (model X.prog X.w) X.A (call f us) (EP X pins σ Q) X.xe s
def Ro (X:Cx) (r:V->Hp->(Bool->Hp->Prop)->Prop):Prop:=
  ∀ (pins:List (Addr × Obj)) (s:Shared) (σ:St) (H:Hp) (x:V) (v:Value) (Q:Bool->Hp->Prop),Inv X pins σ H s->RelV x v->r x H Q->
    wpAny (model X.prog X.w) X.A (truthy v) (TP X pins σ Q) X.xe s
def tOp (r:R2) (ta tb:TE):TE:=λ σ H Q=>ta σ H λ x H1=>tb σ H1 λ y H2=>r x y H2 Q
def tUn (r:V->Hp->VK->Prop) (ta:TE):TE:=λ σ H Q=>ta σ H λ x H1=>r x H1 Q
def rI (C:Int->Int->Prop) (g:Int->Int->V):R2:=λ x y H Q=>∃ i j,x= .int i/\y= .int j/\C i j/\Q (g i j) H
def rI0 (g:Int->Int->V):R2:=λ x y H Q=>∃ i j,x= .int i/\y= .int j/\Q (g i j) H
def rU (g:Int->V):V->Hp->VK->Prop:=λ x H Q=>∃ i,x= .int i/\Q (g i) H
section
variable {X:Cx} {a b c:Expr} {ta tb tc:TE} {pos:Pos}
theorem NV (ha:PE X a ta) (hb:PE X b tb) {pins:List (Addr × Obj)} {s:Shared} {σ:St} {H:Hp} {R:V->V->Hp->Prop} (I:Inv X pins σ H s)
    (h:ta σ H λ x H1=>tb σ H1 λ y H2=>R x y H2) {Q:Value->Shared->Prop} {f:Value->Value->Sem Value}
    (hf:∀ v u s2 x y H2,Inv X pins σ H2 s2->RelV x v->RelV y u->R x y H2->wpAny (model X.prog X.w) X.A (f v u) Q X.xe s2):
    wpAny (model X.prog X.w) X.A (eval a X.env) (λ v s₁=>wpAny (model X.prog X.w) X.A (eval b X.env) (λ u s₂=>wpAny (model X.prog X.w) X.A (f v u) Q X.xe s₂) X.xe s₁) X.xe s:=by
  refine thn (ha pins s σ H _ I h) λ v s1 ⟨x,H1,I1,r1,q1⟩=> ?_;refine thn (hb pins s1 σ H1 _ I1 q1) λ u s2 ⟨y,H2,I2,r2,q2⟩=> ?_;exact hf v u s2 x y H2 I2 r1 r2 q2
theorem Af {op:Operator} {r:R2} (ho:OpR X (binaryOp op) r) (ha:PE X a ta) (hb:PE X b tb):PE X (.BinOp a op b pos) (tOp r ta tb):=by
  intro pins s σ H Q I h;exact wpAny_BinOp (NV ha hb I h λ v u s2 x y H2 I2 rx ry q=>ho pins s2 σ H2 x y v u Q I2 rx ry q)
theorem Nt {op:UnaryOp} {r:V->Hp->VK->Prop} (ho:UnR X (unaryOp op) r) (ha:PE X a ta):PE X (.UnaryOp op a pos) (tUn r ta):=by
  intro pins s σ H Q I h;exact UnaryOp_ (thn (ha pins s σ H _ I h) λ v s1 ⟨x,H1,I1,r1,q1⟩=>ho pins s1 σ H1 x v Q I1 r1 q1)
theorem opI {f:Value->Value->Sem Value} {C:Int->Int->Prop} {g:Int->Int->Int}
    (rule:∀ (i j:Int) (t u:Tok) (s:Shared) (Q:Value->Shared->Prop) (E:Value->Shared->Prop),C i j->Q (.int (g i j) s.toks) { s with toks:=s.toks+1 }->wpAny (model X.prog X.w) X.A (f (.int i t) (.int j u)) Q E s):
    OpR X f (rI C λ i j=> .int (g i j)):=by
  intro pins s σ H x y v u Q I rx ry h;obtain ⟨i,j,rfl,rfl,hc,q⟩:=h;obtain ⟨t,rfl⟩:=rx;obtain ⟨t',rfl⟩:=ry;exact rule i j t t' s _ _ hc ⟨.int (g i j),H,I.tok _,⟨_,rfl⟩,q⟩
theorem JN {f:Value->Value->Sem Value} {g:Int->Int->Int}
    (rule:∀ (i j:Int) (t u:Tok) (s:Shared) (Q:Value->Shared->Prop) (E:Value->Shared->Prop),Q (.int (g i j) s.toks) { s with toks:=s.toks+1 }->wpAny (model X.prog X.w) X.A (f (.int i t) (.int j u)) Q E s):
    OpR X f (rI0 λ i j=> .int (g i j)):=by
  intro pins s σ H x y v u Q I rx ry h;obtain ⟨i,j,rfl,rfl,q⟩:=h;obtain ⟨t,rfl⟩:=rx;obtain ⟨t',rfl⟩:=ry;exact rule i j t t' s _ _ ⟨.int (g i j),H,I.tok _,⟨_,rfl⟩,q⟩
theorem N5 {f:Value->Value->Sem Value} {g:Int->Int->Bool}
    (rule:∀ (i j:Int) (t u:Tok) (s:Shared) (Q:Value->Shared->Prop) (E:Value->Shared->Prop),Q (.bool (g i j)) s->wpAny (model X.prog X.w) X.A (f (.int i t) (.int j u)) Q E s):
    OpR X f (rI0 λ i j=> .bl (g i j)):=by
  intro pins s σ H x y v u Q I rx ry h;obtain ⟨i,j,rfl,rfl,q⟩:=h;obtain ⟨t,rfl⟩:=rx;obtain ⟨t',rfl⟩:=ry;exact rule i j t t' s _ _ ⟨.bl (g i j),H,I,rfl,q⟩
def Pl (i j:Int):Prop:=0<=j/\j<=1000000/\i.natAbs<2 ^ 64
def CMul (i j:Int):Prop:=(-(2 ^ 64)<i/\i<2 ^ 64)\/(-(2 ^ 64)<j/\j<2 ^ 64)
theorem CMul.ok {i j:Int} (h:CMul i j):IntMulOk i j:=by
  rcases h with ⟨h1,h2⟩ | ⟨h1,h2⟩
  · exact .of_left (intBits_le_64 h1 h2)
  · exact .of_right (intBits_le_64 h1 h2)
theorem Ip (k:Nat):(0:Int)<=2 ^ k:=by
  rw [two_pow_cast];exact Int.natCast_nonneg _
theorem Az:OpR X (binaryOp .Add) (rI0 λ i j=> .int (i+j)):=JN λ _ _ _ _ _ _ _ q=>add_int q
theorem BL:OpR X (binaryOp .Sub) (rI0 λ i j=> .int (i - j)):=JN λ _ _ _ _ _ _ _ q=>sub_int q
theorem Ci:OpR X (binaryOp .Mult) (rI CMul λ i j=> .int (i*j)):=opI λ _ _ _ _ _ _ _ hc q=>mul_int q hc.ok
theorem Av:OpR X (binaryOp .Mod) (rI (λ _ j=>0<j) λ i j=> .int (i%j)):=opI λ i j _ _ _ _ _ hc q=>by
  have h1:(0:Int)<j:=hc;exact mod_int' (by omega) (by rw [Int.fmod_eq_emod_of_nonneg i (by omega)];exact q)
theorem GX:OpR X (binaryOp .Pow) (rI Pl λ i j=> .int (i ^ j.toNat)):=opI λ _ _ _ _ _ _ _ hc q=>pow_int_small hc.1 hc.2.1 hc.2.2 q
theorem A9:OpR X (binaryOp .LShift) (rI Pl λ i j=> .int (i*2 ^ j.toNat)):=opI λ _ _ _ _ _ _ _ hc q=>lshift_int_small hc.1 hc.2.1 hc.2.2 q
theorem Ij:OpR X (binaryOp .RShift) (rI (λ _ j=>0<=j) λ i j=> .int (i / 2 ^ j.toNat)):=opI λ i j _ _ _ _ _ hc q=>
  rshift_int hc (by rw [Int.fdiv_eq_ediv_of_nonneg i (Ip _)];exact q)
theorem GY:OpR X (binaryOp .BitAnd) (rI0 λ i j=> .int (Builtin.bitAnd i j)):=JN λ _ _ _ _ _ _ _ q=>and_int q
theorem Nb:OpR X (binaryOp .BitOr) (rI0 λ i j=> .int (Builtin.bitOr i j)):=JN λ _ _ _ _ _ _ _ q=>or_int q
theorem NZ:OpR X (binaryOp .BitXor) (rI0 λ i j=> .int (Builtin.bitXor i j)):=JN λ _ _ _ _ _ _ _ q=>xor_int q
theorem OK:OpR X (inplaceOp .BitOr) (rI0 λ i j=> .int (Builtin.bitOr i j)):=JN λ _ _ _ _ _ _ _ q=>ior_int q
theorem unI {f:Value->Sem Value} {g:Int->Int}
    (rule:∀ (i:Int) (t:Tok) (s:Shared) (Q:Value->Shared->Prop) (E:Value->Shared->Prop),Q (.int (g i) s.toks) { s with toks:=s.toks+1 }->wpAny (model X.prog X.w) X.A (f (.int i t)) Q E s):
    UnR X f (rU λ i=> .int (g i)):=by
  intro pins s σ H x v Q I rx h;obtain ⟨i,rfl,q⟩:=h;obtain ⟨t,rfl⟩:=rx;exact rule i t s _ _ ⟨.int (g i),H,I.tok _,⟨_,rfl⟩,q⟩
theorem K8:UnR X (unaryOp .USub) (rU λ i=> .int (-i)):=unI λ _ _ _ _ _ q=>neg_int q
end
def NP:V->V->Bool
  | .non, .non=>true | .non, .int _=>true | .int _, .non=>true | .non, .bl _=>true | .bl _, .non=>true | .non, .str _=>true | .str _, .non=>true
  | .int _, .int _=>true | .bl _, .bl _=>true | .str _, .str _=>true | .byt _, .byt _=>true
  | .int _, .str _=>true | .str _, .int _=>true | .bl _, .str _=>true | .str _, .bl _=>true
  | _,_=>false
def rEq:R2:=λ x y H Q=>NP x y=true/\Q (.bl (decide (x=y))) H
def rNe:R2:=λ x y H Q=>NP x y=true/\Q (.bl (!decide (x=y))) H
theorem IQ {i j:Int}:decide (V.int i=V.int j)=(i == j):=by
  rw [Bool.eq_iff_iff];simp
theorem Lp {i j:Bool}:decide (V.bl i=V.bl j)=(i == j):=by
  rw [Bool.eq_iff_iff];simp
theorem Je {i j:Str}:decide (V.str i=V.str j)=(i == j):=by
  rw [Bool.eq_iff_iff];simp
theorem Jw {i j:Array UInt8}:decide (V.byt i=V.byt j)=(i.toList == j.toList):=by
  rw [Bool.eq_iff_iff];cases i;cases j;simp
section
variable {X:Cx} {a b c:Expr} {ta tb tc:TE} {pos:Pos}
theorem Aw {pins:List (Addr × Obj)} {σ:St} {H:Hp} {s:Shared} {Q:VK} {k k':Bool} (I:Inv X pins σ H s) (q:Q (.bl k) H) (e:k=k'):EP X pins σ Q (.bool k') s:=by
  subst e;exact ⟨.bl k,H,I,rfl,q⟩
theorem By:OpR X (compareOp .Eq) rEq:=by
  intro pins s σ H x y v u Q I rx ry h;obtain ⟨hs,q⟩:=h;cases x with
  | non=>
    cases rx;cases y with
    | non=>cases ry;exact PySem.EqNone.eq_none_none (Aw I q (by simp))
    | bl j=>cases ry;exact PySem.EqNone.eq_none_bool (Aw I q (by simp))
    | int j=>obtain ⟨t',rfl⟩:=ry;exact PySem.EqNone.eq_none_int (Aw I q (by simp))
    | str j=>obtain ⟨t',rfl⟩:=ry;exact PySem.EqNone.eq_none_str (Aw I q (by simp))
    | _=>exact absurd (show false=true from hs) Bool.false_ne_true
  | bl i=>
    cases rx;cases y with
    | non=>cases ry;exact PySem.EqNone.eq_bool_none (Aw I q (by simp))
    | bl j=>cases ry;exact eq_bool (Aw I q Lp)
    | str j=>obtain ⟨t',rfl⟩:=ry;exact PySem.EqMixed.eq_bool_str (Aw I q (by simp))
    | _=>exact absurd (show false=true from hs) Bool.false_ne_true
  | int i=>
    obtain ⟨t,rfl⟩:=rx;cases y with
    | non=>cases ry;exact PySem.EqNone.eq_int_none (Aw I q (by simp))
    | int j=>obtain ⟨t',rfl⟩:=ry;exact eq_int (Aw I q IQ)
    | str j=>obtain ⟨t',rfl⟩:=ry;exact PySem.EqMixed.eq_int_str (Aw I q (by simp))
    | _=>exact absurd (show false=true from hs) Bool.false_ne_true
  | str i=>
    obtain ⟨t,rfl⟩:=rx;cases y with
    | non=>cases ry;exact PySem.EqNone.eq_str_none (Aw I q (by simp))
    | bl j=>cases ry;exact PySem.EqMixed.eq_str_bool (Aw I q (by simp))
    | int j=>obtain ⟨t',rfl⟩:=ry;exact PySem.EqMixed.eq_str_int (Aw I q (by simp))
    | str j=>obtain ⟨t',rfl⟩:=ry;exact eq_str (Aw I q Je)
    | _=>exact absurd (show false=true from hs) Bool.false_ne_true
  | byt i=>
    obtain ⟨t,rfl⟩:=rx;cases y with
    | byt j=>obtain ⟨t',rfl⟩:=ry;exact PySem.W.eq_bytes (Aw I q Jw)
    | _=>exact absurd (show false=true from hs) Bool.false_ne_true
  | _=>cases y <;> exact absurd (show false=true from hs) Bool.false_ne_true
theorem LD:OpR X (compareOp .NotEq) rNe:=by
  intro pins s σ H x y v u Q I rx ry h;obtain ⟨hs,q⟩:=h;cases x with
  | non=>
    cases rx;cases y with
    | non=>cases ry;exact PySem.EqNone.ne_none_none (Aw I q (by simp))
    | bl j=>cases ry;exact PySem.EqNone.ne_none_bool (Aw I q (by simp))
    | int j=>obtain ⟨t',rfl⟩:=ry;exact PySem.EqNone.ne_none_int (Aw I q (by simp))
    | str j=>obtain ⟨t',rfl⟩:=ry;exact PySem.EqNone.ne_none_str (Aw I q (by simp))
    | _=>exact absurd (show false=true from hs) Bool.false_ne_true
  | bl i=>
    cases rx;cases y with
    | non=>cases ry;exact PySem.EqNone.ne_bool_none (Aw I q (by simp))
    | bl j=>cases ry;exact ne_bool (Aw I q (congrArg not Lp))
    | str j=>obtain ⟨t',rfl⟩:=ry;exact PySem.EqMixed.ne_bool_str (Aw I q (by simp))
    | _=>exact absurd (show false=true from hs) Bool.false_ne_true
  | int i=>
    obtain ⟨t,rfl⟩:=rx;cases y with
    | non=>cases ry;exact PySem.EqNone.ne_int_none (Aw I q (by simp))
    | int j=>obtain ⟨t',rfl⟩:=ry;exact ne_int (Aw I q (congrArg not IQ))
    | str j=>obtain ⟨t',rfl⟩:=ry;exact PySem.EqMixed.ne_int_str (Aw I q (by simp))
    | _=>exact absurd (show false=true from hs) Bool.false_ne_true
  | str i=>
    obtain ⟨t,rfl⟩:=rx;cases y with
    | non=>cases ry;exact PySem.EqNone.ne_str_none (Aw I q (by simp))
    | bl j=>cases ry;exact PySem.EqMixed.ne_str_bool (Aw I q (by simp))
    | int j=>obtain ⟨t',rfl⟩:=ry;exact PySem.EqMixed.ne_str_int (Aw I q (by simp))
    | str j=>obtain ⟨t',rfl⟩:=ry;exact ne_str (Aw I q (congrArg not Je))
    | _=>exact absurd (show false=true from hs) Bool.false_ne_true
  | byt i=>
    obtain ⟨t,rfl⟩:=rx;cases y with
    | byt j=>obtain ⟨t',rfl⟩:=ry;exact PySem.W.ne_bytes (Aw I q (congrArg not Jw))
    | _=>exact absurd (show false=true from hs) Bool.false_ne_true
  | _=>cases y <;> exact absurd (show false=true from hs) Bool.false_ne_true
theorem Pu:OpR X (compareOp .Lt) (rI0 λ i j=> .bl (decide (i<j))):=N5 λ _ _ _ _ _ _ _ q=>lt_int q
theorem Nx:OpR X (compareOp .LtE) (rI0 λ i j=> .bl (decide (i<=j))):=N5 λ _ _ _ _ _ _ _ q=>le_int q
theorem O5:OpR X (compareOp .Gt) (rI0 λ i j=> .bl (decide (j<i))):=N5 λ _ _ _ _ _ _ _ q=>gt_int q
theorem AF (b:Expr) {op:CmpOp} (h:op≠ .In:=by decide) (h2:op≠ .NotIn:=by decide):behindInMarks op b=false:=by
  have e1:(op == CmpOp.In)=false:=by cases op <;> first | rfl | exact absurd rfl h
  have e2:(op == CmpOp.NotIn)=false:=by cases op <;> first | rfl | exact absurd rfl h2
  cases b <;> simp [behindInMarks,e1,e2]
theorem Bo {op:CmpOp} {r:R2} (ho:OpR X (compareOp op) r) (ha:PE X a ta) (hb:PE X b tb) (hm:behindInMarks op b=false):PE X (.Compare a [op] [b] pos) (tOp r ta tb):=by
  intro pins s σ H Q I h;exact wpAny_Compare1 (NV ha hb I h λ v u s2 x y H2 I2 rx ry q=>ho pins s2 σ H2 x y v u Q I2 rx ry q) hm
def Nq (t:TE):TT:=λ σ H Q=>t σ H λ x H'=>∃ k,x= .bl k/\Q k H'
theorem AQ {op:CmpOp} {r:R2} (ho:OpR X (compareOp op) r) (ha:PE X a ta) (hb:PE X b tb) (hm:behindInMarks op b=false):PT X (.Compare a [op] [b] pos) (Nq (tOp r ta tb)):=by
  intro pins s σ H Q I h;refine wpAny_isTrue_Compare1 (thn (ha pins s σ H _ I h) λ v s1 ⟨x,H1,I1,r1,q1⟩=>thn (hb pins s1 σ H1 _ I1 q1) λ u s2 ⟨y,H2,I2,r2,q2⟩=>
    thn (ho pins s2 σ H2 x y v u _ I2 r1 r2 q2) λ c s3 ⟨z,H3,I3,r3,k,e,q3⟩=> ?_) hm
  subst e;cases r3;exact wpAny_truthy_bool ⟨H3,I3,q3⟩
def KI (r r':R2) (ta tb tc:TE):TE:=λ σ H Q=>ta σ H λ x H1=>tb σ H1 λ y H2=>r x y H2 λ z H3=>∃ k,z= .bl k/\
  (if k=true then tc σ H3 λ w' H4=>r' y w' H4 Q else Q (.bl false) H3)
theorem K5 {op op':CmpOp} {r r':R2} (ho:OpR X (compareOp op) r) (ho':OpR X (compareOp op') r') (ha:PE X a ta) (hb:PE X b tb) (hc:PE X c tc)
    (hm:lastMarks [op,op'] [b,c]=false:=by with_unfolding_all rfl):PE X (.Compare a [op,op'] [b,c] pos) (KI r r' ta tb tc):=by
  intro pins s σ H Q I h;refine Compare_chain (thn (ha pins s σ H _ I h) λ v s1 ⟨x,H1,I1,r1,q1⟩=>chain_link (thn (hb pins s1 σ H1 _ I1 q1) λ u s2 ⟨y,H2,I2,r2,q2⟩=>
    thn (ho pins s2 σ H2 x y v u _ I2 r1 r2 q2) λ d s3 ⟨z,H3,I3,r3,k,e,q3⟩=> ?_)) hm
  subst e;cases r3;refine wpAny_truthy_bool ?_;cases k with
  | false=>exact ite_ff ⟨.bl false,H3,I3,rfl,q3⟩
  | true=>exact ite_tt (chain_last (thn (hc pins s3 σ H3 _ I3 q3) λ w' s4 ⟨z',H4,I4,r4,q4⟩=>ho' pins s4 σ H4 y z' u w' Q I4 r2 r4 q4))
def Qb (K:PySem.W.Frag) (x:V) (H:Hp) (k:Bool):Prop:=
  match x with
  | .non=>k=false
  | .bl b=>k=b
  | .int i=>k=(i != 0)
  | .str y=>y.length<=sizeLine/\k=((y.length:Int) != 0)
  | .byt y=>y.size<=sizeLine/\k=((y.size:Int) != 0)
  | .ref p=>(∃ xs,SqL K H p xs/\k= !xs.isEmpty)\/(∃ xs,SqT K H p xs/\k= !xs.isEmpty)\/∃ kvs,H p=some (.dK kvs)/\k= !kvs.isEmpty
  | _=>False
theorem Iq {κ:Type} {kvs:List (κ × V)} {vs:List (κ × Value)} (r:KV kvs vs):(!vs.isEmpty)= !kvs.isEmpty:=by
  cases r <;> rfl
theorem Fx {xs:List V} {its:List Value} (r:Vals xs its):(!its.toArray.isEmpty)= !xs.isEmpty:=by
  cases r <;> simp
theorem GP:(sizeLine:Nat)<2 ^ 63:=by rw [sizeLine_eq];decide
theorem Qc:Ro X (λ x H Q=>∃ k,Qb X.K x H k/\Q k H):=by
  intro pins s σ H x v Q I rx h;obtain ⟨k,e,q⟩:=h;have hl:=GP;have hs:sizeLine=16777216:=sizeLine_eq;cases x with
  | non=>
    cases rx;have e':k=false:=e;subst e';exact truthy_none ⟨H,I,q⟩
  | bl b=>
    cases rx;have e':k=b:=e;subst e';exact wpAny_truthy_bool ⟨H,I,q⟩
  | int i=>
    obtain ⟨t,rfl⟩:=rx;have e':k=(i != 0):=e;subst e';exact PySem.P.truthy_int ⟨H,I,q⟩
  | str y=>
    obtain ⟨t,rfl⟩:=rx;obtain ⟨hy,e'⟩:y.length<=sizeLine/\k=((y.length:Int) != 0):=e;subst e';exact PySem.P.truthy_str (by omega) ⟨H,I.tok _,q⟩
  | byt y=>
    obtain ⟨t,rfl⟩:=rx;obtain ⟨hy,e'⟩:y.size<=sizeLine/\k=((y.size:Int) != 0):=e;subst e';exact PySem.W.truthy_bytes (by omega) ⟨H,I.tok _,q⟩
  | ref p=>
    cases rx;have e':(∃ xs,SqL X.K H p xs/\k= !xs.isEmpty)\/(∃ xs,SqT X.K H p xs/\k= !xs.isEmpty)\/∃ kvs,H p=some (.dK kvs)/\k= !kvs.isEmpty:=e;rcases e' with ⟨xs,hx,e'⟩ | ⟨xs,hx,e'⟩ | ⟨kvs,hx,e'⟩
    · subst e';obtain ⟨its,r,pl,hz⟩:=I.list hx;have hlen:=r.length;exact wpAny_truthy_list pl.isList (by simp only [List.size_toArray];omega) ⟨H,I.tok _,by rw [Fx r];exact q⟩
    · subst e';obtain ⟨its,r,pl,hz⟩:=I.tuple hx;have hlen:=r.length;exact truthy_tuple pl (by simp only [List.size_toArray];omega) ⟨H,I.tok _,by rw [Fx r];exact q⟩
    · subst e';obtain ⟨hz,hS,vs,r,m⟩:kvs.length<=sizeLine/\(p == sysModules)=false/\∃ vs,KV kvs vs/\s.heap.DictOf (AO X.prog X.w) p vs:=I.hok p _ hx;have hlen:kvs.length=vs.length:=Paired.length r;exact wpAny_truthy_dict hS m (by omega) ⟨H,I.tok _,by rw [Iq r];exact q⟩
  | _=>exact (show False from e).elim
theorem Ey {x:V} {us:List Value} (r:Vals [x] us):∃ u,us=[u]/\RelV x u:=by
  cases r with
  | cons r1 r2=>cases r2;exact ⟨_,rfl,r1⟩
theorem Jv {x y:V} {us:List Value} (r:Vals [x,y] us):∃ u w',us=[u,w']/\RelV x u/\RelV y w':=by
  cases r with
  | cons r1 r2=>
    cases r2 with
    | cons r3 r4=>cases r4;exact ⟨_,_,rfl,r1,r3⟩
theorem Kc (hc:X.calm=true):AV X (.builtin "max") (λ xs H Q=>∃ i j,xs=[.int i, .int j]/\Q (.int (if j>i then j else i)) H):=by
  intro pins s σ H xs us Q I r h;obtain ⟨i,j,rfl,q⟩:=h;obtain ⟨u,w',rfl,⟨t,rfl⟩,⟨t',rfl⟩⟩:=Jv r;refine max_two_ints (I.ok.hd hc) λ h' tk k=>⟨_,H,I.kept k,?_,q⟩;by_cases hj:j>i
  · rw [if_pos hj,if_pos hj];exact ⟨_,rfl⟩
  · rw [if_neg hj,if_neg hj];exact ⟨_,rfl⟩
theorem J6 (hc:X.calm=true):AV X (.builtin "min") (λ xs H Q=>∃ i j,xs=[.int i, .int j]/\Q (.int (if j<i then j else i)) H):=by
  intro pins s σ H xs us Q I r h;obtain ⟨i,j,rfl,q⟩:=h;obtain ⟨u,w',rfl,⟨t,rfl⟩,⟨t',rfl⟩⟩:=Jv r;refine min_two_ints (I.ok.hd hc) λ h' tk k=>⟨_,H,I.kept k,?_,q⟩;by_cases hj:j<i
  · rw [if_pos hj,if_pos hj];exact ⟨_,rfl⟩
  · rw [if_neg hj,if_neg hj];exact ⟨_,rfl⟩
theorem J2:AV X (.type "int") (λ xs H Q=>(∃ i,xs=[.int i]/\Q (.int i) H)\/∃ k,xs=[.bl k]/\Q (.int (if k then 1 else 0)) H):=by
  intro pins s σ H xs us Q I r h;rcases h with ⟨i,rfl,q⟩ | ⟨k,rfl,q⟩
  · obtain ⟨u,rfl,t,rfl⟩:=Ey r;exact call_int_int ⟨.int i,H,I,⟨_,rfl⟩,q⟩
  · obtain ⟨u,rfl,r1⟩:=Ey r;cases r1;exact call_int_bool ⟨.int (if k then 1 else 0),H,I.tok _,⟨_,rfl⟩,q⟩
def Ps (K:PySem.W.Frag) (x:V) (H:Hp) (n:Nat):Prop:=
  match x with
  | .str y=>y.length<=sizeLine/\n=y.length
  | .byt y=>y.size<=sizeLine/\n=y.size
  | .ref p=>(∃ xs,SqL K H p xs/\n=xs.length)\/∃ xs,SqT K H p xs/\n=xs.length
  | _=>False
theorem Lk:AV X (.builtin "len") (λ xs H Q=>∃ x n,xs=[x]/\Ps X.K x H n/\Q (.int n) H):=by
  intro pins s σ H xs us Q I r h;obtain ⟨x,n,rfl,e,q⟩:=h;obtain ⟨u,rfl,rx⟩:=Ey r;have hl:=GP;have hs:sizeLine=16777216:=sizeLine_eq;cases x with
  | str y=>
    obtain ⟨t,rfl⟩:=rx;obtain ⟨hy,e'⟩:y.length<=sizeLine/\n=y.length:=e;subst e';exact len_str (by omega) ⟨.int _,H,I.tok _,⟨_,rfl⟩,q⟩
  | byt y=>
    obtain ⟨t,rfl⟩:=rx;obtain ⟨hy,e'⟩:y.size<=sizeLine/\n=y.size:=e;subst e';exact PySem.W.len_bytes (by omega) ⟨.int _,H,I.tok _,⟨_,rfl⟩,q⟩
  | ref p=>
    cases rx;have e':(∃ xs,SqL X.K H p xs/\n=xs.length)\/∃ xs,SqT X.K H p xs/\n=xs.length:=e;rcases e' with ⟨xs,hx,e'⟩ | ⟨xs,hx,e'⟩
    · subst e';obtain ⟨its,r',pl,hz⟩:=I.list hx;have hlen:=r'.length;exact Calls.call_len_list pl.isList (by simp only [List.size_toArray];omega) ⟨.int xs.length,H,I.tok _,⟨_,by simp only [List.size_toArray];rw [hlen]⟩,q⟩
    · subst e';obtain ⟨its,r',pl,hz⟩:=I.tuple hx;have hlen:=r'.length;exact len_tuple pl (by simp only [List.size_toArray];omega) ⟨.int xs.length,H,I.tok _,⟨_,by simp only [List.size_toArray];rw [hlen]⟩,q⟩
  | _=>exact (show False from e).elim
end
structure ObjM (h:Heap) (x dx C:Addr) (mA:Str->Option Value):Prop where
  obj:h.get? x=some (PySem.W.instObj C dx)
  ns:h.Ns1 dx mA
  ne:dx≠x
theorem Ke {h:Heap} {dx:Addr} {mA:Str->Option Value} (n:h.Ns1 dx mA):∃ od,h.get? dx=some od/\∀ name,PySem.W.lookIn name od=some (mA name):=by
  obtain ⟨o,es,ep,ho,hd,hk,_,hm⟩:=n;refine ⟨o,ho,λ name=> ?_⟩;have e:=hm name;unfold nsFind findBy at e;rw [<-Array.find?_toList] at e;unfold PySem.W.lookIn;rw [hd];dsimp only;split
  · rename_i y q
    rw [q] at e;exact congrArg some e
  · rename_i q
    rw [q] at e;have a:es.toList.any (·.refKey)=false:=by
      rw [List.any_eq_false];intro y hy;obtain ⟨z,t,hkey⟩:=hk y (Array.mem_toList_iff.mp hy);simp [DictEntry.refKey,hkey]
    have a':¬ es.toList.any (·.refKey)=true:=by rw [a];exact Bool.false_ne_true
    rw [if_neg a'];exact congrArg some e
theorem ObjM.look {h:Heap} {x dx C:Addr} {mA:Str->Option Value} (I:ObjM h x dx C mA):∃ od,PySem.W.InstAt h x (PySem.W.instObj C dx) C (some od)/\∀ name,PySem.W.lookIn name od=some (mA name):=
  let ⟨od,ho,hl⟩:=Ke I.ns
  ⟨od,⟨I.obj,rfl,rfl,ho⟩,hl⟩
section
variable {prog:Program} {w:World} {A:Around} {E:Value->Shared->Prop} {s:Shared} {K:PySem.W.Frag} {x dx C f:Addr} {mA:Str->Option Value} {name:Str} {v:Value}
theorem M3 {expr:Bool} {Q:Value->Shared->Prop} (X:K.In s.heap) (I:ObjM s.heap x dx C mA) (hg:PySem.W.plainGet K C name=true) (hh:PySem.W.hasDictIn K C=true)
    (ha:PySem.W.findIn K (.ref C) name=some none) (hv:mA name=some v) (hv':PySem.W.handedIn v=true) (h:Q v { s with toks:=s.toks+1 }):
    wpAny (model prog w) A (getAttr (.ref x) name expr) Q E s:=by
  obtain ⟨od,J,hl⟩:=I.look;exact PySem.W.get_value X J (PySem.W.plainGet_of hg).1 (PySem.W.findObj_own hh ha rfl (by rw [hl,hv])) hv' h
theorem Lq {pl:Sem Bool} {Q:Value × List Value->Shared->Prop} (X:K.In s.heap) (I:ObjM s.heap x dx C mA) (hg:PySem.W.plainGet K C name=true)
    (hf:PySem.W.findIn K (.ref C) name=some (some (.ref f))) (ht:PySem.W.isFn K (.ref f)=true) (hv:mA name=none) (h:Q (.ref f,[.ref x]) s):
    wpAny (model prog w) A (getMethod (.ref x) name pl) Q E s:=by
  obtain ⟨od,J,hl⟩:=I.look;exact PySem.W.method_fn X J (PySem.W.plainGet_of hg).1 (PySem.W.plainGet_of hg).2 hf (beq_iff_eq.mp ht) (by show (PySem.W.lookIn name od).map (·.isSome)=some false;rw [hl,hv];rfl) h
theorem Mv {ns:List Str} {Q:Unit->Shared->Prop} (X:K.In s.heap) (I:ObjM s.heap x dx C mA)
    (hs:PySem.W.findIn K (.ref C) "__setattr__"=some (some (.builtin "object.__setattr__"))) (hp:PySem.W.plainOver K C=true) (ht:PySem.W.takerIn K C name=some none) (hh:PySem.W.hasDictIn K C=true)
    (hw:PySem.Within mA ns) (hsz:ns.length<=sizeLine)
    (h:∀ h',ObjM h' x dx C (λ y=>if y=name then some v else mA y)->Heap.SameBut dx s.heap h'->Q () { s with heap:=h',toks:=s.toks+2 }):
    wpAny (model prog w) A (setAttr (.ref x) name v) Q E s:=by
  obtain ⟨od,J,hl⟩:=I.look;refine PySem.W.set_plain X J hs (PySem.W.osa_open (s:={ s with toks:=s.toks+1 }) (r:=none) X J hp ht λ b=> ?_);obtain ⟨cd,hc,hd'⟩:=PySem.W.any_some hh;have hx:s.heap.get? x=some ⟨.ref C,some dx, .plain, #[]⟩:=I.obj;refine wpAny_bind (wpAny_pure (wpAny_bind (wpAny_bind (wpAny_loadPart hx (wpAny_bind (PySem.W.Looks.here (s:={ s with toks:=s.toks+1 }) (PySem.W.looks_clsIn X hc) ?_))))));rw [hd'];refine wpAny_pure (a:=some dx) (wpAny_bind (wpAny_pure (wpAny_bind ?_)));refine wpAny_nsSet1 (s:={ s with toks:=s.toks+1 }) I.ns λ h' hn2 hs2=> ?_;obtain ⟨oD,esD,epD,hoD,hdD,hcD⟩:=hn2.count (PySem.Within.cons name v hw);refine wpAny_bind (wpAny_lookBehind hoD (by rw [hdD];exact pastItsLine_dict (Nat.le_trans hcD (by rw [List.length_cons];omega))) ?_);exact wpAny_pure (h _ ⟨(hs2.2 _ (Ne.symm I.ne)).trans I.obj,hn2,I.ne⟩ hs2)
theorem KF {R:Result->Shared->Prop} {vs:List Value} {kw:List (Str × Value)} (X:K.In s.heap) (hm:PySem.W.makesIn K C=true)
    (hi:PySem.W.findIn K (.ref C) "__init__"=some (some (.ref f))) (hf:PySem.W.typeIn K (.ref f)=some (.type "function"))
    (h:codeAny (model prog w) (A.under (.builtin "type.__call__" ⟨.ref C::vs,kw⟩)) (.call (.ref f) ⟨.ref (s.heap.objs.size+1)::vs,kw⟩) (PySem.W.InitBack (s.heap.objs.size+1) R)
      { s with heap:=(s.heap.push PySem.W.emptyDict).push (PySem.W.instObj C s.heap.objs.size) }):
    codeAny (model prog w) A (.call (.ref C) ⟨vs,kw⟩) R s:=by
  obtain ⟨hh,g,d,t,os⟩:=s;exact PySem.W.make_core (PySem.W.makes_of X hm) (PySem.W.looks_findIn X hi) (λ self=>PySem.W.bind_fn X self hf) (.inl rfl) h
end
def CH (f:Str) (v:V):List (Str × V)->List (Str × V)
  | []=>[(f,v)]
  | (g,x)::r=>if g=f then (g,v)::r else (g,x)::CH f v r
theorem EF (f g:Str) (v:V):∀ fs:List (Str × V),(CH f v fs).lookup g=if g=f then some v else fs.lookup g
  | []=>by
    show List.lookup g [(f,v)]=_;by_cases h:g=f
    · have hb:(g == f)=true:=beq_iff_eq.mpr h;simp only [List.lookup,hb,if_pos h]
    · have hb:(g == f)=false:=beq_eq_false_iff_ne.mpr h;simp only [List.lookup,hb,if_neg h]
  | (k,x)::r=>by
    have ih:=EF f g v r;rw [show CH f v ((k,x)::r)=(if k=f then (k,v)::r else (k,x)::CH f v r) from rfl];by_cases hk:k=f
    · rw [if_pos hk];by_cases h:g=k
      · have hb:(g == k)=true:=beq_iff_eq.mpr h;simp only [List.lookup,hb,if_pos (h.trans hk)]
      · have hb:(g == k)=false:=beq_eq_false_iff_ne.mpr h;simp only [List.lookup,hb,if_neg (λ e:g=f=>h (e.trans hk.symm))]
    · rw [if_neg hk];by_cases h:g=k
      · have hb:(g == k)=true:=beq_iff_eq.mpr h;simp only [List.lookup,hb,if_neg (λ e:g=f=>hk (h.symm.trans e))]
      · have hb:(g == k)=false:=beq_eq_false_iff_ne.mpr h;simp only [List.lookup,hb];exact ih
theorem Er (f:Str) (v:V):∀ fs:List (Str × V),f∈(CH f v fs).map (·.1)/\∀ g,g∈fs.map (·.1)->g∈(CH f v fs).map (·.1)
  | []=>⟨by simp [CH],λ g h=>by simp at h⟩
  | (k,x)::r=>by
    obtain ⟨i1,i2⟩:=Er f v r;rw [show CH f v ((k,x)::r)=(if k=f then (k,v)::r else (k,x)::CH f v r) from rfl];by_cases hk:k=f
    · rw [if_pos hk];subst hk;exact ⟨by simp,λ g h=>by simpa using h⟩
    · rw [if_neg hk];refine ⟨?_,λ g h=> ?_⟩
      · rw [List.map_cons];exact List.mem_cons_of_mem _ i1
      · rw [List.map_cons] at h ⊢;rcases List.mem_cons.mp h with e | e
        · exact List.mem_cons.mpr (.inl e)
        · exact List.mem_cons_of_mem _ (i2 g e)
theorem EA (f:Str) (v:V):∀ fs:List (Str × V),(CH f v fs).length<=fs.length+1
  | []=>by simp [CH]
  | (k,x)::r=>by
    have ih:=EA f v r;rw [show CH f v ((k,x)::r)=(if k=f then (k,v)::r else (k,x)::CH f v r) from rfl];by_cases hk:k=f
    · rw [if_pos hk,List.length_cons,List.length_cons];omega
    · rw [if_neg hk,List.length_cons,List.length_cons];omega
theorem RelO.some_of {v:V} {o:Option Value} (r:RelO (some v) o):∃ u,o=some u/\RelV v u:=by
  cases o with
  | none=>exact (show False from r).elim
  | some u=>exact ⟨u,rfl,r⟩
theorem RelO.none_of {o:Option Value} (r:RelO none o):o=none:=by
  cases o with
  | none=>rfl
  | some u=>exact (show False from r).elim
theorem JS {v:V} {u:Value} (r:RelV v u):PySem.W.handedIn u=true:=by
  cases v with
  | non=>cases (show u=Value.none from r);rfl
  | bl b=>cases (show u=Value.bool b from r);rfl
  | int i=>obtain ⟨t,e⟩:=(show ∃ t,u=Value.int i t from r);cases e;rfl
  | str x=>obtain ⟨t,e⟩:=(show ∃ t,u=Value.str x t from r);cases e;rfl
  | byt b=>obtain ⟨t,e⟩:=(show ∃ t,u=Value.bytes b t from r);cases e;rfl
  | flt b=>obtain ⟨t,e⟩:=(show ∃ t,u=Value.float b t from r);cases e;rfl
  | ref a=>cases (show u=Value.ref a from r);rfl
  | ty n=>cases (show u=Value.type n from r);rfl
section
variable {P:Program} {w:World} {H H':Hp} {h h':Heap} {a C dx:Addr} {fs fs':List (Str × V)}
theorem DN (hok:HOk P w H h) (e:H a=some (.ins C dx fs)):∃ mA,ObjM h a dx C mA/\(∀ f,RelO (fs.lookup f) (mA f))/\PySem.Within mA (fs.map (·.1))/\fs.length<=1000/\H dx=some (.own a):=by
  obtain ⟨d,z,ne,ob,mA,n,r,q⟩:=(show ObjOk P w H h a (.ins C dx fs) from hok a _ e);exact ⟨mA,⟨ob,n,ne⟩,r,q,z,d⟩
end
structure Cls (K:PySem.W.Frag) (C:Addr):Prop where
  pg:PySem.W.plainGet K C Str.empty=true
  hd:PySem.W.hasDictIn K C=true
  po:PySem.W.plainOver K C=true
  sa:PySem.W.findIn K (.ref C) "__setattr__"=some (some (.builtin "object.__setattr__"))
theorem Cls.get {K:PySem.W.Frag} {C:Addr} (c:Cls K C) (f:Str):PySem.W.plainGet K C f=true:=c.pg
def NoAttr (K:PySem.W.Frag) (C:Addr) (f:Str):Prop:=PySem.W.findIn K (.ref C) f=some none
theorem NoAttr.taker {K:PySem.W.Frag} {C:Addr} {f:Str} (n:NoAttr K C f):PySem.W.takerIn K C f=some none:=by
  unfold PySem.W.takerIn;rw [show PySem.W.findIn K (.ref C) f=some none from n];rfl
structure Con (K:PySem.W.Frag) (C:Addr) (f:Str) (v:V) (u:Value):Prop where
  at_:PySem.W.findIn K (.ref C) f=some (some u)
  rel:RelV v u
  get:PySem.W.specialIn K u "__get__"=some none
  cp:PySem.W.copiedNames.contains f=false
structure Meth (K:PySem.W.Frag) (C:Addr) (m:Str) (f:Addr):Prop where
  at_:PySem.W.findIn K (.ref C) m=some (some (.ref f))
  fn:PySem.W.isFn K (.ref f)=true
  kp:PySem.W.keepIn K (.ref f)=true
section
variable {X:Cx} {pins:List (Addr × Obj)} {σ:St} {H:Hp} {s:Shared} {a C dx:Addr} {fs:List (Str × V)} {f:Str} {v:V} {A:Around} {E:Value->Shared->Prop}
theorem Ik {b:Bool} {Q:Value->Shared->Prop} (I:Inv X pins σ H s) (e:H a=some (.ins C dx fs)) (c:Cls X.K C) (n:NoAttr X.K C f) (l:fs.lookup f=some v)
    (h:∀ u s',Inv X pins σ H s'->RelV v u->Q u s'):wpAny (model X.prog X.w) A (getAttr (.ref a) f b) Q E s:=by
  obtain ⟨mA,O,r,_,_,_⟩:=DN I.hok e;obtain ⟨u,hu,ru⟩:=RelO.some_of (v:=v) (o:=mA f) (by rw [<-l];exact r f);exact M3 I.kIn O (c.get f) c.hd n hu (JS ru) (h u _ (I.tok _) ru)
theorem DD {m:Str} {g:Addr} {pl:Sem Bool} {Q:Value × List Value->Shared->Prop} (I:Inv X pins σ H s) (e:H a=some (.ins C dx fs)) (c:Cls X.K C) (k:Meth X.K C m g) (l:fs.lookup m=none)
    (h:Q (.ref g,[.ref a]) s):wpAny (model X.prog X.w) A (getMethod (.ref a) m pl) Q E s:=by
  obtain ⟨mA,O,r,_,_,_⟩:=DN I.hok e;have hn:mA m=none:=RelO.none_of (by rw [<-l];exact r m);exact Lq I.kIn O (c.get m) k.at_ k.fn hn h
theorem Ic {y:V} {u:Value} {Q:Unit->Shared->Prop} (I:Inv X pins σ H s) (e:H a=some (.ins C dx fs)) (c:Cls X.K C) (n:NoAttr X.K C f) (hl:fs.length<1000) (ry:RelV y u)
    (h:∀ s',Inv X pins σ (upd H a (.ins C dx (CH f y fs))) s'->Q () s'):wpAny (model X.prog X.w) A (setAttr (.ref a) f u) Q E s:=by
  obtain ⟨mA,O,r,wi,_,ho⟩:=DN I.hok e;have hz:(fs.map (·.1)).length<=sizeLine:=by rw [List.length_map,sizeLine_eq];omega
  refine Mv I.kIn O c.sa c.po n.taker c.hd wi hz λ h' O' sb=>h _ ?_;have hd:∃ o,h'.get? dx=some o:=let ⟨o,_,_,e',_⟩:=O'.ns;⟨o,e'⟩;refine I.write (x:=a) (e:=dx) (by rw [e];exact True.intro) (.inr ho) (λ b q hb z=>(sb.2 b hb).trans z) hd ?_;refine ⟨by rw [Al O.ne];exact ho,?_,O.ne,O'.obj,_,O'.ns,λ g=> ?_,λ g hg=> ?_⟩
  · have:=EA f y fs;omega
  · show RelO ((CH f y fs).lookup g) (if g=f then some u else mA g);rw [EF];by_cases q:g=f
    · rw [if_pos q,if_pos q];exact ry
    · rw [if_neg q,if_neg q];exact r g
  · by_cases q:g=f
    · rw [q];exact (Er f y fs).1
    · refine (Er f y fs).2 g (wi g λ z=>hg ?_);show (if g=f then some u else mA g)=none;rw [if_neg q];exact z
theorem Inv.made (I:Inv X pins σ H s):Inv X pins σ (upd (upd H s.heap.objs.size (.own (s.heap.objs.size+1))) (s.heap.objs.size+1) (.ins C s.heap.objs.size []))
    { s with heap:=(s.heap.push PySem.W.emptyDict).push (PySem.W.instObj C s.heap.objs.size) }:=by
  have e1:(s.heap.push PySem.W.emptyDict).get? s.heap.objs.size=some PySem.W.emptyDict:=Heap.get?_push_size s.heap rfl;have e2:((s.heap.push PySem.W.emptyDict).push (PySem.W.instObj C s.heap.objs.size)).get? (s.heap.objs.size+1)=some (PySem.W.instObj C s.heap.objs.size):=by
    have:=Heap.get?_push_size (s.heap.push PySem.W.emptyDict) (o:=PySem.W.instObj C s.heap.objs.size) rfl
    rwa [Heap.size_push] at this
  have e3:(s.heap.push PySem.W.emptyDict).Ns s.heap.objs.size (λ _=>none):=⟨PySem.W.emptyDict, #[],_,e1,rfl,(λ e he=>absurd he (by simp)),λ _=>rfl⟩;have I1:=I.laid (a:=s.heap.objs.size) (o:= .own (s.heap.objs.size+1)) (h':=s.heap.push PySem.W.emptyDict) (t':=s.toks) (λ b u q=>Heap.get?_push_of_some _ q) (Nat.le_refl _) ⟨_,e1⟩;refine I1.laid (a:=s.heap.objs.size+1) (o:= .ins C s.heap.objs.size []) (t':=s.toks) (λ b u q=>Heap.get?_push_of_some _ q) (Nat.le_of_eq (Heap.size_push _ _)) ?_;have ne:s.heap.objs.size≠s.heap.objs.size+1:=Nat.ne_of_lt (Nat.lt_succ_self _);refine ⟨by rw [Al ne,Ad],Nat.zero_le _,ne,e2,λ _=>none,(Heap.Ns1.of_empty e3).at λ o q=>Heap.get?_push_of_some _ q,λ _=>True.intro,λ y hy=>absurd rfl hy⟩
theorem MC {prog:Program} {w:World} {env:Env} {e:Expr} {f:Str} {pos:Pos} {s:Shared} {Q:Value->Shared->Prop} (hb:attributeBase e f env (eval e env)=eval e env)
    (h:wpAny (model prog w) A (eval e env) (λ o s₁=>wpAny (model prog w) A (getAttr o f true) Q E s₁) E s):wpAny (model prog w) A (eval (.Attribute e f pos) env) Q E s:=
  Attribute_any_ h (by rw [arm_eval_Attribute,hb])
end
def NO (K:PySem.W.Frag) (ta:TE) (f:Str):TE:=λ σ H Q=>ta σ H λ x H1=>∃ a C dx fs v,x= .ref a/\H1 a=some (.ins C dx fs)/\Cls K C/\NoAttr K C f/\fs.lookup f=some v/\Q v H1
def Px (K:PySem.W.Frag) (ta tv:TE) (f:Str):TS:=λ D σ H=>tv σ H λ y H1=>ta σ H1 λ x H2=>∃ a C dx fs,x= .ref a/\H2 a=some (.ins C dx fs)/\Cls K C/\NoAttr K C f/\fs.length<1000/\
  D.nx σ (upd H2 a (.ins C dx (CH f y fs)))
section
variable {X:Cx} {o e value:Expr} {f:Str} {pos pos' tpos:Pos} {ta tv:TE}
theorem NH (he:PE X e ta) (hb:attributeBase e f X.env (eval e X.env)=eval e X.env):PE X (.Attribute e f pos) (NO X.K ta f):=by
  intro pins s σ H Q I h;refine MC hb (thn (he pins s σ H _ I h) λ u s1 ⟨x,H1,I1,rx,a,C,dx,fs,v,ex,ea,c,n,l,q⟩=> ?_);subst ex;obtain rfl:u=Value.ref a:=rx;exact Ik I1 ea c n l λ u' s2 I2 ru=>⟨v,H1,I2,ru,q⟩
theorem K7 (ha:PE X o ta) (hv:PE X value tv) (hs:swapsWith value (some (.Attribute o f pos')) pos.line X.env=pure false):PS X (.Assign [.Attribute o f pos'] value pos) (Px X.K ta tv f):=by
  intro pins s σ H D I h;refine plainObj_wpAny_Assign_Attribute (thn (hv pins s σ H _ I h) λ u s1 ⟨y,H1,I1,ry,q⟩=>thn (ha pins s1 σ H1 _ I1 q) λ ov s2 ⟨x,H2,I2,rx,a,C,dx,fs,ex,ea,c,n,l,q2⟩=> ?_) hs;subst ex;obtain rfl:ov=Value.ref a:=rx;exact Ic I2 ea c n l ry λ s3 I3=>⟨σ,_,I3,q2⟩
theorem Nv {pl:Sem Bool} {m:Str} {apos:Pos} {args:List Expr} {pins:List (Addr × Obj)} {s:Shared} {σ:St} {H:Hp} {Q:Value->Shared->Prop} {te:TE} (he:PE X e te) (I:Inv X pins σ H s)
    (h:te σ H λ x H1=>∃ a C dx fs g,x= .ref a/\H1 a=some (.ins C dx fs)/\Cls X.K C/\Meth X.K C m g/\fs.lookup m=none/\
      ∀ s1,Inv X pins σ H1 s1->wpAny (model X.prog X.w) X.A (callWith pos (.ref g) [.ref a] (backTo pos (starEach args X.env)) (backToKw pos (keywordEach [] X.env))) Q X.xe s1)
    (ht:eval (.Call (.Attribute e m apos) args [] pos) X.env=(do
      let ov <-eval e X.env
      standAt apos.atName
      let (f,first) <-holding [ov] (getMethod ov m pl)
      callWith pos f first (backTo pos (starEach args X.env)) (backToKw pos (keywordEach [] X.env)))):
    wpAny (model X.prog X.w) X.A (eval (.Call (.Attribute e m apos) args [] pos) X.env) Q X.xe s:=by
  refine PySem.W.methodCall_KW (pl:=pl) (thn (he pins s σ H _ I h) λ u s1 ⟨x,H1,I1,rx,a,C,dx,fs,g,ex,ea,c,k,l,q⟩=> ?_) ht;subst ex;obtain rfl:u=Value.ref a:=rx;exact DD I1 ea c k l (q s1 I1)
end
section
variable {X:Cx} {pins:List (Addr × Obj)} {σ:St} {H:Hp} {s:Shared} {A:Around} {E:Value->Shared->Prop} {Q:Value->Shared->Prop} {c:Value} {b:Bool}
inductive TyOf (K:PySem.W.Frag) (H:Hp):V->Value->Prop where
  | non:TyOf K H .non (.type "NoneType")
  | bl (x:Bool):TyOf K H (.bl x) (.type "bool")
  | int (i:Int):TyOf K H (.int i) (.type "int")
  | str (x:Str):TyOf K H (.str x) (.type "str")
  | flt (x:UInt64):TyOf K H (.flt x) (.type "float")
  | lst {a:Addr} {xs:List V} (e:H a=some (.lst xs)):TyOf K H (.ref a) (.type "list")
  | frz {a:Addr} {o:Obj} {xs:List V} (e:H a=some (.frz o (.lst xs))):TyOf K H (.ref a) (.type "list")
  | tup {a:Addr} {xs:List V} (e:H a=some (.tup xs)):TyOf K H (.ref a) (.type "tuple")
  | dK {a:Addr} {kvs:List (Key × V)} (e:H a=some (.dK kvs)):TyOf K H (.ref a) (.type "dict")
  | dT {a:Addr} {kvs:List (List Key × V)} (e:H a=some (.dT kvs)):TyOf K H (.ref a) (.type "dict")
  | ins {a C dx:Addr} {fs:List (Str × V)} (e:H a=some (.ins C dx fs)) (cl:Cls K C) (ha:PySem.W.findIn K (.ref C) "__class__"=some (some (.builtin "object.__class__")))
      (hn:PySem.W.specialIn K (.builtin "object.__class__") "__get__"=some (some (.builtin "getset_descriptor.__get__"))) (htk:PySem.W.takesIn K (.builtin "object.__class__")=some true)
      (hm:PySem.W.mroIn K C (.type "object")=some true):TyOf K H (.ref a) (.ref C)
theorem JQ {x:V} {u t:Value} (I:Inv X pins σ H s) (rx:RelV x u) (ty:TyOf X.K H x t) (e:PySem.W.kitOne X.K t c=some b) (h:∀ tk,Q (.bool b) { s with toks:=tk }):
    wpAny (model X.prog X.w) A (call (.builtin "isinstance") [u,c]) Q E s:=by
  cases ty with
  | non=>cases (show u=Value.none from rx);exact PySem.W.kia_one PySem.W.kitx_none I.kIn True.intro e (λ z=>nomatch z) h
  | bl y=>cases (show u=Value.bool y from rx);exact PySem.W.kia_one PySem.W.kitx_bool I.kIn True.intro e (λ z=>nomatch z) h
  | int i=>obtain ⟨t,q⟩:=(show ∃ t,u=Value.int i t from rx);cases q;exact PySem.W.kia_one PySem.W.kitx_int I.kIn True.intro e (λ z=>nomatch z) h
  | str y=>obtain ⟨t,q⟩:=(show ∃ t,u=Value.str y t from rx);cases q;exact PySem.W.kia_one PySem.W.kitx_str I.kIn True.intro e (λ z=>nomatch z) h
  | flt y=>obtain ⟨t,q⟩:=(show ∃ t,u=Value.float y t from rx);cases q;exact PySem.W.kia_one PySem.W.kitx_float I.kIn True.intro e (λ z=>nomatch z) h
  | @lst a xs ea=>
    cases (show u=Value.ref a from rx);obtain ⟨_,_,n,_,h1⟩:=(show ObjOk X.prog X.w H s.heap a (.lst xs) from I.hok a _ ea);exact PySem.W.kia_one PySem.W.kitx_list I.kIn ⟨_,h1,rfl⟩ e (λ z=>nomatch z) h
  | @frz a ob xs ea=>
    cases (show u=Value.ref a from rx);obtain ⟨_,_,_,n,_,h1⟩:=(show ObjOk X.prog X.w H s.heap a (.frz ob (.lst xs)) from I.hok a _ ea);exact PySem.W.kia_one PySem.W.kitx_list I.kIn ⟨_,h1,rfl⟩ e (λ z=>nomatch z) h
  | @tup a xs ea=>
    cases (show u=Value.ref a from rx);obtain ⟨_,_,_,p⟩:=(show ObjOk X.prog X.w H s.heap a (.tup xs) from I.hok a _ ea);obtain ⟨o,h1,h2,_⟩:=p;exact PySem.W.kia_one PySem.W.kitx_tuple I.kIn ⟨o,h1,h2⟩ e (λ z=>nomatch z) h
  | @dK a kvs ea=>
    cases (show u=Value.ref a from rx);obtain ⟨_,_,vs,_,p⟩:=(show ObjOk X.prog X.w H s.heap a (.dK kvs) from I.hok a _ ea);obtain ⟨o,es,ep,h1,h2,_⟩:=p;exact PySem.W.kia_one PySem.W.kitx_dict I.kIn ⟨o,h1,h2.1⟩ e (λ z=>nomatch z) h
  | @dT a kvs ea=>
    cases (show u=Value.ref a from rx);obtain ⟨_,_,xs,_,o,es,ep,h1,h2,_⟩:=(show ObjOk X.prog X.w H s.heap a (.dT kvs) from I.hok a _ ea);exact PySem.W.kia_one PySem.W.kitx_dict I.kIn ⟨o,h1,h2.1⟩ e (λ z=>nomatch z) h
  | @ins a C dx fs ea cl ha hn htk hm=>
    cases (show u=Value.ref a from rx);obtain ⟨mA,O,_⟩:=DN I.hok ea;obtain ⟨od,J,_⟩:=O.look;exact PySem.W.kia_one (PySem.W.kitx_own (cl.get _) cl.hd ha hn htk hm) I.kIn J e (λ z=>nomatch z) h
end
structure Room (k:Nat) (A:Around):Prop where
  hd:A.handled=none
  dp:A.depth+3*k+5<recursionLimit
  un:A.units+16*k+200<cLine
theorem Room.mono {j k:Nat} {A:Around} (r:Room k A) (h:j<=k):Room j A:=⟨r.hd,by have:=r.dp;omega,by have:=r.un;omega⟩
theorem Room.deeper {k:Nat} {A:Around} (r:Room (k+1) A) (env:Env):Room k (A.deeper env):=
  ⟨r.hd,by have:=r.dp;show A.depth+1+3*k+5<_;omega,by have:=r.un;show A.units+3+16*k+200<_;omega⟩
theorem Ig {A:Around} {C:Addr} {us:List Value} {kw:List (Str × Value)}:(A.under (.builtin "type.__call__" ⟨.ref C::us,kw⟩)).depth=A.depth+1:=by
  first | rfl | simp [Around.under,Code.weight,Code.isCreation,Code.isGuard,Code.isCaller,Code.frames,Code.isFrame,guardIds]
theorem II {A:Around} {C:Addr} {us:List Value} {kw:List (Str × Value)}:(A.under (.builtin "type.__call__" ⟨.ref C::us,kw⟩)).units=A.units+1:=by
  first | rfl | simp [Around.under,Code.cUnits,Code.frames,Code.isFrame]
theorem Room.make {k:Nat} {A:Around} (r:Room (k+1) A) (C:Addr) (us:List Value) (kw:List (Str × Value)):Room k (A.under (.builtin "type.__call__" ⟨.ref C::us,kw⟩)):=
  ⟨r.hd,by have:=r.dp;rw [Ig];omega,by have:=r.un;rw [II];omega⟩
theorem Room.depth {k:Nat} {A:Around} (r:Room k A):A.depth<recursionLimit:=by have:=r.dp;omega
theorem Room.units {k:Nat} {A:Around} (r:Room k A):A.units+64<cLine:=by have:=r.un;omega
theorem Room.units0 {k:Nat} {A:Around} (r:Room k A):A.units<cLine:=by have:=r.un;omega
def Kg:TA:=λ _ H Q=>Q [] H
def HZ (ta:TE) (tr:TA):TA:=λ σ H Q=>ta σ H λ x H1=>tr σ H1 λ xs H2=>Q (x::xs) H2
section
variable {X:Cx} {e:Expr} {es:List Expr} {te:TE} {t:TA} {pos:Pos}
theorem Ab:PA X [] Kg:=λ _ _ _ _ H Q I h=>Calls.spliced_nil ⟨[],H,I, .nil,h⟩
theorem Aa (ha:PE X e te) (hr:PA X es t) (hs:starEach (e::es) X.env=(false,eval e X.env)::starEach es X.env:=by rfl):PA X (e::es) (HZ te t):=by
  intro pos pins s σ H Q I h;rw [hs];show wpAny _ _ (spliced ((false,eval e X.env)::backTo pos (starEach es X.env))) _ _ s;refine Calls.spliced_cons (thn (ha pins s σ H _ I h) λ u s1 ⟨x,H1,I1,r1,q1⟩=> ?_);exact thn (hr pos pins s1 σ H1 _ I1 q1) λ us s2 ⟨xs,H2,I2,r2,q2⟩=>⟨x::xs,H2,I2, .cons r1 r2,q2⟩
def Pp (t:TA):TE:=λ σ H Q=>t σ H λ xs H1=>xs.length<=sizeLine/\∀ p,H1 p=none->Q (.ref p) (upd H1 p (.tup xs))
def Pa (t:TA):TE:=λ σ H Q=>t σ H λ xs H1=>xs.length<=sizeLine/\∀ p,H1 p=none->Q (.ref p) (upd H1 p (.lst xs))
theorem A6 {x1} (h:PA X es t):PE X (.Tuple es x1 pos) (Pp t):=by
  intro pins s σ H Q I hq;refine wpAny_Tuple_spliced (thn (h pos pins s σ H _ I hq) λ us s1 ⟨xs,H1,I1,r,z,q⟩=>⟨by rw [<-r.length];exact z,?_⟩);have hf:H1 s1.heap.objs.size=none:=I1.hok.fresh (Nat.le_refl _);refine ⟨.ref s1.heap.objs.size,upd H1 s1.heap.objs.size (.tup xs),I1.laid (t':=s1.toks) (λ b u e=>Heap.get?_push_of_some _ e) (Nat.le_refl _) ?_,rfl,q _ hf⟩;exact ⟨z,us,r,⟨_,Heap.get?_push_size _ rfl,rfl,_,rfl⟩⟩
theorem AN (h:PA X es t):PE X (.List es pos) (Pa t):=by
  intro pins s σ H Q I hq;refine wpAny_List_spliced (thn (h pos pins s σ H _ I hq) λ us s1 ⟨xs,H1,I1,r,z,q⟩=>⟨by rw [<-r.length];exact z,?_⟩);have hf:H1 s1.heap.objs.size=none:=I1.hok.fresh (Nat.le_refl _);refine ⟨.ref s1.heap.objs.size,upd H1 s1.heap.objs.size (.lst xs),I1.laid (t':=s1.toks) (λ b u e=>Heap.get?_push_of_some _ e) (Nat.le_refl _) ?_,rfl,q _ hf⟩;exact ⟨z,us,0,r,Heap.get?_push_size _ rfl⟩
end
abbrev Sp:=List V->Hp->VK->XK->Prop
abbrev CXT:=List Env->Hp->Shared->XK->Value->Shared->Prop
structure Env0 (P:Program) (w:World) (K:PySem.W.Frag) (mg:Str->Option Value) (base:Heap) (A:Around) (outer:List Env) (s:Shared) (H:Hp):Prop where
  frames:A.frames=some outer
  mod:Mod K mg base
  bs:∀ b o,base.get? b=some o->s.heap.get? b=some o/\H b=none
  bsz:base.objs.size<=s.heap.objs.size
  funs:s.heap.FunFrames base outer
  frf:∀ b∈frs outer,H b=none
  hok:HOk P w H s.heap
  bare:AllBare s.gens
def CE (outer:List Env) (P:Program) (w:World) (H:Hp) (s:Shared) (Q:VK) (u:Value) (s':Shared):Prop:=
  ∃ v H',s'.os=s.os/\AllBare s'.gens/\Un (frs outer) [] H H' s.heap s'.heap/\HOk P w H' s'.heap/\RelV v u/\Q v H'
def CR (CX:CXT) (outer:List Env) (P:Program) (w:World) (H:Hp) (s:Shared) (Q:VK) (E:XK) (r:Result) (s':Shared):Prop:=
  match r with
  | .ok (.ret u)=>CE outer P w H s Q u s'
  | .ok _=>False
  | .error e=>CX outer H s E e s'
structure FnOk (P:Program) (w:World) (K:PySem.W.Frag) (mg:Str->Option Value) (base:Heap) (CX:CXT) (k:Nat) (f:Addr) (fd:FuncData) (ps:List Str) (sp:Sp):Prop where
  len:∀ vs H Q E,sp vs H Q E->vs.length=ps.length
  run:∀ (A:Around) (outer:List Env) (s:Shared) (H:Hp) (args:Args) (us:List Value) (vs:List V) (Q:VK) (E:XK),Room k A->Env0 P w K mg base A outer s H->BindsTo s fd args (ps.zip us)->Vals vs us->sp vs H Q E->
    codeAny (model P w) A (.call (.ref f) args) (CR CX outer P w H s Q E) s
theorem Env0.make {P:Program} {w:World} {K:PySem.W.Frag} {mg:Str->Option Value} {base:Heap} {A:Around} {outer:List Env} {s:Shared} {H:Hp} (e:Env0 P w K mg base A outer s H) (C:Addr) (us:List Value) (kw:List (Str × Value)):
    Env0 P w K mg base (A.under (.builtin "type.__call__" ⟨.ref C::us,kw⟩)) outer s H:=⟨by first | exact e.frames | (simpa [Around.under,Code.envs,Code.isFrame,pushEnvs] using e.frames),e.mod,e.bs,e.bsz,e.funs,e.frf,e.hok,e.bare⟩
section
variable {X:Cx} {pins:List (Addr × Obj)} {σ:St} {H:Hp} {s s':Shared}
theorem Inv.env0 (I:Inv X pins σ H s):Env0 X.prog X.w X.K X.mg X.base X.A X.stack s H:=
  ⟨I.ok.frames,I.ok.mod,I.bs,Nat.le_trans I.ok.bsz I.sz,I.stack,I.stkFree,I.hok,I.bare⟩
theorem Inv.after {Q:VK} {u:Value} (I:Inv X pins σ H s) (h:CE X.stack X.prog X.w H s Q u s'):EP X pins σ Q u s':=by
  obtain ⟨v,H',os,bare,un,hok,r,q⟩:=h;obtain ⟨hh,g,d,t,os'⟩:=s';obtain rfl:os'=s.os:=os;exact ⟨v,H',I.call (h':=hh) (g':=g) (d':=d) (t':=t) (ch:=[]) un hok bare (λ b z=>absurd z (by simp)),r,q⟩
end
def Jy (sp:Sp) (dvs:List V) (E:XK) (t:TA):TE:=λ σ H Q=>t σ H λ vs H1=>sp (vs++dvs) H1 Q E
def Ga (C:Addr) (m:Str) (sp:Sp) (dvs:List V) (E:XK) (ta:TE) (t:TA):TE:=λ σ H Q=>ta σ H λ x H1=>∃ a dx fs,x= .ref a/\H1 a=some (.ins C dx fs)/\fs.lookup m=none/\
  t σ H1 λ vs H2=>sp (x::(vs++dvs)) H2 Q E
def IS (C:Addr) (sp:Sp) (dvs:List V) (E:XK) (t:TA):TE:=λ σ H Q=>t σ H λ vs H1=>∀ x dx,H1 x=none->H1 dx=none->dx≠x->
  sp (.ref x::(vs++dvs)) (upd (upd H1 dx (.own x)) x (.ins C dx [])) (λ v H2=>v= .non/\Q (.ref x) H2) E
def Binds (K:PySem.W.Frag) (fd:FuncData) (ps:List Str) (ds:List Value):Prop:=
  ∀ (s:Shared) (us:List Value),K.In s.heap->(us++ds).length=ps.length->BindsTo s fd ⟨us,[]⟩ (ps.zip (us++ds))
theorem Binds.all {K:PySem.W.Frag} {fd:FuncData} {ps:List Str} (h:∀ us:List Value,us.length=ps.length->bindArgs fd ⟨us,[]⟩=pure (ps.zip us)):Binds K fd ps []:=λ s us _ hl=>by
  rw [List.append_nil] at hl ⊢;exact .of_eq (h us hl)
def DJ (CX:CXT) (X:Cx) (E:XK):Prop:=∀ (pins:List (Addr × Obj)) (σ:St) (H:Hp) (s:Shared) (e:Value) (s':Shared),Inv X pins σ H s->CX X.stack H s E e s'->X.xe e s'
section
variable {X:Cx} {CX:CXT} {k:Nat} {f C:Addr} {fd:FuncData} {ps:List Str} {sp:Sp} {dvs:List V} {ds:List Value} {E:XK} {x m:Str} {p pos apos:Pos} {e o:Expr} {es:List Expr} {ta:TE} {t:TA}
theorem IH {pins:List (Addr × Obj)} {σ:St} {H:Hp} {s:Shared} {Q:VK} {us:List Value} {vs:List V} (F:FnOk X.prog X.w X.K X.mg X.base CX k f fd ps sp) (hr:Room k X.A) (hb:Binds X.K fd ps ds) (hd:Vals dvs ds) (hx:DJ CX X E)
    (I:Inv X pins σ H s) (r:Vals vs us) (h:sp (vs++dvs) H Q E):wpAny (model X.prog X.w) X.A (call (.ref f) us) (EP X pins σ Q) X.xe s:=by
  have r2:Vals (vs++dvs) (us++ds):=r.append hd;have hl:(us++ds).length=ps.length:=by rw [<-r2.length];exact F.len _ _ _ _ h
  refine wpAny_call (codeAny_mono (F.run X.A X.stack s H ⟨us,[]⟩ (us++ds) (vs++dvs) Q E hr I.env0 (hb s us I.kIn hl) r2 h) λ r s' hq=> ?_);cases r with
  | error e=>exact hx pins σ H s e s' I hq
  | ok fl=>
    cases fl with
    | ret u=>exact I.after hq
    | next=>exact False.elim hq
    | brk=>exact False.elim hq
    | cont=>exact False.elim hq
theorem LY (F:FnOk X.prog X.w X.K X.mg X.base CX k f fd ps sp) (hr:Room k X.A) (hg:Gl X x) (hm:X.mg x=some (.ref f)) (hk:PySem.W.keepIn X.K (.ref f)=true) (hb:Binds X.K fd ps ds) (hd:Vals dvs ds) (hx:DJ CX X E)
    (ha:PA X (e::es) t) (hdb:(x == ("__debug__":Str))=false:=by decide) (he:starEach (e::es) X.env=(false,eval e X.env)::starEach es X.env:=by rfl) (hpl:(backTo pos (starEach es X.env)).any (·.1)=false:=by rfl):
    PE X (.Call (.Name x p) (e::es) [] pos) (Jy sp dvs E t):=by
  intro pins s σ H Q I h;refine wpAny_Call_Name_kw (GC I hg hm ?_ hdb);refine PySem.W.callWith_K (h₀:=X.base) I.ok.mod.kin hk (thn (ha pos pins s σ H _ I h) λ us s1 ⟨vs,H1,I1,r,q⟩=>⟨I1.kIn,?_⟩) he hpl;exact IH F hr hb hd hx I1 r q
theorem Mb {pl:Sem Bool} (he:PE X o ta) (c:Cls X.K C) (hm:Meth X.K C m f) (F:FnOk X.prog X.w X.K X.mg X.base CX k f fd ps sp) (hr:Room k X.A) (hb:Binds X.K fd ps ds) (hd:Vals dvs ds) (hx:DJ CX X E) (ha:PA X (e::es) t)
    (hst:starEach (e::es) X.env=(false,eval e X.env)::starEach es X.env:=by rfl) (hpl:(backTo pos (starEach es X.env)).any (·.1)=false:=by rfl)
    (ht:eval (.Call (.Attribute o m apos) (e::es) [] pos) X.env=(do
      let ov <-eval o X.env
      standAt apos.atName
      let (f,first) <-holding [ov] (getMethod ov m pl)
      callWith pos f first (backTo pos (starEach (e::es) X.env)) (backToKw pos (keywordEach [] X.env))):=by rfl):
    PE X (.Call (.Attribute o m apos) (e::es) [] pos) (Ga C m sp dvs E ta t):=by
  intro pins s σ H Q I h;refine PySem.W.methodCall_KW (pl:=pl) (thn (he pins s σ H _ I h) λ u s1 ⟨x,H1,I1,rx,a,dx,fs,ex,ea,l,q⟩=> ?_) ht;subst ex;obtain rfl:u=Value.ref a:=rx;refine DD I1 ea c hm l ?_;refine PySem.W.callWith_K (first:=[.ref a]) (h₀:=X.base) I.ok.mod.kin hm.kp (thn (ha pos pins s1 σ H1 _ I1 q) λ us s2 ⟨vs,H2,I2,r,q2⟩=>⟨I2.kIn,?_⟩) hst hpl;exact IH (us:= .ref a::us) (vs:= .ref a::vs) F hr hb hd hx I2 (.cons rfl r) q2
theorem KN {pl:Sem Bool} (he:PE X o ta) (c:Cls X.K C) (hm:Meth X.K C m f) (F:FnOk X.prog X.w X.K X.mg X.base CX k f fd ps sp) (hr:Room k X.A) (hb:Binds X.K fd ps ds) (hd:Vals dvs ds) (hx:DJ CX X E)
    (ht:eval (.Call (.Attribute o m apos) [] [] pos) X.env=(do
      let ov <-eval o X.env
      standAt apos.atName
      let (f,first) <-holding [ov] (getMethod ov m pl)
      callWith pos f first (backTo pos (starEach [] X.env)) (backToKw pos (keywordEach [] X.env))):=by rfl):
    PE X (.Call (.Attribute o m apos) [] [] pos) (Ga C m sp dvs E ta Kg):=by
  intro pins s σ H Q I h;refine PySem.W.methodCall_KW (pl:=pl) (thn (he pins s σ H _ I h) λ u s1 ⟨x,H1,I1,rx,a,dx,fs,ex,ea,l,q⟩=> ?_) ht;subst ex;obtain rfl:u=Value.ref a:=rx;refine DD I1 ea c hm l ?_;exact PySem.W.callWith_K0 (first:=[.ref a]) I1.kIn hm.kp (IH (us:=[.ref a]) (vs:=[.ref a]) F hr hb hd hx I1 (.cons rfl .nil) q)
structure Mk (K:PySem.W.Frag) (C f:Addr):Prop where
  makes:PySem.W.makesIn K C=true
  init:PySem.W.findIn K (.ref C) "__init__"=some (some (.ref f))
  fn:PySem.W.isFn K (.ref f)=true
  kp:PySem.W.keepIn K (.ref C)=true
theorem KA {pins:List (Addr × Obj)} {σ:St} {H:Hp} {s:Shared} {Q:VK} {us:List Value} {vs:List V} (M:Mk X.K C f) (F:FnOk X.prog X.w X.K X.mg X.base CX k f fd ps sp) (hr:Room (k+1) X.A) (hb:Binds X.K fd ps ds) (hd:Vals dvs ds)
    (hx:DJ CX X E) (I:Inv X pins σ H s) (r:Vals vs us)
    (h:∀ x dx,H x=none->H dx=none->dx≠x->sp (.ref x::(vs++dvs)) (upd (upd H dx (.own x)) x (.ins C dx [])) (λ v H2=>v= .non/\Q (.ref x) H2) E):
    wpAny (model X.prog X.w) X.A (call (.ref C) us) (EP X pins σ Q) X.xe s:=by
  have hq:=h (s.heap.objs.size+1) s.heap.objs.size (I.hok.fresh (Nat.le_succ _)) (I.hok.fresh (Nat.le_refl _)) (Nat.ne_of_lt (Nat.lt_succ_self _));have I2:=Inv.made (C:=C) I;have r2:Vals (V.ref (s.heap.objs.size+1)::(vs++dvs)) (Value.ref (s.heap.objs.size+1)::(us++ds)):= .cons rfl (r.append hd);have hl:(Value.ref (s.heap.objs.size+1)::us++ds).length=ps.length:=by
    have e:=r2.length;rw [F.len _ _ _ _ hq] at e;exact e.symm
  refine wpAny_call (KF (f:=f) I.kIn M.makes M.init (beq_iff_eq.mp M.fn) (codeAny_mono (F.run _ X.stack _ _ ⟨Value.ref (s.heap.objs.size+1)::us,[]⟩ (Value.ref (s.heap.objs.size+1)::(us++ds)) _ _ E (hr.make C us [])
    (I2.env0.make C us []) (hb _ (Value.ref (s.heap.objs.size+1)::us) I2.kIn hl) r2 hq) λ r s' hq'=> ?_))
  cases r with
  | error e=>exact hx pins σ _ _ e s' I2 hq'
  | ok fl=>
    cases fl with
    | ret u=>
      obtain ⟨v,H',I3,rv,ev,q3⟩:=I2.after hq';subst ev;exact ⟨rv,⟨V.ref (s.heap.objs.size+1),H',I3,rfl,q3⟩⟩
    | next=>exact False.elim hq'
    | brk=>exact False.elim hq'
    | cont=>exact False.elim hq'
theorem L0 (M:Mk X.K C f) (F:FnOk X.prog X.w X.K X.mg X.base CX k f fd ps sp) (hr:Room (k+1) X.A) (hg:Gl X x) (hm:X.mg x=some (.ref C)) (hb:Binds X.K fd ps ds) (hd:Vals dvs ds) (hx:DJ CX X E)
    (ha:PA X (e::es) t) (hdb:(x == ("__debug__":Str))=false:=by decide) (he:starEach (e::es) X.env=(false,eval e X.env)::starEach es X.env:=by rfl) (hpl:(backTo pos (starEach es X.env)).any (·.1)=false:=by rfl):
    PE X (.Call (.Name x p) (e::es) [] pos) (IS C sp dvs E t):=by
  intro pins s σ H Q I h;refine wpAny_Call_Name_kw (GC I hg hm ?_ hdb);refine PySem.W.callWith_K (h₀:=X.base) I.ok.mod.kin M.kp (thn (ha pos pins s σ H _ I h) λ us s1 ⟨vs,H1,I1,r,q⟩=>⟨I1.kIn,?_⟩) he hpl;exact KA M F hr hb hd hx I1 r q
end
section
variable {X:Cx} {CX:CXT} {k:Nat} {f C:Addr} {fd:FuncData} {ps ks:List Str} {sp:Sp} {E:XK} {x m:Str} {p pos apos kpos:Pos} {e o:Expr} {es:List Expr} {kws:List Keyword} {te ta:TE} {t tk:TA} {nm:Option Str}
structure KBinds (K:PySem.W.Frag) (fd:FuncData) (ps ks:List Str) (g:List Value->List Value->List Value) (gV:List V->List V->List V):Prop where
  to:∀ (s:Shared) (us ws:List Value),K.In s.heap->(g us ws).length=ps.length->BindsTo s fd ⟨us,ks.zip ws⟩ (ps.zip (g us ws))
  rel:∀ {vs:List V} {us:List Value} {zs:List V} {ws:List Value},Vals vs us->Vals zs ws->Vals (gV vs zs) (g us ws)
variable {g:List Value->List Value->List Value} {gV:List V->List V->List V}
end
structure FnScope (N P:List Str) (sc:Scope):Prop where
  kind:sc.kind= .function
  co:sc.isCoroutine=false
  gen:sc.isGenerator=false
  nd:N.Nodup
  pre:N.take P.length=P
  par:∀ x∈P,sc.names.lookup x=some .local\/sc.names.lookup x=some .cell
  nofree:∀ y∈sc.names,y.2≠ .free
theorem Gk {kindOf:Str->Option NameKind} {x:Str}:∀ {binds:List (Str × Value)} {m:Str->Option Value},(∀ v,(x,v)∉binds)->bindL kindOf binds m x=m x
  | [],_,_=>rfl
  | (n,v)::r,m,h=>by
    unfold bindL;rw [Gk λ w hw=>h w (List.mem_cons_of_mem _ hw)];split
    · have:x≠n:=by rintro rfl;exact h v List.mem_cons_self
      simp [this]
    · rfl
theorem F8 {kindOf:Str->Option NameKind} {x:Str}:∀ {binds:List (Str × Value)} {m:Str->Option Value},(∀ v,(x,v)∉binds)->bindC kindOf binds m x=m x
  | [],_,_=>rfl
  | (n,v)::r,m,h=>by
    unfold bindC;rw [F8 λ w hw=>h w (List.mem_cons_of_mem _ hw)];split
    · rfl
    · have:x≠n:=by rintro rfl;exact h v List.mem_cons_self
      simp [this]
theorem Gi {kindOf:Str->Option NameKind} {x:Str} {v:Value}:∀ {P:List Str} {vs:List Value} {i:Nat} {m:Str->Option Value},P.Nodup->P[i]?=some x->vs[i]?=some v->kindOf x=some .local->
    bindL kindOf (P.zip vs) m x=some v
  | [],_,_,_,_,h,_,_=>by simp at h
  | _::_,[],_,_,_,_,h,_=>by simp at h
  | p::P,w::vs,0,m,nd,h1,h2,hk=>by
    simp at h1 h2;subst h1;subst h2;show bindL kindOf ((p,w)::P.zip vs) m p=_;unfold bindL;rw [Gk λ v hv=>(List.nodup_cons.mp nd).1 (List.of_mem_zip hv).1,if_pos hk];simp
  | p::P,w::vs,i+1,m,nd,h1,h2,hk=>by
    show bindL kindOf ((p,w)::P.zip vs) m x=_;unfold bindL;exact Gi (i:=i) (List.nodup_cons.mp nd).2 (by simpa using h1) (by simpa using h2) hk
theorem Gm {kindOf:Str->Option NameKind} {x:Str} {v:Value}:∀ {P:List Str} {vs:List Value} {i:Nat} {m:Str->Option Value},P.Nodup->P[i]?=some x->vs[i]?=some v->kindOf x≠some .local->
    bindC kindOf (P.zip vs) m x=some v
  | [],_,_,_,_,h,_,_=>by simp at h
  | _::_,[],_,_,_,_,h,_=>by simp at h
  | p::P,w::vs,0,m,nd,h1,h2,hk=>by
    simp at h1 h2;subst h1;subst h2;show bindC kindOf ((p,w)::P.zip vs) m p=_;unfold bindC;rw [F8 λ v hv=>(List.nodup_cons.mp nd).1 (List.of_mem_zip hv).1,if_neg hk];simp
  | p::P,w::vs,i+1,m,nd,h1,h2,hk=>by
    show bindC kindOf ((p,w)::P.zip vs) m x=_;unfold bindC;exact Gm (i:=i) (List.nodup_cons.mp nd).2 (by simpa using h1) (by simpa using h2) hk
def start (N:List Str) (vs:List V):St:=vs.map some++List.replicate (N.length - vs.length) none
def Kf (CX:CXT) (P:Program) (w:World) (K:PySem.W.Frag) (mg:Str->Option Value) (base:Heap) (N:List Str) (qual:Str) (scope:Scope) (f:Addr) (cd:Value) (A:Around) (outer:List Env) (s:Shared) (H:Hp) (E:XK):Cx where
  prog:=P
  w:=w
  K:=K
  mg:=mg
  base:=base
  A:=A.deeper (envOfC qual scope s.heap.objs.size f cd)
  N:=N
  s₀:=s
  H₀:=H
  env:=envOfC qual scope s.heap.objs.size f cd
  outer:=outer
  stack:=envOfC qual scope s.heap.objs.size f cd::outer
  ex:=[]
  calm:=true
  fn:=λ _=>true
  pn:=[]
  xe:=λ e s'=>wpAny (model P w) (A.deeper (envOfC qual scope s.heap.objs.size f cd)) (leaving (envOfC qual scope s.heap.objs.size f cd) e) (λ _ s''=>CX outer H s E e s'') (λ e' s''=>CX outer H s E e' s'') s'
theorem G7 {sc:Scope} {n:Nat} {x:Str} (h:sc.names.lookup x=some .cell):∃ c,(cellsFrom n sc.names []).lookup x=some c:=by
  have q:=PySem.W.cellsFrom_some sc.names n [] (.inl h);exact Option.isSome_iff_exists.mp q
theorem JF {CX:CXT} {P:Program} {w:World} {K:PySem.W.Frag} {mg:Str->Option Value} {base:Heap} {N ps:List Str} {qual:Str} {scope:Scope} {f:Addr} {cd:Value} {A:Around} {outer:List Env} {s s1:Shared} {H:Hp} {E:XK} {us:List Value} {vs:List V}
    (S:FnScope N ps scope) (hd:A.handled=none) (e0:Env0 P w K mg base A outer s H) (hl:vs.length=ps.length) (r:Vals vs us)
    (x:InCallC s s.heap.objs.size (bindL (envOfC qual scope s.heap.objs.size f cd).kindOf (ps.zip us) λ _=>none) (cellsFrom (s.heap.objs.size+1) scope.names []) (bindC (envOfC qual scope s.heap.objs.size f cd).kindOf (ps.zip us) λ _=>none) s1):
    Inv (Kf CX P w K mg base N qual scope f cd A outer s H E) [] (start N vs) H s1:=by
  have hpl:ps.length<=N.length:=by have:=congrArg List.length S.pre;rw [List.length_take] at this;omega
  obtain ⟨h1,tk,rfl,hk⟩:=x.done;have noA:∀ b:Addr,b∉(Kf CX P w K mg base N qual scope f cd A outer s H E).ex:=λ b z=>absurd (show b∈([]:List Addr) from z) (by simp);refine ⟨⟨e0.mod,S.kind,rfl,rfl,Nat.le_refl _,λ y z c h1 h2=> ?_,λ y hy=> ?_,λ y c _ h=> ?_,λ _=>hd,Around.frames_deeper e0.frames, .inr ⟨rfl,rfl⟩,λ b z=>absurd z (noA b),e0.bs,e0.bsz,λ b _ _=>noA b,λ b z=>absurd z (noA b),e0.funs,e0.frf⟩,
    rfl,e0.bare,Un.kept hk,⟨_,x.toInCall.ns,λ i y v h1 h2 h3=> ?_⟩,λ y c h=>⟨_,x.cell y c h⟩,e0.hok.fresh (Nat.le_refl _),λ y c h=> ?_,λ p hp=>absurd (show p∈([]:List (Addr × Obj)) from hp) (by simp),e0.hok.kept hk,?_⟩
  · exact name_of_addr x.apart (PySem.mem_of_lookup h1) (PySem.mem_of_lookup h2)
  · have hy:scope.names.lookup y=some .cell\/scope.names.lookup y=some .free:=hy;rcases hy with hy | hy
    · exact G7 hy
    · exact absurd rfl (S.nofree _ (PySem.mem_of_lookup hy))
  · exact Nat.le_of_lt (x.above y c (PySem.mem_of_lookup h))
  · have hi:i<vs.length:=by
      unfold start at h2;by_cases hi:i<vs.length
      · exact hi
      · rw [List.getElem?_append_right (by simpa using hi)] at h2;rw [List.getElem?_replicate] at h2;split at h2 <;> cases h2
    have ha:vs[i]?=some v:=by
      unfold start at h2;rw [List.getElem?_append_left (by simpa using hi),List.getElem?_map] at h2;cases e:vs[i]? with
      | none=>rw [e] at h2;cases h2
      | some a=>rw [e] at h2;cases h2;rfl
    obtain ⟨u,hu,rv⟩:=r.get ha;have hp:ps[i]?=some y:=by
      rw [<-S.pre,List.getElem?_take_of_lt (by omega)];exact h1
    have ndP:ps.Nodup:=by rw [<-S.pre];exact S.nd.sublist (List.take_sublist _ _)
    refine ⟨u,rv,?_⟩;rcases S.par y (List.mem_of_getElem? hp) with k | k
    · exact .inl ⟨k,Gi ndP hp hu k⟩
    · obtain ⟨c,e⟩:=G7 (n:=s.heap.objs.size+1) k;refine .inr ⟨.inl k,c,e,?_⟩;have q:=x.cell y c e;rw [Gm ndP hp hu (by show scope.names.lookup y≠_;rw [k];decide)] at q;exact q
  · exact e0.hok.fresh (Nat.le_of_lt (x.above y c (PySem.mem_of_lookup h)))
  · unfold start;show _=N.length;rw [List.length_append,List.length_map,List.length_replicate];omega
theorem Pd {CX:CXT} {P:Program} {w:World} {K:PySem.W.Frag} {mg:Str->Option Value} {base:Heap} {k:Nat} {f:Addr} {name qual:Str} {params:Arguments} {body:List Stmt} {scope:Scope} {dV kV doc pm cdv ct oc:Value} {an od:Option Addr}
    {osl:Array (Option Value)} {N ps:List Str} {sp:Sp} (lk:K.lookup f=some ⟨oc,od, .func (PySem.W.fnOf name qual params body scope dV kV doc pm an cdv ct),osl⟩) (hcd:PySem.W.codeIn K cdv qual=true) (S:FnScope N ps scope)
    (len:∀ vs H Q E,sp vs H Q E->vs.length=ps.length)
    (hbody:∀ (A:Around) (outer:List Env) (s:Shared) (H:Hp) (vs:List V) (Q:VK) (E:XK),Room k (A.deeper (envOfC qual scope s.heap.objs.size f cdv))->sp vs H Q E->
      ∃ t,PSs (Kf CX P w K mg base N qual scope f cdv A outer s H E) body t/\t { nx:=λ _ H'=>Q .non H',rt:=Q } (start N vs) H):
    FnOk P w K mg base CX (k+1) f (PySem.W.fnOf name qual params body scope dV kV doc pm an cdv ct) ps sp:=by
  refine ⟨len,λ A outer s H args us vs Q E hr e0 hb r hsp=> ?_⟩;have hl:=len _ _ _ _ hsp;have KX:K.In s.heap:=e0.mod.kin.keeps λ b o e=>(e0.bs b o e).1;have lim:s.heap.NoLimit:=e0.mod.nolimit.keeps λ b o e=>(e0.bs b o e).1;have hkind:∀ y∈ps.zip us,scope.names.lookup y.1=some .local\/(scope.names.lookup y.1=some .cell/\((cellsFrom (s.heap.objs.size+1) scope.names []).lookup y.1).isSome=true):=λ ⟨n,v⟩ hy=>by
    rcases S.par n (List.of_mem_zip hy).1 with q | q
    · exact .inl q
    · exact .inr ⟨q,PySem.W.cellsFrom_some _ _ _ (.inl q)⟩
  refine codeAny_call_function hr.depth (KX _ _ lk) rfl S.co S.gen rfl (PySem.W.codeRec_of KX hcd) (hb _ _ _ _ ?_);refine wpAny_newFunctionEnv_cells S.kind hkind λ env he s1 x=> ?_;subst he;refine ⟨lim.keeps x.toInCall.keep,codeAny_func ?_⟩;obtain ⟨t,ht,hq⟩:=hbody A outer s H vs Q E (hr.deeper _) hsp;have I:Inv (Kf CX P w K mg base N qual scope f cdv A outer s H E) [] (start N vs) H s1:=JF S hr.hd e0 hl r x;refine wpAny_mono (ht [] s1 (start N vs) H _ I hq) (λ fl s' hs=> ?_) λ e s' hs=>hs;have fin:∀ {σ':St} {H':Hp} {v:V} {u:Value},Inv (Kf CX P w K mg base N qual scope f cdv A outer s H E) [] σ' H' s'->RelV v u->Q v H'->CE outer P w H s Q u s':=
    λ {σ' H' v u} J rv q=>⟨v,H',J.os,J.bare,J.base,J.hok,rv,q⟩
  cases fl with
  | ret u=>
    obtain ⟨v,σ',H',J,rv,q⟩:=hs;exact fin J rv q
  | next=>
    obtain ⟨σ',H',J,q⟩:=hs;exact fin (v:=V.non) (u:=Value.none) J rfl q
  | brk=>
    obtain ⟨_,_,_,q⟩:=hs;exact False.elim q
  | cont=>
    obtain ⟨_,_,_,q⟩:=hs;exact False.elim q
section
variable {X:Cx} {x:Str} {p pos:Pos} {e:Expr} {es:List Expr} {t:TA} {id T:String} {r:List V->Hp->VK->Prop}
def tCB (r:List V->Hp->VK->Prop) (t:TA):TE:=λ σ H Q=>t σ H λ vs H1=>r vs H1 Q
theorem Am (hc:AV X (.builtin id) r) (hg:Gl X x) (hm:X.mg x=none) (hv:bootBuiltins x=some (.builtin id)) (ha:PA X (e::es) t) (hn:x≠"__name__":=by decide) (hdb:(x == ("__debug__":Str))=false:=by decide)
    (he:starEach (e::es) X.env=(false,eval e X.env)::starEach es X.env:=by rfl) (hpl:(backTo pos (starEach es X.env)).any (·.1)=false:=by rfl):PE X (.Call (.Name x p) (e::es) [] pos) (tCB r t):=by
  intro pins s σ H Q I h;refine wpAny_Call_Name_kw (Cb I hg hm hv ?_ hn hdb);exact PyProof.Rows.callWith_builtin1 (thn (ha pos pins s σ H _ I h) λ us s1 ⟨vs,H1,I1,r1,q1⟩=>hc pins s1 σ H1 vs us Q I1 r1 q1) he hpl
theorem Dg (hc:AV X (.type T) r) (hg:Gl X x) (hm:X.mg x=none) (hv:bootBuiltins x=some (.type T)) (ha:PA X (e::es) t) (hn:x≠"__name__":=by decide) (hdb:(x == ("__debug__":Str))=false:=by decide)
    (he:starEach (e::es) X.env=(false,eval e X.env)::starEach es X.env:=by rfl) (hpl:(backTo pos (starEach es X.env)).any (·.1)=false:=by rfl):PE X (.Call (.Name x p) (e::es) [] pos) (tCB r t):=by
  intro pins s σ H Q I h;refine wpAny_Call_Name_kw (Cb I hg hm hv ?_ hn hdb);exact PyProof.Rows.callWith_type1 (thn (ha pos pins s σ H _ I h) λ us s1 ⟨vs,H1,I1,r1,q1⟩=>hc pins s1 σ H1 vs us Q I1 r1 q1) he hpl
end
end L2
namespace HT
open PySem PyProof.Rows
section
open PySem.SeqAt
open PySem.AutoSeq1 (wpAny_loadPart')
open PySem.MeetsSeq PySem.MeetsSeq2 PySem.MeetsSeq3
end
section
variable {prog:Program} {w:World} {A:Around} {E:Value->Shared->Prop} {s:Shared}
def sIx (n d:Nat):Option Int->Nat
  | none=>d
  | some v=>if v<0 then (v+(n:Int)).toNat else min v.toNat n
end
end HT
namespace L2
open PySem PySem.Spec PyProof.Rows
abbrev TO:=St->Hp->(Option Int->Hp->Prop)->Prop
def PO (X:Cx) (e:Option Expr) (t:TO):Prop:=
  ∀ (pins:List (Addr × Obj)) (s:Shared) (σ:St) (H:Hp) (Q:Option Int->Hp->Prop),Inv X pins σ H s->t σ H Q->
    wpAny (model X.prog X.w) X.A (evalPart e X.env) (λ u s'=>∃ o H',Inv X pins σ H' s'/\IsPart u o/\Q o H') X.xe s
def Jr:TO:=λ _ H Q=>Q none H
def Nw (t:TE):TO:=λ σ H Q=>t σ H λ x H1=>∃ i,x= .int i/\Q (some i) H1
theorem Ii {ns:List Int}:∀ {us:List Value},Vals (ns.map V.int) us->IntsAre us ns:=by
  induction ns with
  | nil=>intro us r;rw [List.map_nil] at r;cases r;exact .nil
  | cons n ns ih=>
    intro us r;rw [List.map_cons] at r;cases r with
    | cons r1 r2=>
      obtain ⟨t,e⟩:=r1;subst e;exact .cons n t (ih r2)
section
variable {X:Cx} {e:Expr} {te:TE} {lo hi:Option Expr} {tl th:TO} {pos p2:Pos}
theorem GZ:PO X none Jr:=by
  intro pins s σ H Q I h;rw [evalPart_none];exact wpAny_pure ⟨none,H,I, .none,h⟩
theorem Eb (h:PE X e te):PO X (some e) (Nw te):=by
  intro pins s σ H Q I hw;rw [evalPart_some];refine thn (h pins s σ H _ I hw) λ u s1 ⟨x,H1,I1,r1,q1⟩=> ?_;obtain ⟨i,rfl,q⟩:=q1;obtain ⟨t,rfl⟩:=r1;exact ⟨some i,H1,I1, .int i t,q⟩
def SlR (X:Cx) (r:V->Option Int->Option Int->Hp->VK->Prop):Prop:=
  ∀ (pins:List (Addr × Obj)) (s:Shared) (σ:St) (H:Hp) (x:V) (v vl vu:Value) (lo hi:Option Int) (sl:Addr) (Q:VK),Inv X pins σ H s->RelV x v->s.heap.IsSliceOf sl vl vu .none->IsPart vl lo->IsPart vu hi->r x lo hi H Q->
    ∃ T id,typeLookup (.type T) "__getitem__"=pure (some (.builtin id))/\s.TypeIs v T/\wpAny (model X.prog X.w) X.A (getItem v (.ref sl)) (EP X pins σ Q) X.xe s
def tSl (r:V->Option Int->Option Int->Hp->VK->Prop) (te:TE) (tl th:TO):TE:=λ σ H Q=>te σ H λ x H1=>tl σ H1 λ l H2=>th σ H2 λ u H3=>r x l u H3 Q
theorem DU {r:V->Option Int->Option Int->Hp->VK->Prop} (hr:SlR X r) (he:PE X e te) (hl:PO X lo tl) (hu:PO X hi th):PE X (.Subscript e (.Slice lo hi none p2) pos) (tSl r te tl th):=by
  intro pins s σ H Q I h;refine Subscript_ (thn (he pins s σ H _ I h) λ v s1 ⟨x,H1,I1,r1,q1⟩=> ?_);refine wpAny_Slice (thn (hl pins s1 σ H1 _ I1 q1) λ vl s2 ⟨l,H2,I2,pl,q2⟩=>thn (hu pins s2 σ H2 _ I2 q2) λ vu s3 ⟨u,H3,I3,pu,q3⟩=> ?_);rw [evalPart_none];refine wpAny_pure ?_;have I4:Inv X pins σ H3 { s3 with heap:=s3.heap.push { cls:= .type "slice",data:= .fields #[vl,vu, .none] } }:=I3.kept (t':=s3.toks) λ b ob q=>Heap.get?_push_of_some _ q;obtain ⟨T,id,hT,ht,hg⟩:=hr pins { s3 with heap:=s3.heap.push { cls:= .type "slice",data:= .fields #[vl,vu, .none] } } σ H3 x v vl vu l u s3.heap.objs.size Q I4 r1 (Heap.IsSliceOf.new ..) pl pu q3;show wpAny (model X.prog X.w) X.A (subscriptTail e (.Slice lo hi none p2) v (.ref s3.heap.objs.size)) (EP X pins σ Q) X.xe { s3 with heap:=s3.heap.push { cls:= .type "slice",data:= .fields #[vl,vu, .none] } };exact tail_any (ops:=[.ref s3.heap.objs.size,v]) ht hT hg (by with_unfolding_all rfl)
def FA (xs:List V) (lo hi:Option Int):List V:=(xs.drop (HT.sIx xs.length 0 lo)).take (HT.sIx xs.length xs.length hi - HT.sIx xs.length 0 lo)
theorem Hx (xs:List V) (lo hi:Option Int):(FA xs lo hi).length<=xs.length:=by
  unfold FA;rw [List.length_take,List.length_drop];omega
end
def ixN (n:Nat) (i:Int):Option Nat:=if 0<=i then (if i<n then some i.toNat else none) else if -(n:Int)<=i then some (i+n).toNat else none
def atI {α:Type} (xs:List α) (i:Int):Option α:=(ixN xs.length i).bind λ j=>xs[j]?
theorem M4 {n:Nat} {i:Int} {j:Nat} (h:ixN n i=some j):seqIndex? i n=some j/\j<n/\ -(n:Int)<=i/\i<n:=by
  unfold ixN at h;by_cases h0:0<=i
  · rw [if_pos h0] at h;by_cases h1:i<n
    · rw [if_pos h1] at h;have e:i.toNat=j:=Option.some.inj h;exact ⟨by rw [seqIndex_of h0 h1,e],by omega,by omega,h1⟩
    · rw [if_neg h1] at h;cases h
  · rw [if_neg h0] at h;by_cases h1: -(n:Int)<=i
    · rw [if_pos h1] at h;have e:(i+n).toNat=j:=Option.some.inj h;exact ⟨by rw [seqIndex_neg (by omega) h1,e],by omega,h1,by omega⟩
    · rw [if_neg h1] at h;cases h
theorem Jt {α:Type} {xs:List α} {i:Int} {v:α} (h:atI xs i=some v):∃ j,seqIndex? i xs.length=some j/\xs[j]?=some v/\j<xs.length/\ -(xs.length:Int)<=i/\i<xs.length:=by
  unfold atI at h;cases e:ixN xs.length i with
  | none=>rw [e] at h;cases h
  | some j=>
    rw [e] at h;obtain ⟨h1,h2,h3,h4⟩:=M4 e;exact ⟨j,h1,h,h2,h3,h4⟩
theorem Ax {α:Type} {xs:List α} {j:Nat} {v:α} (h:xs[j]?=some v):atI xs (j:Int)=some v:=by
  have hj:j<xs.length:=(List.getElem?_eq_some_iff.mp h).1;have e:ixN xs.length (j:Int)=some j:=by
    unfold ixN;rw [if_pos (by omega),if_pos (by omega)];simp
  unfold atI;rw [e];exact h
theorem Lx {α:Type} (xs:List α) (v:α):atI (xs++[v]) (-1)=some v:=by
  have hl:(xs++[v]).length=xs.length+1:=by simp
  have e:ixN (xs++[v]).length (-1)=some xs.length:=by
    unfold ixN;rw [hl,if_neg (by decide),if_pos (by omega)];congr 1;omega
  unfold atI;rw [e];show (xs++[v])[xs.length]?=some v;simp
def My (b:Expr):Prop:=∀ o i,subscripted b false o i=operate [o,i] (getItem o i)
def IxR (X:Cx) (r:R2):Prop:=
  ∀ (value slice:Expr) (pins:List (Addr × Obj)) (s:Shared) (σ:St) (H:Hp) (x y:V) (v u:Value) (Q:VK),Inv X pins σ H s->RelV x v->RelV y u->r x y H Q->
    subscripted slice false v u=operate [v,u] (getItem v u)->wpAny (model X.prog X.w) X.A (subscriptTail value slice v u) (EP X pins σ Q) X.xe s
def MtR (X:Cx) (id:String) (r:V->List V->Hp->VK->Prop):Prop:=
  ∀ (pins:List (Addr × Obj)) (s:Shared) (σ:St) (H:Hp) (x:V) (xs:List V) (v:Value) (us:List Value) (Q:VK),Inv X pins σ H s->RelV x v->Vals xs us->r x xs H Q->
    wpAny (model X.prog X.w) X.A (call (.builtin id) (v::us)) (EP X pins σ Q) X.xe s
section
variable {X:Cx} {a b:Expr} {ta tb:TE} {pos:Pos}
theorem AE {r:R2} (hr:IxR X r) (ha:PE X a ta) (hb:PE X b tb) (hs:My b):PE X (.Subscript a b pos) (tOp r ta tb):=by
  intro pins s σ H Q I h;exact Subscript_ (NV ha hb I h λ v u s2 x y H2 I2 rx ry q=>hr a b pins s2 σ H2 x y v u Q I2 rx ry q (hs _ _))
def N3 (K:PySem.W.Frag):R2:=λ x y H Q=>∃ p xs i v,x= .ref p/\y= .int i/\SqL K H p xs/\atI xs i=some v/\Q v H
def NW (K:PySem.W.Frag):R2:=λ x y H Q=>∃ p xs i v,x= .ref p/\y= .int i/\SqT K H p xs/\atI xs i=some v/\Q v H
theorem M9:IxR X (N3 X.K):=by
  intro value slice pins s σ H x y v u Q I rx ry h hs;obtain ⟨p,xs,i,z,rfl,rfl,hq,he,q⟩:=h;cases rx;obtain ⟨t,rfl⟩:=ry;obtain ⟨its,r,pl,hz⟩:=I.list hq;obtain ⟨j,h1,h2,h3,h4,h5⟩:=Jt he;obtain ⟨w,ew,rw'⟩:=r.get h2;have hl:=r.length;have hn:=GP;have fin:EP X pins σ Q w s:=⟨z,H,I,rw',q⟩;by_cases h0:0<=i
  · have hj:i.toNat=j:=by
      rw [seqIndex_of h0 h5] at h1;exact Option.some.inj h1
    exact item_listR pl.isList h0 (by omega) (by rw [hj];simpa using ew) fin hs
  · have hj:(i+(its.toArray.size:Int)).toNat=j:=by
      rw [seqIndex_neg (by omega) h4] at h1;rw [List.size_toArray, <-hl];exact Option.some.inj h1
    exact subscriptTail_builtinR (x:=w) pl.isList.typeIs slot_list_getitem.lookup
      (wpAny_getItem_list_neg (Q:=λ r s'=>r=w/\EP X pins σ Q r s') pl.isList (by omega) (by rw [List.size_toArray] <;> omega) (by omega) (by rw [hj];simpa using ew) ⟨rfl,fin⟩) hs
theorem N1:IxR X (NW X.K):=by
  intro value slice pins s σ H x y v u Q I rx ry h hs;obtain ⟨p,xs,i,z,rfl,rfl,hq,he,q⟩:=h;cases rx;obtain ⟨t,rfl⟩:=ry;obtain ⟨its,r,pl,hz⟩:=I.tuple hq;obtain ⟨j,h1,h2,h3,h4,h5⟩:=Jt he;obtain ⟨w,ew,rw'⟩:=r.get h2;have hl:=r.length;have hn:=GP;have fin:EP X pins σ Q w s:=⟨z,H,I,rw',q⟩;exact subscriptTail_builtinR (x:=w) pl.typeIs slot_tuple_getitem.lookup
    (getItem_tuple (j:=j) (Q:=λ r s'=>r=w/\EP X pins σ Q r s') pl (by omega) (by omega) (by rw [List.size_toArray, <-hl];exact h1) (by simpa using ew) ⟨rfl,fin⟩) hs
theorem Gw (lo hi:Option Int) (n:Nat):(sliceBounds lo hi none n).1=((HT.sIx n 0 lo:Nat):Int)/\(sliceBounds lo hi none n).2.1=((HT.sIx n n hi:Nat):Int)/\(sliceBounds lo hi none n).2.2=1:=by
  refine ⟨?_,?_,rfl⟩
  · cases lo with
    | none=>simp [sliceBounds,HT.sIx]
    | some i=>
      simp only [sliceBounds,HT.sIx,Option.getD_none,show (1:Int)>0 by decide,if_true];by_cases h:i<0
      · simp only [h,if_true] <;> omega
      · simp only [h,if_false] <;> omega
  · cases hi with
    | none=>simp [sliceBounds,HT.sIx]
    | some i=>
      simp only [sliceBounds,HT.sIx,Option.getD_none,show (1:Int)>0 by decide,if_true];by_cases h:i<0
      · simp only [h,if_true] <;> omega
      · simp only [h,if_false] <;> omega
theorem FW (its:List Value) (lo hi:Option Int):slicePick its.toArray lo hi none=((its.drop (HT.sIx its.length 0 lo)).take (HT.sIx its.length its.length hi - HT.sIx its.length 0 lo)).toArray:=by
  obtain ⟨h1,h2,h3⟩:=Gw lo hi its.toArray.size;unfold slicePick;rw [h1,h2,h3];simp only [sliceRange_one,pick_run,List.size_toArray] <;> rfl
def ON (K:PySem.W.Frag):V->Option Int->Option Int->Hp->VK->Prop:=λ x lo hi H Q=>∃ a xs,x= .ref a/\SqL K H a xs/\∀ p,H p=none->Q (.ref p) (upd H p (.lst (FA xs lo hi)))
theorem L4:SlR X (ON X.K):=by
  intro pins s σ H x v vl vu lo hi sl Q I rx hs pl pu h;obtain ⟨a,xs,rfl,hx,q⟩:=h;cases rx;obtain ⟨its,r,ht,hz⟩:=I.list hx;have hlen:=r.length;refine ⟨"list",_,slot_list_getitem.lookup,ht.isList.typeIs,?_⟩;refine wpAny_getItem_list_slice ht.isList hs pl pu .none (by simp) ?_ (by rw [List.size_toArray] <;> omega);rw [FW, <-hlen];refine ⟨.ref s.heap.objs.size,_,I.laid (t':=s.toks) (o:= .lst (FA xs lo hi)) (λ b ob q=>Heap.get?_push_of_some _ q) (Nat.le_refl _) ?_,rfl,q _ (I.hok.fresh (Nat.le_refl _))⟩;exact ⟨Nat.le_trans (Hx xs lo hi) hz,_,0,(r.drop (HT.sIx xs.length 0 lo)).take (HT.sIx xs.length xs.length hi - HT.sIx xs.length 0 lo),Heap.get?_push_size _ rfl⟩
def Dk:V->Bool
  | .non=>true
  | .bl _=>true
  | .int _=>true
  | .str _=>true
  | _=>false
def eqV:V->V->Bool
  | .non, .non=>true
  | .bl a, .bl b=>a == b
  | .bl a, .int b=>(if a then 1 else 0) == b
  | .int a, .bl b=>a == (if b then 1 else 0)
  | .int a, .int b=>a == b
  | .str a, .str b=>a == b
  | _,_=>false
theorem Oj {A:Around} {s:Shared} {y x:V} {u v:Value} (ry:RelV y u) (rx:RelV x v) (fy:Dk y=true) (fx:Dk x=true):SeqAt.EqAt A s u v (eqV y x):=by
  cases y with
  | non=>
    cases ry;cases x with
    | non=>cases rx;exact SeqAt.EqAt.same _
    | bl b=>cases rx;exact SeqAt.EqAt.none_bool b
    | int b=>obtain ⟨t,rfl⟩:=rx;exact SeqAt.EqAt.none_int b t
    | str b=>obtain ⟨t,rfl⟩:=rx;exact SeqAt.EqAt.none_str b t
    | _=>exact absurd (show false=true from fx) Bool.false_ne_true
  | bl a=>
    cases ry;cases x with
    | non=>cases rx;exact SeqAt.EqAt.bool_none a
    | bl b=>cases rx;exact SeqAt.EqAt.bool_bool a b
    | int b=>obtain ⟨t,rfl⟩:=rx;exact SeqAt.EqAt.bool_int a b t
    | str b=>obtain ⟨t,rfl⟩:=rx;exact SeqAt.EqAt.bool_str a b t
    | _=>exact absurd (show false=true from fx) Bool.false_ne_true
  | int a=>
    obtain ⟨t',rfl⟩:=ry;cases x with
    | non=>cases rx;exact SeqAt.EqAt.int_none a t'
    | bl b=>cases rx;exact SeqAt.EqAt.int_bool a t' b
    | int b=>obtain ⟨t,rfl⟩:=rx;exact SeqAt.EqAt.int_int a t' b t
    | str b=>obtain ⟨t,rfl⟩:=rx;exact SeqAt.EqAt.int_str a t' b t
    | _=>exact absurd (show false=true from fx) Bool.false_ne_true
  | str a=>
    obtain ⟨t',rfl⟩:=ry;cases x with
    | non=>cases rx;exact SeqAt.EqAt.str_none a t'
    | bl b=>cases rx;exact SeqAt.EqAt.str_bool a t' b
    | int b=>obtain ⟨t,rfl⟩:=rx;exact SeqAt.EqAt.str_int a t' b t
    | str b=>obtain ⟨t,rfl⟩:=rx;exact SeqAt.EqAt.str_str a t' b t
    | _=>exact absurd (show false=true from fx) Bool.false_ne_true
  | _=>exact absurd (show false=true from fy) Bool.false_ne_true
theorem GR:AV X (.type "list") (λ xs H Q=>∃ p ys,xs=[.ref p]/\(SqL X.K H p ys\/SqT X.K H p ys)/\∀ l,H l=none->Q (.ref l) (upd H l (.lst ys))):=by
  intro pins s σ H xs us Q I r h;obtain ⟨p,ys,rfl,hq,q⟩:=h;obtain ⟨u,rfl,rx⟩:=Ey r;cases rx;have fin:∀ (its:List Value),Vals ys its->ys.length<=sizeLine->∀ (h':Heap) (c':Nat),(∀ b o',s.heap.get? b=some o'->h'.get? b=some o')->
      h'.get? s.heap.objs.size=some { cls:= .type "list",dict:=none,data:= .seq its.toArray c',slots:= #[] }->EP X pins σ Q (.ref s.heap.objs.size) { s with heap:=h' }:=λ its r' hz h' c' kp e=>
    ⟨.ref s.heap.objs.size,_,I.laid (t':=s.toks) kp (Nat.le_refl _) (show ObjOk X.prog X.w _ h' _ (.lst ys) from ⟨hz,its,c',r',e⟩),rfl,q _ (I.hok.fresh (Nat.le_refl _))⟩
  rcases hq with hq | hq
  · obtain ⟨its,r',pl,hz⟩:=I.list hq;have hlen:=r'.length;obtain ⟨o,ho,hc,n,hd⟩:=pl.isList;exact call_list_seq p (.inl rfl) ho hc hd (λ h' c' kp e=>fin its r' hz h' c' kp e) (by simp only [List.size_toArray] <;> omega)
  · obtain ⟨its,r',pl,hz⟩:=I.tuple hq;have hlen:=r'.length;obtain ⟨o,ho,hc,n,hd⟩:=pl;exact call_list_seq p (.inr rfl) ho hc hd (λ h' c' kp e=>fin its r' hz h' c' kp e) (by simp only [List.size_toArray] <;> omega)
theorem FV:AV X (.type "tuple") (λ xs H Q=>∃ p ys,xs=[.ref p]/\((SqL X.K H p ys/\∀ l,H l=none->Q (.ref l) (upd H l (.tup ys)))\/(SqT X.K H p ys/\Q (.ref p) H))):=by
  intro pins s σ H xs us Q I r h;obtain ⟨p,ys,rfl,h⟩:=h;obtain ⟨u,rfl,rx⟩:=Ey r;cases rx;rcases h with ⟨hq,q⟩ | ⟨hq,q⟩
  · obtain ⟨its,r',pl,hz⟩:=I.list hq;have hlen:=r'.length;refine call_tuple_list pl.isList (λ h' kp=> ?_) (by simp only [List.size_toArray] <;> omega);have I1:Inv X pins σ H { s with heap:=h' }:=I.kept (t':=s.toks) kp;have I2:Inv X pins σ (upd H h'.objs.size (.tup ys)) { s with heap:=h'.push { cls:= .type "tuple",data:= .seq its.toArray } }:=
      I1.laid (t':=s.toks) (λ b o e=>Heap.get?_push_of_some _ e) (Nat.le_refl _) (show ObjOk X.prog X.w _ _ _ (.tup ys) from ⟨hz,its,r',IsTup.new _ _⟩)
    exact ⟨.ref h'.objs.size,_,I2,rfl,q _ (I1.hok.fresh (Nat.le_refl _))⟩
  · obtain ⟨its,r',pl,hz⟩:=I.tuple hq;exact call_tuple_same pl ⟨.ref p,H,I,rfl,q⟩
def tyV (K:PySem.W.Frag) (T:String) (x:V) (H:Hp):Prop:=match x with
  | .str _=>T="str"
  | .int _=>T="int"
  | .ref p=>(T="list"/\∃ xs,SqL K H p xs)\/(T="tuple"/\∃ o,K.lookup p=some o/\o.cls= .type "tuple"/\o.dict=none)\/
      (T="dict"/\((∃ kvs,H p=some (.dK kvs))\/∃ kvs,H p=some (.dT kvs)))\/(T="set"/\∃ S n,H p=some (.set S n))
  | _=>False
theorem LR {pins:List (Addr × Obj)} {σ:St} {H:Hp} {s:Shared} {T:String} {x:V} {v:Value} (I:Inv X pins σ H s) (r:RelV x v) (ty:tyV X.K T x H):
    s.TypeIs v T/\∀ a,v= .ref a->∃ ob,s.heap.get? a=some ob/\ob.dict=none:=by
  cases x with
  | str z=>
    obtain ⟨t,rfl⟩:=r;cases (show T="str" from ty);exact ⟨typeIs_str s z t,λ _ e=>nomatch e⟩
  | int i=>
    obtain ⟨t,rfl⟩:=r;cases (show T="int" from ty);exact ⟨typeIs_int s i t,λ _ e=>nomatch e⟩
  | ref p=>
    cases r;rcases ty with ⟨rfl,xs,hq⟩ | ⟨rfl,o,hk,hc,hd⟩ | ⟨rfl,hk⟩ | ⟨rfl,S,n,hk⟩
    · obtain ⟨its,_,pl,_⟩:=I.list hq;refine ⟨pl.isList.typeIs,λ a e=> ?_⟩;cases e;obtain ⟨o,n,e,c,hd,_⟩:=pl;exact ⟨o,e,hd⟩
    · refine ⟨⟨o,I.kIn p o hk,hc⟩,λ a e=> ?_⟩;cases e;exact ⟨o,I.kIn _ o hk,hd⟩
    · have z:∃ o,s.heap.get? p=some o/\o.ExactDict:=by
        rcases hk with ⟨kvs,hk⟩ | ⟨kvs,hk⟩
        · obtain ⟨_,_,_,_,o,_,_,e,ex,_⟩:=I.hok p _ hk;exact ⟨o,e,ex⟩
        · obtain ⟨_,_,_,_,o,_,_,e,ex,_⟩:=I.hok p _ hk;exact ⟨o,e,ex⟩
      obtain ⟨o,e,ex⟩:=z;refine ⟨⟨o,e,ex.1⟩,λ a e2=> ?_⟩;cases e2;exact ⟨o,e,ex.2.1⟩
    · obtain ⟨o,_,_,_,e,ex,_⟩:=I.hok p _ hk;refine ⟨⟨o,e,ex.1⟩,λ a e2=> ?_⟩;cases e2;exact ⟨o,e,ex.2.1⟩
  | _=>exact False.elim ty
def Of (K:PySem.W.Frag) (T:String) (r:V->List V->Hp->VK->Prop) (to:TE):TE:=λ σ H Q=>to σ H λ x H1=>tyV K T x H1/\r x [] H1 Q
def tBM (K:PySem.W.Frag) (T:String) (r:V->List V->Hp->VK->Prop) (to:TE) (t:TA):TE:=λ σ H Q=>to σ H λ x H1=>tyV K T x H1/\t σ H1 λ xs H2=>r x xs H2 Q
variable {o e:Expr} {es:List Expr} {to:TE} {t:TA} {name:Str} {apos cpos:Pos} {T id:String} {r:V->List V->Hp->VK->Prop}
theorem NJ (pa:PlainAttrs T) (slot:Slot T name id) (hty:typeOf (.builtin id)=pure (.type "method_descriptor")) (hm:MtR X id r) (ho:PE X o to)
    (hbase:attributeBase o name X.env (eval o X.env)=eval o X.env:=by rfl) (hline:(apos.endLine == cpos.line)=true:=by rfl):PE X (.Call (.Attribute o name apos) [] [] cpos) (Of X.K T r to):=by
  intro pins s σ H Q I h;refine wpAny_Call_method0_late hbase hline (thn (ho pins s σ H _ I h) λ v s1 ⟨x,H1,I1,r1,ty,q1⟩=> ?_);obtain ⟨h1,h2⟩:=LR I1 r1 ty;exact ⟨T,id,pa,slot,hty,h1,h2,Calls.callWith_builtin rfl (PySem.evalArgs_none (hm pins s1 σ H1 x [] v [] Q I1 r1 .nil q1))⟩
theorem PQ (pa:PlainAttrs T) (slot:Slot T name id) (hty:typeOf (.builtin id)=pure (.type "method_descriptor")) (hm:MtR X id r) (ho:PE X o to) (ha:PA X (e::es) t)
    (hbase:attributeBase o name X.env (eval o X.env)=eval o X.env:=by rfl)
    (hfew:((backTo cpos (starEach (e::es) X.env)).all (λ x=> !x.1)&&(backToKw cpos (keywordEach [] X.env)).all (λ x=>x.1.isSome)
      && decide ((e::es).length+([]:List Keyword).length+(if ([]:List Keyword).isEmpty then 0 else 1)<30))=true:=by rfl)
    (hline:(apos.endLine == cpos.line)=true:=by rfl) (hs:starEach (e::es) X.env=(false,eval e X.env)::starEach es X.env:=by rfl) (hplain:(backTo cpos (starEach es X.env)).any (·.1)=false:=by rfl):
    PE X (.Call (.Attribute o name apos) (e::es) [] cpos) (tBM X.K T r to t):=by
  intro pins s σ H Q I h;refine wpAny_Call_method_late hbase hfew hline rfl (thn (ho pins s σ H _ I h) λ v s1 ⟨x,H1,I1,r1,ty,q1⟩=> ?_);obtain ⟨h1,h2⟩:=LR I1 r1 ty;refine ⟨T,id,pa,slot,hty,h1,h2,?_⟩;have hA:=ha cpos pins s1 σ H1 _ I1 q1;rw [hs] at hA ⊢;refine Calls.callWith_builtin (by show (false||(backTo cpos (starEach es X.env)).any (·.1))=false;rw [hplain] <;> rfl) (Calls.evalArgs_plain ?_);exact thn hA λ us s2 ⟨vs,H2,I2,r2,q2⟩=>hm pins s2 σ H2 x vs v us Q I2 r1 r2 q2
end
def MtM (X:Cx) (id:String) (r:V->List V->Hp->VK->Prop):Prop:=
  ∀ (pins:List (Addr × Obj)) (s:Shared) (σ:St) (H:Hp) (x:V) (xs:List V) (v:Value) (us:List Value) (Q:VK),Inv X pins σ H s->RelV x v->Vals xs us->r x xs H Q->
    wpAny (model X.prog X.w) X.A (call (.builtin id) (v::us)) (EP X pins σ Q) X.xe s
theorem Vals.one:∀ {x:V} {us:List Value},Vals [x] us->∃ u,us=[u]/\RelV x u
  | _,_, .cons r .nil=>⟨_,rfl,r⟩
theorem Vals.zero:∀ {us:List Value},Vals [] us->us=[]
  | _, .nil=>rfl
theorem Vals.reverse {xs:List V} {us:List Value} (h:Vals xs us):Vals xs.reverse us.reverse:=by
  induction h with
  | nil=>exact .nil
  | cons r t ih=>rw [List.reverse_cons,List.reverse_cons];exact Vals.append ih (.cons r .nil)
theorem Vals.rep {xs:List V} {us:List Value} (h:Vals xs us):∀ k:Nat,Vals (List.replicate k xs).flatten (List.replicate k us).flatten
  | 0=> .nil
  | k+1=>by
    rw [List.replicate_succ,List.replicate_succ,List.flatten_cons,List.flatten_cons];exact Vals.append h (Vals.rep h k)
theorem Gp (its:List Value):∀ (k:Nat) (acc:List Value),
    List.foldl (λ x1 x2=>x1++x2) acc.toArray (List.replicate k its.toArray)=(acc++(List.replicate k its).flatten).toArray
  | 0,acc=>by simp
  | k+1,acc=>by
    have e:acc.toArray++its.toArray=(acc++its).toArray:=by simp
    have e2:(acc++its)++(List.replicate k its).flatten=acc++(List.replicate (k+1) its).flatten:=by
      rw [List.replicate_succ,List.flatten_cons,List.append_assoc]
    rw [<-e2, <-Gp its k (acc++its), <-e,List.replicate_succ,List.foldl_cons]
section
variable {X:Cx} {pins:List (Addr × Obj)} {σ:St} {H:Hp} {s:Shared} {l b:Addr} {xs ys zs:List V}
theorem Inv.lset {its its':List Value} {n:Nat} {f:Array Value->Array Value} {t':Nat} (I:Inv X pins σ H s) (hH:H l=some (.lst xs))
    (e:s.heap.get? l=some { cls:= .type "list",data:= .seq its.toArray n }) (hf:f its.toArray=its'.toArray) (hv:Vals ys its') (hz:ys.length<=sizeLine):
    Inv X pins σ (upd H l (.lst ys)) { s with heap:=s.heap.update l (Obj.mapSeq f),toks:=t' }:=by
  have q:=PySem.IsL.update e f;rw [hf] at q;refine I.write (x:=l) (e:=l) (by rw [hH];exact trivial) (.inl rfl) (λ b' u hb hu=>(Heap.get?_update_other s.heap (Obj.mapSeq f) (Ne.symm hb)).trans hu) ⟨_,q⟩ ?_;exact ⟨hz,its',_,hv,q⟩
theorem Inv.lnew {its:List Value} {t':Nat} (I:Inv X pins σ H s) (hv:Vals ys its) (hz:ys.length<=sizeLine):
    Inv X pins σ (upd H s.heap.objs.size (.lst ys)) { s with heap:=s.heap.push { cls:= .type "list",data:= .seq its.toArray },toks:=t' }:=
  I.laid (λ _ _ q=>Heap.get?_push_of_some _ q) (Nat.le_refl _) ⟨hz,its,0,hv,Heap.get?_push_size _ rfl⟩
theorem Inv.fresh (I:Inv X pins σ H s):H s.heap.objs.size=none:=I.hok.fresh (Nat.le_refl _)
theorem Inv.lstM (I:Inv X pins σ H s) (hH:H l=some (.lst xs)):xs.length<=sizeLine/\∃ (its:List Value) (n:Nat),Vals xs its/\xs.length=its.length/\s.heap.get? l=some { cls:= .type "list",data:= .seq its.toArray n }:=by
  obtain ⟨z,its,n,r,e⟩:=I.hok l _ hH;exact ⟨z,its,n,r,r.length,e⟩
theorem Lb {n:Nat} (h:n<=sizeLine):Builtin.List.listTooLong n=false:=by
  unfold Builtin.List.listTooLong;exact decide_eq_false (by omega)
end
section
variable {X:Cx}
def rAppend:V->List V->Hp->VK->Prop:=λ x vs H Q=>∃ l xs y,x= .ref l/\vs=[y]/\H l=some (.lst xs)/\xs.length<sizeLine/\Q .non (upd H l (.lst (xs++[y])))
theorem Bl:MtM X "list.append" rAppend:=by
  intro pins s σ H x vs v us Q I rx rv h;obtain ⟨l,xs,y,rfl,rfl,hH,hz,q⟩:=h;cases rx;obtain ⟨u,rfl,ru⟩:=rv.one;obtain ⟨z,its,n,r,hl,e⟩:=I.lstM hH;refine call_meets F.slot_list_append ⟨_,e,rfl⟩ F.entry_list_append (F.args_list_append_2 _ _) (PySem.list_append l its.toArray n u (by rw [List.size_toArray];omega)) ⟨e,?_⟩;refine ⟨.non,_,I.lset (its':=its++[u]) hH e (by simp) (r.append (.cons ru .nil)) ?_,rfl,q⟩;rw [List.length_append,List.length_singleton];omega
def PJ:R2:=λ x y H Q=>∃ l k xs,x= .ref l/\y= .int k/\H l=some (.lst xs)/\ -(2 ^ 63)<=k/\k<2 ^ 63/\xs.length*k.toNat<=sizeLine/\
  ∀ p,H p=none->Q (.ref p) (upd H p (.lst (List.replicate k.toNat xs).flatten))
theorem MI {α:Type} (xs:List α) (k:Nat):(List.replicate k xs).flatten.length=k*xs.length:=by
  induction k with
  | zero=>simp
  | succ k ih=>rw [List.replicate_succ,List.flatten_cons,List.length_append,ih,Nat.succ_mul,Nat.add_comm]
theorem Om:OpR X (binaryOp .Mult) PJ:=by
  intro pins s σ H x y v u Q I rx ry h;obtain ⟨l,k,xs,rfl,rfl,hH,h1,h2,hz,q⟩:=h;cases rx;obtain ⟨t,rfl⟩:=ry;obtain ⟨z,its,n,r,hl,e⟩:=I.lstM hH;have hlen:its.toArray.size*k.toNat<=sizeLine:=by rw [List.size_toArray, <-hl];exact hz
  have hcap:¬ its.toArray.size*k.toNat>(2 ^ 63 - 1) / 8:=by
    have:(sizeLine:Nat)<=(2 ^ 63 - 1) / 8:=by decide
    omega
  have hfit:¬ (!Builtin.List.listFitsIndex k)=true:=by
    rw [fitsIndex_both h1 h2];exact Bool.false_ne_true
  have hlong:¬ Builtin.List.listTooLong (its.toArray.size*k.toNat)=true:=by
    rw [Lb hlen];exact Bool.false_ne_true
  have hnew:List.foldl (λ x1 x2=>x1++x2) #[] (List.replicate (if its.toArray.isEmpty=true then 0 else k.toNat) its.toArray)=(List.replicate k.toNat its).flatten.toArray:=by
    have f0:∀ m:Nat,List.foldl (λ x1 x2=>x1++x2) #[] (List.replicate m its.toArray)=(List.replicate m its).flatten.toArray:=λ m=>by
      have:=Gp its m [];rw [List.nil_append] at this;exact this
    rw [f0];cases its with
    | nil=>simp
    | cons a r'=>rw [if_neg (by simp)]
  refine wpAny_binaryOp_repeat_ref (T:="list") (U:="int") (by decide) ⟨_,e,rfl⟩ (λ s'=>typeIs_int s' k t) noFill_list_mul F.fills_int_mul F.slot_int_rmul repeat_list F.slot_int_index.lookup
    (call_meets F.slot_int_rmul (typeIs_int s k t) F.entry_int_rmul (F.args_int_rmul_2 _ _) (int___rmul___int_list k t l its.toArray n)
      ⟨e,rfl,⟨_,e,rfl⟩,call_meets F.slot_list_mul ⟨_,e,rfl⟩ F.entry_list_mul (F.args_list_mul_2 _ _) (AutoListH.list___mul___list_int_3 l its.toArray n k t hfit hcap hlong) ⟨e,?_⟩⟩)
  rw [hnew];exact ⟨.ref _,_,I.lnew (t':=s.toks) (r.rep k.toNat) (by rw [MI,Nat.mul_comm];exact hz),rfl,q _ I.fresh⟩
end
section
variable {prog:Program} {w:World} {A:Around} {E:Value->Shared->Prop} {s:Shared}
end
section
variable {X:Cx}
end
end L2
namespace Att
open PySem PySem.W PySem.Calls PyProof.Rows
theorem EM {P:Params} {h:Heap}:∀ (ns:List Int) (vs:List Value),WellAll P h vs (ns.map WData.int)->IntsAre vs ns:=by
  intro ns
  induction ns with
  | nil=>
    intro vs w;rw [List.map_nil] at w;cases w;exact .nil
  | cons n ns ih=>
    intro vs w;rw [List.map_cons] at w;cases w with
    | cons a b=>
      cases a;exact .cons _ _ (ih _ b)
theorem Kd {l:OpenLaw} {n:Nat} (hn:l.most=some n) {P:Params} {h:Heap} {args:List WData} {vals:List Value}
    (hpre:l.row.toRowW.claim.pre args=true) (hwl:WellAll P h vals args):
    ∃ a vs ns,vals=[Value.ref a]/\args=[WData.list (ns.map WData.int)]/\h.get? a=some { cls:= .type "list",data:= .seq vs.toArray }/\IntsAre vs ns/\ns.length<=n:=by
  have hsh:WShape.hasAll [] args [.list .int]=true:=(pre_splitW hpre).1;have hc:l.pre.holds [] { args:=args }=true:=(pre_splitW hpre).2;obtain ⟨d,r,rfl,h1,h2⟩:=hasAllW_cons hsh;obtain rfl:=hasAllW_nil h2;obtain ⟨xs,rfl,h3⟩:=hasW_list h1;obtain ⟨ns,rfl⟩:=items_int h3;have hlen:ns.length<=n:=by
    unfold OpenLaw.pre at hc;have h4:(WTm.not (.lt (.lit (.int (n:Int))) (.len (.arg 0)))).holds [] { args:=[.list (ns.map .int)] }=true:=by
      have h4:=(holds_andW hc).1;rw [hn] at h4;exact h4
    have h5:=condW_of h4 (w_not (w_lt w_lit (w_len_list (w_arg rfl))));rw [List.length_map] at h5;refine Nat.le_of_not_lt λ q=> ?_;have q':(n:Int)<((ns.length:Nat):Int):=by omega
    first
      | (rw [decide_eq_true q'] at h5;exact absurd h5 (by decide))
      | (simp at h5;omega)
  cases hwl with
  | cons w1 w2=>
    cases w2;cases w1 with
    | list ho hall=>exact ⟨_,_,ns,rfl,rfl,ho,EM ns _ hall,hlen⟩
theorem JP (l:OpenLaw) (args:List WData):l.row.toRowW.claim.post args (.bool true) args=true:=
  postW_of (r:=l.row.toRowW) (X:=(true == true))
    (show WShape.has [] (.bool true) .bool=true by first | rfl | decide | simp [WShape.has,WShape.arms,WShape.armsAll])
    (show (WTm.eq .res (.lit (.bool true))).value [] { args:=args,res:=some (.bool true),after:=args }=some (.bool (true == true)) from w_eq_bool (w_res rfl) w_lit) rfl
theorem attach_call {l:OpenLaw} {n:Nat} {q:Program} {loose:List Str} {XP:(Str->Option Value)->Heap->Prop} {YP:World->Heap->Prop} {d:DefRec}
    (hn:l.most=some n) (hdf:d.params.defaults=[])
    (call:∀ (w:World) (s₀ s₁:Shared) (mg mb:Str->Option Value) (fa:Addr) (o:Obj) (pm cd doc:Value) (a:Addr) (vs:List Value) (ns:List Int),
      Ground q loose [] XP w s₀ mg mb s₁.heap->YP w s₁.heap->
      s₁.heap.get? fa=some o->o.data= .func (docDef d.name d.params d.body d.scope pm cd doc)->s₁.heap.CodeRec cd d.name->mg d.name=some (.ref fa)->
      s₁.heap.get? a=some { cls:= .type "list",data:= .seq vs.toArray }->IntsAre vs ns->ns.length<=n->s₁.gens= #[]->
      codeAny (model l.prog w) callerA (.call (.ref fa) ⟨[.ref a],[]⟩) (λ r s'=>r= .ok (.ret (.bool true))/\OldK s₁.heap s'.heap/\s'.os=s₁.os/\AllBare s'.gens) s₁):
    WalkO q loose XP YP l.row.toRowW d [] (λ f vs=>PySem.call f vs):=by
  intro w s₀ s₁ mg mb G Y fa o pm cd doc dV kV ho hd hcd hD hmg hg args vals as hpre hlay hrd hwl hlo;obtain rfl:dV= .none:=Dflts.none hD hdf;obtain rfl:kV= .none:=Dflts.noKw hD;obtain ⟨a,vs,ns,rfl,rfl,hobj,hints,hlen⟩:=Kd hn hpre hwl;refine enter_call (codeAny_mono (call w s₀ s₁ mg mb fa o pm cd doc a vs ns G Y ho (fd_plain hd) hcd hmg hobj hints hlen hg) λ r s' hq=> ?_);obtain ⟨rfl,h2,h3,h4⟩:=hq;exact ⟨.inl ⟨.bool true, .bool true,[],rfl,λ _=>rfl, .bool true,JP l _,λ _=>⟨List.Pairwise.nil,λ _ hm=>(nomatch hm)⟩⟩,h2,h3,h4⟩
section
variable {prog:Program} {w:World} {A:Around} {E:Value->Shared->Prop} {s:Shared} {K:Frag}
end
end Att
namespace L2
open PySem PySem.Spec PyProof.Rows
theorem Gv:∀ {vs:List Value} {ns:List Int},IntsAre vs ns->Vals (ns.map V.int) vs
  | _,_, .nil=> .nil
  | _,_, .cons n t h=> .cons ⟨t,rfl⟩ (Gv h)
def OA (H:Hp):Prop:=∀ b,H b=none\/∃ o xs,H b=some (.frz o (.lst xs))
theorem LJ {P:Program} {w:World} {K:PySem.W.Frag} {mg mb:Str->Option Value} {CX:CXT} {k:Nat} {fa a:Addr} {fd:FuncData} {x:Str} {sp:Sp} {s₁:Shared} {vs:List Value} {ns:List Int}
    (KX:K.In s₁.heap) (hns:s₁.heap.Ns mainGlobals mg) (hb:s₁.heap.Ns builtinsNs mb) (hbb:∀ x:Str,x≠"__name__"->mb x=bootBuiltins x) (hlim:s₁.heap.NoLimit) (hg:s₁.gens= #[])
    (ha:s₁.heap.get? a=some { cls:= .type "list",data:= .seq vs.toArray }) (hi:IntsAre vs ns) (hl:ns.length<=sizeLine) (hr:Room k callerA)
    (F:∀ base:Heap,K.In base->base.Ns mainGlobals mg->FnOk P w K mg base CX k fa fd [x] sp) (hbind:∀ (s:Shared) (u:Value),BindsTo s fd ⟨[u],[]⟩ [(x,u)])
    (hsp:∀ H:Hp,OA H->SqL K H a (ns.map V.int)->sp [.ref a] H (λ v _=>v= .bl true) λ _ _ _=>False)
    (hCX:∀ H e s',CX [] H s₁ (λ _ _ _=>False) e s'->False):
    codeAny (model P w) callerA (.call (.ref fa) ⟨[.ref a],[]⟩) (λ r s'=>r= .ok (.ret (.bool true))/\OldK s₁.heap s'.heap/\s'.os=s₁.os/\AllBare s'.gens) s₁:=by
  have rv:=Gv hi;have lenV:=hi.length;have core:∀ H:Hp,OA H->SqL K H a (ns.map V.int)->HOk P w H s₁.heap->(∀ b,H b≠none->b=a)->(H a≠none->K.lookup a=none)->
      codeAny (model P w) callerA (.call (.ref fa) ⟨[.ref a],[]⟩) (λ r s'=>r= .ok (.ret (.bool true))/\OldK s₁.heap s'.heap/\s'.os=s₁.os/\AllBare s'.gens) s₁:=by
    intro H hO hS hok hA hK;have base_of:∀ {b:Addr} {o:Obj},s₁.heap.get? b=some o->H b=none->(GB s₁.heap H).get? b=some o:=λ e n=>KW e n;have noA:∀ {b:Addr} {o:Obj} {es:Array DictEntry} {ep:Nat},s₁.heap.get? b=some o->o.data= .dict es ep->H b=none:=λ {b o es ep} e d=>by
      cases q:H b with
      | none=>rfl
      | some u=>
        have e':b=a:=hA b (by rw [q];simp);subst e';rw [ha] at e;cases e;have d':Data.seq vs.toArray _=Data.dict es ep:=d;cases d'
    have nsK:∀ {b:Addr} {m:Str->Option Value},s₁.heap.Ns b m->(GB s₁.heap H).Ns b m:=λ {b m} ⟨o,es,ep,e,d,r⟩=>⟨o,es,ep,base_of e (noA e d),d,r⟩;have hKb:K.In (GB s₁.heap H):=λ b o e=>base_of (KX b o e) (by
      cases q:H b with
      | none=>rfl
      | some u=>
        have e':b=a:=hA b (by rw [q];simp);subst e';rw [hK (by rw [q];simp)] at e;cases e)
    have hM:Mod K mg (GB s₁.heap H):=⟨hKb,nsK hns,⟨mb,nsK hb,hbb⟩,let ⟨mc,h1,h2⟩:=hlim;⟨mc,nsK h1,h2⟩⟩;have e0:Env0 P w K mg (GB s₁.heap H) callerA [] s₁ H:=⟨rfl,hM,λ b o e=>MH e,Nat.le_of_eq (JV _ _),trivial,λ b hb=>absurd (show b∈([]:List Addr) from hb) (by simp),hok, .of_eq hg⟩;refine codeAny_mono ((F _ hKb (nsK hns)).run callerA [] s₁ H ⟨[.ref a],[]⟩ [.ref a] [.ref a] _ _ hr e0 (hbind s₁ (.ref a)) (.cons rfl .nil) (hsp H hO hS)) λ r s' h=> ?_;cases r with
    | error e=>exact (hCX H e s' h).elim
    | ok fl=>
      cases fl with
      | next=>exact False.elim h
      | brk=>exact False.elim h
      | cont=>exact False.elim h
      | ret u=>
        obtain ⟨v,H',os,bare,un,hok',r',q⟩:=h;have q':v= .bl true:=q;subst q';obtain rfl:u=Value.bool true:=r';refine ⟨rfl,OldK.of_keep λ b o e=> ?_,os,bare⟩;cases q:H b with
        | none=>exact un.keep b o e q (by intro z;exact absurd (show b∈([]:List Addr) from z) (by simp)) (by simp)
        | some u=>
          rcases hO b with z | ⟨ob,xs,z⟩
          · rw [q] at z;cases z
          · have z2:=un.frzs b ob _ z;obtain ⟨e1,_⟩:=hok b _ z;obtain ⟨e2,_⟩:=hok' b _ z2;rw [e] at e1;cases e1;exact e2
  cases hk:K.lookup a with
  | some o=>
    have e:=KX a o hk;rw [ha] at e;cases e;refine core (λ _=>none) (λ _=> .inl rfl) (.inr ⟨_,vs.toArray,_,hk,rfl,rfl,rfl,by rw [List.size_toArray,lenV];exact hl,by simpa using rv⟩) (λ b u z=>by have z':(none:Option HO)=some u:=z;cases z') (λ b z=>absurd rfl z) λ z=>absurd rfl z
  | none=>
    refine core (λ b=>if b=a then some (.frz { cls:= .type "list",data:= .seq vs.toArray } (.lst (ns.map V.int))) else none) (λ b=> ?_) (.inl (.inr ⟨{ cls:= .type "list",data:= .seq vs.toArray },if_pos rfl⟩)) (λ b u z=> ?_) (λ b z=> ?_) λ _=>hk
    · by_cases hb:b=a
      · exact .inr ⟨_,_,if_pos hb⟩
      · exact .inl (if_neg hb)
    · by_cases hb:b=a
      · have z':=(if_pos hb).symm.trans z;cases z';subst hb;exact ⟨ha,by rw [List.length_map];exact hl,vs,_,rv,ha⟩
      · have z':=(if_neg hb).symm.trans z;cases z'
    · by_cases hb:b=a
      · exact hb
      · exact absurd (if_neg hb) z
theorem walk_of {l:PySem.W.OpenLaw} {n k:Nat} {q:Program} {loose:List Str} {XP:(Str->Option Value)->Heap->Prop} {YP:World->Heap->Prop} {d:DefRec} {K:Params->PySem.W.Frag} {CX:World->CXT} {sp:World->Sp} {x:Str}
    (hn:l.most=some n) (hn2:n<=sizeLine) (hdf:d.params.defaults=[]) (hr:Room k callerA)
    (hY:∀ (w:World) (h:Heap),YP w h->(K w.params).In h)
    (F:∀ (w:World) (mg:Str->Option Value) (fa:Addr) (h:Heap),(K w.params).In h->h.Ns mainGlobals mg->mg d.name=some (.ref fa)->
      ∃ fd:FuncData,(∀ (s:Shared) (u:Value),BindsTo s fd ⟨[u],[]⟩ [(x,u)])/\
        ∀ base:Heap,(K w.params).In base->base.Ns mainGlobals mg->FnOk l.prog w (K w.params) mg base (CX w) k fa fd [x] (sp w))
    (hsp:∀ (w:World) (H:Hp) (a:Addr) (ns:List Int),ns.length<=n->OA H->SqL (K w.params) H a (ns.map V.int)->sp w [.ref a] H (λ v _=>v= .bl true) λ _ _ _=>False)
    (hCX:∀ (w:World) (H:Hp) (s:Shared) (e:Value) (s':Shared),CX w [] H s (λ _ _ _=>False) e s'->False):
    PySem.W.WalkO q loose XP YP l.row.toRowW d [] (λ f vs=>PySem.call f vs):=by
  refine Att.attach_call hn hdf λ w s₀ s₁ mg mb fa o pm cd doc a vs ns G Y ho hd hcd hmg hobj hints hlen hg=> ?_;have KX:=hY w _ Y;obtain ⟨fd,hb,hF⟩:=F w mg fa _ KX G.T.g hmg;exact LJ KX G.T.g G.T.b G.T.builtins G.T.nolimit hg hobj hints (Nat.le_trans hlen hn2) hr hF hb (λ H hO hS=>hsp w H a ns hlen hO hS) λ H e s'=>hCX w H s₁ e s'
abbrev CX0:CXT:=λ _ _ _ _ _ _=>False
abbrev E0:XK:=λ _ _ _=>False
theorem Jj {X:Cx}:DJ CX0 X E0:=λ _ _ _ _ _ _ _ h=>h.elim
structure Fun (K:PySem.W.Frag) (x qual:Str) (st:Stmt) (f:Addr) (fd:FuncData):Prop where
  ex:∃ (oc:Value) (od:Option Addr) (kV doc pm:Value) (an:Option Addr) (cdv ct:Value) (osl:Array (Option Value)),
    fd=PySem.W.fnOf x qual (EV st) (DV st) (Aj st) .none kV doc pm an cdv ct/\K.lookup f=some ⟨oc,od, .func fd,osl⟩/\PySem.W.codeIn K cdv qual=true
  kp:PySem.W.keepIn K (.ref f)=true
section
variable {P:Program} {w:World} {K:PySem.W.Frag} {mg:Str->Option Value} {base:Heap}
theorem Fun.ok {x qual:Str} {st:Stmt} {f:Addr} {fd:FuncData} {N ps:List Str} {k:Nat} {sp:Sp} (F:Fun K x qual st f fd) (S:FnScope N ps (Aj st)) (len:∀ vs H Q E,sp vs H Q E->vs.length=ps.length)
    (hbody:∀ (cdv:Value) (A:Around) (outer:List Env) (s:Shared) (H:Hp) (vs:List V) (Q:VK) (E:XK),Room k (A.deeper (envOfC qual (Aj st) s.heap.objs.size f cdv))->sp vs H Q E->
      ∃ t,PSs (Kf CX0 P w K mg base N qual (Aj st) f cdv A outer s H E).nox (DV st) t/\t { nx:=λ _ H'=>Q .non H',rt:=Q } (start N vs) H):FnOk P w K mg base CX0 (k+1) f fd ps sp:=by
  obtain ⟨oc,od,kV,doc,pm,an,cdv,ct,osl,rfl,lk,hcd⟩:=F.ex;refine Pd lk hcd S len λ A outer s H vs Q E hr hsp=> ?_;obtain ⟨t,h,q⟩:=hbody cdv A outer s H vs Q E hr hsp;exact ⟨t,h.nox,q⟩
theorem fun_mk {x qual:Str} {st:Stmt} {f:Addr} {oc:Value} {od an:Option Addr} {osl:Array (Option Value)} {kV doc pm cdv ct:Value} (l:K.lookup f=some ⟨oc,od, .func (PySem.W.fnOf x qual (EV st) (DV st) (Aj st) .none kV doc pm an cdv ct),osl⟩)
    (c:PySem.W.codeIn K cdv qual=true) (k:PySem.W.keepIn K (.ref f)=true):Fun K x qual st f (PySem.W.fnOf x qual (EV st) (DV st) (Aj st) .none kV doc pm an cdv ct):=⟨⟨oc,od,kV,doc,pm,an,cdv,ct,osl,rfl,l,c⟩,k⟩
end
section
variable {X:Cx}
theorem pv (i:Nat) {x:Str} {pos:Pos} (hN:X.N[i]?=some x:=by rfl) (hv:Vis X.env.scope x:=by first | exact Or.inl rfl | exact Or.inr (Or.inl rfl) | exact Or.inr (Or.inr rfl)) (hd:(x == ("__debug__":Str))=false:=by decide)
    (hcd:(x == ("__classdict__":Str))=false:=by decide):PE X (.Name x pos) (LU i):=OP hN hv hd hcd
end
theorem Io {A B:Prop} (h:B):if false=true then A else B:=by
  rw [if_neg Bool.false_ne_true];exact h
theorem Iw {A B:Prop} (h:A):if true=true then A else B:=by
  rw [if_pos rfl];exact h
def Same (H H':Hp):Prop:=∀ b o,H b=some o->H' b=some o
theorem Same.refl (H:Hp):Same H H:=λ _ _ h=>h
theorem Same.trans {H H1 H2:Hp} (a:Same H H1) (b:Same H1 H2):Same H H2:=λ c o h=>b c o (a c o h)
theorem Same.free {H H':Hp} (e:Same H H') {l:Addr} (h:H' l=Option.none):H l=Option.none:=by
  cases q:H l with
  | none=>rfl
  | some o=>
    rw [e l o q] at h;cases h
theorem Same.seq {K:PySem.W.Frag} {H H':Hp} {a:Addr} {xs:List V} (e:Same H H') (h:SqL K H a xs):SqL K H' a xs:=by
  rcases h with (h | ⟨o,h⟩) | h
  · exact .inl (.inl (e _ _ h))
  · exact .inl (.inr ⟨o,e _ _ h⟩)
  · exact .inr h
section
variable {κ:Type} [DecidableEq κ]
def Bt (kvs:List (κ × V)) (k:κ):Option V:=(kvs.find? λ kv=>decide (kv.1=k)).map (·.2)
def Di (kvs:List (κ × V)) (k:κ) (v:V):List (κ × V):=
  if (kvs.any λ kv=>decide (kv.1=k))=true then kvs.map (λ kv=>if kv.1=k then (kv.1,v) else kv) else kvs++[(k,v)]
theorem AL {p:κ × V} {r:List (κ × V)} {k:κ} (e:p.1=k):Bt (p::r) k=some p.2:=by simp [Bt,List.find?_cons,e]
theorem AM {p:κ × V} {r:List (κ × V)} {k:κ} (e:¬ p.1=k):Bt (p::r) k=Bt r k:=by simp [Bt,List.find?_cons,e]
theorem Da (k:κ):∀ kvs:List (κ × V),(kvs.any λ kv=>decide (kv.1=k))=(Bt kvs k).isSome
  | []=>rfl
  | p::r=>by
    rw [List.any_cons];by_cases e:p.1=k
    · simp only [AL e,decide_eq_true e,Bool.true_or,Option.isSome_some]
    · rw [AM e,decide_eq_false e,Bool.false_or];exact Da k r
theorem Hf (k j:κ) (y:V):∀ kvs:List (κ × V),Bt (kvs.map λ kv=>if kv.1=k then (kv.1,y) else kv) j=(Bt kvs j).map λ x=>if j=k then y else x
  | []=>rfl
  | p::r=>by
    have ih:=Hf k j y r;rw [List.map_cons];by_cases h:p.1=k
    · rw [if_pos h];by_cases e:p.1=j
      · rw [AL (p:=(p.1,y)) e,AL e,Option.map_some,if_pos (e.symm.trans h)]
      · rw [AM (p:=(p.1,y)) e,AM e,ih]
    · rw [if_neg h];by_cases e:p.1=j
      · rw [AL (p:=p) e,AL e,Option.map_some,if_neg (λ z=>h (e.trans z))]
      · rw [AM (p:=p) e,AM e,ih]
theorem Ge (k j:κ) (y:V):∀ kvs:List (κ × V),Bt kvs k=none->Bt (kvs++[(k,y)]) j=if j=k then some y else Bt kvs j
  | [],_=>by
    by_cases e:k=j
    · rw [if_pos e.symm];exact AL (p:=(k,y)) e
    · rw [if_neg (λ z=>e z.symm)];exact AM (p:=(k,y)) e
  | p::r,hn=>by
    rw [List.cons_append];have hk:¬ p.1=k:=λ z=>by rw [AL z] at hn;cases hn
    rw [AM hk] at hn;have ih:=Ge k j y r hn;by_cases e:p.1=j
    · rw [AL e,AL e,if_neg (λ z=>hk (e.trans z))]
    · rw [AM e,AM e,ih]
theorem Hh (kvs:List (κ × V)) (k j:κ) (y:V):Bt (Di kvs k y) j=if j=k then some y else Bt kvs j:=by
  unfold Di;by_cases a:(kvs.any λ kv=>decide (kv.1=k))=true
  · rw [if_pos a,Hf];rw [Da] at a;by_cases e:j=k
    · obtain ⟨x,hx⟩:=Option.isSome_iff_exists.mp a;rw [if_pos e,e,hx,Option.map_some,if_pos rfl]
    · rw [if_neg e];cases Bt kvs j with
      | none=>rfl
      | some x=>rw [Option.map_some,if_neg e]
  · rw [if_neg a];refine Ge k j y kvs ?_;rw [Da] at a;cases q:Bt kvs k with
    | none=>rfl
    | some x=>rw [q] at a;exact (a rfl).elim
theorem BY (kvs:List (κ × V)) (k:κ) (v:V):(Di kvs k v).length<=kvs.length+1:=by
  unfold Di;split
  · rw [List.length_map];omega
  · rw [List.length_append,List.length_cons,List.length_nil];omega
theorem HY {kvs:List (κ × V)} {k:κ} (v:V) (h:Bt kvs k=none):Di kvs k v=kvs++[(k,v)]:=by
  unfold Di;rw [Da,h];exact if_neg (by decide)
theorem RelO.isSome_eq {o:Option V} {u:Option Value} (r:RelO o u):o.isSome=u.isSome:=by
  cases o with
  | none=>cases u with
    | none=>rfl
    | some _=>exact (show False from r).elim
  | some _=>cases u with
    | none=>exact (show False from r).elim
    | some _=>rfl
theorem KV.val {kvs:List (κ × V)} {vs:List (κ × Value)} (r:KV kvs vs) (k:κ):RelO (Bt kvs k) (valueAt vs k):=by
  unfold KV at r
  induction r with
  | nil=>exact True.intro
  | @cons p q ps qs h t ih=>
    obtain ⟨h1,h2⟩:=h;by_cases e:p.1=k
    · have e':q.1=k:=h1.symm.trans e;have b:valueAt (q::qs) k=some q.2:=by simp [valueAt,List.find?_cons,e']
      rw [AL e,b];exact h2
    · have e':¬ q.1=k:=λ z=>e (h1.trans z);have b:valueAt (q::qs) k=valueAt qs k:=by simp [valueAt,List.find?_cons,e']
      rw [AM e,b];exact ih
theorem KV.any {kvs:List (κ × V)} {vs:List (κ × Value)} (r:KV kvs vs) (k:κ):(kvs.any λ kv=>decide (kv.1=k))=vs.any λ kv=>decide (kv.1=k):=by
  unfold KV at r
  induction r with
  | nil=>rfl
  | cons h t ih=>rw [List.any_cons,List.any_cons,ih,h.1]
theorem KV.repl {kvs:List (κ × V)} {vs:List (κ × Value)} (r:KV kvs vs) (k:κ) {y:V} {u:Value} (ry:RelV y u):
    KV (kvs.map λ kv=>if kv.1=k then (kv.1,y) else kv) (vs.map λ kv=>if kv.1=k then (kv.1,u) else kv):=by
  unfold KV at r ⊢
  induction r with
  | nil=>exact .nil
  | @cons p q ps qs h t ih=>
    rw [List.map_cons,List.map_cons];refine .cons ?_ ih;obtain ⟨h1,h2⟩:=h;by_cases e:p.1=k
    · rw [if_pos e,if_pos (h1.symm.trans e)];exact ⟨h1,ry⟩
    · rw [if_neg e,if_neg (λ z=>e (h1.trans z))];exact ⟨h1,h2⟩
theorem KV.put {kvs:List (κ × V)} {vs:List (κ × Value)} (r:KV kvs vs) (k:κ) {y:V} {u:Value} (ry:RelV y u):KV (Di kvs k y) (stored vs k u):=by
  unfold Di stored;rw [r.any k];by_cases e:(vs.any λ kv=>decide (kv.1=k))=true
  · rw [if_pos e,if_pos e];exact r.repl k ry
  · rw [if_neg e,if_neg e];exact Paired.snoc r ⟨rfl,ry⟩
theorem KV.length {kvs:List (κ × V)} {vs:List (κ × Value)} (r:KV kvs vs):kvs.length=vs.length:=Paired.length r
end
theorem Hw {P:Program} {w:World} {k:Key} {u:Value} (r:RelV (kV k) u):(AO P w).is k u=true:=by
  cases k with
  | inl i=>obtain ⟨t,e⟩:=(show ∃ t,u=Value.int i t from r);subst e;exact Hy P w i t
  | inr x=>obtain ⟨t,e⟩:=(show ∃ t,u=Value.str x t from r);subst e;exact He P w x t
theorem Gf {P:Program} {w:World}:∀ {ks:List Key} {us:List Value},Vals (ks.map kV) us->ItemsAre (AO P w) ks us
  | [],_,r=>by rw [List.map_nil] at r;cases r;exact .nil
  | k::ks,_,r=>by
    rw [List.map_cons] at r;cases r with
    | cons h t=>exact .cons (Hw h) (Gf t)
abbrev KT (H:Hp):List (List Key × V)->List (List Key × Addr × Value)->Prop:=Paired λ p q=>p.1=q.1/\H q.2.1=some (.tup (p.1.map kV))/\RelV p.2 q.2.2
theorem KT.val {H:Hp} {kvs:List (List Key × V)} {xs:List (List Key × Addr × Value)} (r:KT H kvs xs) (k:List Key):RelO (Bt kvs k) ((atKey xs k).map (·.2)):=by
  induction r with
  | nil=>exact True.intro
  | @cons p q ps qs h t ih=>
    obtain ⟨h1,_,h2⟩:=h;by_cases e:p.1=k
    · have e':q.1=k:=h1.symm.trans e;have b:atKey (q::qs) k=some q.2:=by simp [atKey,List.find?_cons,e']
      rw [AL e,b];exact h2
    · have e':¬ q.1=k:=λ z=>e (h1.trans z);have b:atKey (q::qs) k=atKey qs k:=by simp [atKey,List.find?_cons,e']
      rw [AM e,b];exact ih
theorem KT.repl {H:Hp} {kvs:List (List Key × V)} {xs:List (List Key × Addr × Value)} (r:KT H kvs xs) (k:List Key) {y:V} {u:Value} (ry:RelV y u):
    KT H (kvs.map λ kv=>if kv.1=k then (kv.1,y) else kv) (xs.map (putAt k u)):=by
  induction r with
  | nil=>exact .nil
  | @cons p q ps qs h t ih=>
    rw [List.map_cons,List.map_cons];refine .cons ?_ ih;obtain ⟨h1,h2,h3⟩:=h;unfold putAt;by_cases e:p.1=k
    · rw [if_pos e,if_pos (h1.symm.trans e)];exact ⟨h1,h2,ry⟩
    · rw [if_neg e,if_neg (λ z=>e (h1.trans z))];exact ⟨h1,h2,h3⟩
theorem KT.put {H:Hp} {kvs:List (List Key × V)} {xs:List (List Key × Addr × Value)} (r:KT H kvs xs) (k:List Key) {b:Addr} {y:V} {u:Value} (hb:H b=some (.tup (k.map kV))) (ry:RelV y u):
    KT H (Di kvs k y) (storedH xs k b u):=by
  have e:(kvs.any λ kv=>decide (kv.1=k))=(atKey xs k).isSome:=by
    rw [Da,(r.val k).isSome_eq,Option.isSome_map]
  unfold Di storedH;rw [e];by_cases q:(atKey xs k).isSome=true
  · rw [if_pos q,if_pos q];exact r.repl k ry
  · rw [if_neg q,if_neg q];exact Paired.snoc r ⟨rfl,hb,ry⟩
theorem KT.keeps {H H':Hp} {kvs:List (List Key × V)} {xs:List (List Key × Addr × Value)} (r:KT H kvs xs) (ht:∀ b ys,H b=some (.tup ys)->H' b=some (.tup ys)):KT H' kvs xs:=
  Paired.mapP r λ _ _ z=>⟨z.1,ht _ _ z.2.1,z.2.2⟩
section
variable {P:Program} {w:World} {H:Hp} {h:Heap} {a:Addr}
theorem Nk {u:HO} (ok:HOk P w H h) (e:Rd H a u):ObjOk P w H h a u:=e.ok ok
theorem Hn {kvs:List (Key × V)} (ok:HOk P w H h) (e:Rd H a (.dK kvs)):kvs.length<=sizeLine/\(a == sysModules)=false/\∃ vs,KV kvs vs/\h.DictOf (AO P w) a vs:=
  show ObjOk P w H h a (.dK kvs) from Nk ok e
theorem PH {kvs:List (Key × V)} (ok:HOk P w H h) (e:H a=some (.dK kvs)):kvs.length<=sizeLine/\(a == sysModules)=false/\∃ vs,KV kvs vs/\h.DictOf (AO P w) a vs:=Hn ok (.inl e)
theorem Eh {ks:List Key} (ok:HOk P w H h) (e:H a=some (.tup (ks.map kV))):(tupleKind (AO P w)).is h ks a:=by
  obtain ⟨_,its,r,o,h1,h2,n,h3⟩:=(show ObjOk P w H h a (.tup (ks.map kV)) from ok a _ e);exact ⟨o,its.toArray,n,h1,h2,h3,by simpa using Gf r⟩
theorem G8 {kvs:List (List Key × V)} (ok:HOk P w H h) (e:Rd H a (.dT kvs)):kvs.length<=sizeLine/\(a == sysModules)=false/\
    ∃ xs,KT H kvs xs/\h.DictOfH (tupleKind (AO P w)) a xs:=by
  obtain ⟨z,y,xs,r,o,es,ep,h1,h2,h3,h4,h5⟩:=(show ObjOk P w H h a (.dT kvs) from Nk ok e);refine ⟨z,y,xs,r,o,es,ep,h1,h2,h3,h4,λ x hx=> ?_,h5⟩;have all:∀ {l:List (List Key × V)} {m:List (List Key × Addr × Value)},KT H l m->∀ x∈m,(tupleKind (AO P w)).is h x.1 x.2.1:=by
    intro l m q
    induction q with
    | nil=>intro x hx;exact nomatch hx
    | @cons p q ps qs hq t ih=>
      intro x hx;rcases List.mem_cons.mp hx with e | hx
      · subst e;exact Eh ok (by rw [<-hq.1];exact hq.2.1)
      · exact ih x hx
  exact all r x hx
theorem KH {kvs:List (List Key × V)} (ok:HOk P w H h) (e:H a=some (.dT kvs)):kvs.length<=sizeLine/\(a == sysModules)=false/\
    ∃ xs,KT H kvs xs/\h.DictOfH (tupleKind (AO P w)) a xs:=G8 ok (.inl e)
end
def DGet (H:Hp) (a:Addr) (y:V) (r:Option V):Prop:=
  (∃ kvs k,Rd H a (.dK kvs)/\y=kV k/\r=Bt kvs k)\/∃ kvs k b,Rd H a (.dT kvs)/\y= .ref b/\H b=some (.tup (k.map kV))/\r=Bt kvs k
def DPut (H:Hp) (a:Addr) (y v:V) (H':Hp):Prop:=
  (∃ kvs k,H a=some (.dK kvs)/\y=kV k/\kvs.length<sizeLine/\H'=upd H a (.dK (Di kvs k v)))\/
  ∃ kvs k b,H a=some (.dT kvs)/\y= .ref b/\H b=some (.tup (k.map kV))/\kvs.length<sizeLine/\H'=upd H a (.dT (Di kvs k v))
theorem DGet.t {H:Hp} {a b:Addr} {kvs:List (List Key × V)} {k:List Key} (e:H a=some (.dT kvs)) (eb:H b=some (.tup (k.map kV))):DGet H a (.ref b) (Bt kvs k):= .inr ⟨kvs,k,b, .inl e,rfl,eb,rfl⟩
theorem DPut.t {H:Hp} {a b:Addr} {kvs:List (List Key × V)} {k:List Key} {v:V} (e:H a=some (.dT kvs)) (eb:H b=some (.tup (k.map kV))) (hl:kvs.length<sizeLine):
    DPut H a (.ref b) v (upd H a (.dT (Di kvs k v))):= .inr ⟨kvs,k,b,e,rfl,eb,hl,rfl⟩
section
variable {X:Cx} {pins:List (Addr × Obj)} {σ:St} {H:Hp} {s:Shared} {a:Addr} {y v:V} {u r:Value} {o:Option V} {A:Around} {E:Value->Shared->Prop}
theorem Inv.big (I:Inv X pins σ H s):sysModules<s.heap.objs.size:=by
  have h:mainGlobals<s.heap.objs.size:=(I.mod.glob.keeps I.bk).lt;exact Nat.lt_trans (by decide) h
theorem Kl {Q:Value->Shared->Prop} (hu:A.units+1<cLine) (I:Inv X pins σ H s) (g:DGet H a y (some v)) (ry:RelV y u) (h:∀ w' s',Inv X pins σ H s'->RelV v w'->Q w' s'):
    wpAny (model X.prog X.w) A (getItem (.ref a) u) Q E s:=by
  rcases g with ⟨kvs,k,e,ey,l⟩ | ⟨kvs,k,b,e,ey,eb,l⟩
  · subst ey;obtain ⟨z,hd,vs,rel,dd⟩:=Hn I.hok e;obtain ⟨w',hw,rw'⟩:=RelO.some_of (v:=v) (o:=valueAt vs k) (by rw [l];exact rel.val k);exact wpAny_getItem_of (Hw ry) dd.mapOf hw (h w' _ (I.tok _) rw')
  · subst ey;cases (show u=Value.ref b from ry);obtain ⟨z,hd,xs,rel,dd⟩:=G8 I.hok e;obtain ⟨w',hw,rw'⟩:=RelO.some_of (v:=v) (o:=(atKey xs k).map (·.2)) (by rw [l];exact rel.val k);obtain ⟨p,hp,hp2⟩:=Option.map_eq_some_iff.mp hw;refine wpAny_getItem_heap (tupleKind_room_in1 hu) (Eh I.hok eb) dd hp ?_;rw [hp2];exact h w' _ (I.tok _) rw'
theorem Qv {Q:Value->Shared->Prop} (hu:A.units+1<cLine) (I:Inv X pins σ H s) (g:DGet H a y o) (ry:RelV y u) (h:∀ s',Inv X pins σ H s'->Q (.bool o.isSome) s'):
    wpAny (model X.prog X.w) A (compareOp .In u (.ref a)) Q E s:=by
  rcases g with ⟨kvs,k,e,ey,l⟩ | ⟨kvs,k,b,e,ey,eb,l⟩
  · subst ey;obtain ⟨z,hd,vs,rel,dd⟩:=Hn I.hok e;refine wpAny_in_of (Hw ry) hd dd.mapOf ?_;rw [<-(rel.val k).isSome_eq, <-l];exact h _ (I.tok _)
  · subst ey;cases (show u=Value.ref b from ry);obtain ⟨z,hd,xs,rel,dd⟩:=G8 I.hok e;refine wpAny_in_heap (tupleKind_room_in1 hu) (Eh I.hok eb) hd dd ?_;have q:=(rel.val k).isSome_eq;rw [Option.isSome_map] at q;rw [<-q, <-l];exact h _ (I.tok _)
theorem ME {Q:Value->Shared->Prop} (hu:A.units+1<cLine) (I:Inv X pins σ H s) (g:DGet H a y o) (ry:RelV y u) (h:∀ s',Inv X pins σ H s'->Q (.bool (!o.isSome)) s'):
    wpAny (model X.prog X.w) A (compareOp .NotIn u (.ref a)) Q E s:=by
  rcases g with ⟨kvs,k,e,ey,l⟩ | ⟨kvs,k,b,e,ey,eb,l⟩
  · subst ey;obtain ⟨z,hd,vs,rel,dd⟩:=Hn I.hok e;refine wpAny_notIn_of (Hw ry) hd dd.mapOf ?_;rw [<-(rel.val k).isSome_eq, <-l];exact h _ (I.tok _)
  · subst ey;cases (show u=Value.ref b from ry);obtain ⟨z,hd,xs,rel,dd⟩:=G8 I.hok e;refine wpAny_notIn_heap (tupleKind_room_in1 hu) (Eh I.hok eb) hd dd ?_;have q:=(rel.val k).isSome_eq;rw [Option.isSome_map] at q;rw [<-q, <-l];exact h _ (I.tok _)
theorem GQ {h':Heap} {t':Nat} {ob:HO} (I:Inv X pins σ H s) (mu:Mut (H a)) (hs:Heap.SameBut a s.heap h') (he:∃ q,h'.get? a=some q) (new:ObjOk X.prog X.w (upd H a ob) h' a ob):
    Inv X pins σ (upd H a ob) { s with heap:=h',toks:=t' }:=
  I.write (x:=a) (e:=a) mu (.inl rfl) (λ b q hb z=>(hs.2 b hb).trans z) he new
theorem Ov {P:Program} {w:World} {H':Hp} {h':Heap} {kvs:List (Key × V)} {vs:List (Key × Value)} (z:kvs.length<=sizeLine) (hd:(a == sysModules)=false) (rel:KV kvs vs) (dd:h'.DictOf (AO P w) a vs):
    ObjOk P w H' h' a (.dK kvs):=⟨z,hd,vs,rel,dd⟩
theorem JT {H':Hp} {Q:Unit->Shared->Prop} (hu:A.units+1<cLine) (I:Inv X pins σ H s) (g:DPut H a y v H') (ry:RelV y u) (rv:RelV v r) (h:∀ s',Inv X pins σ H' s'->Q () s'):
    wpAny (model X.prog X.w) A (setItem (.ref a) u r) Q E s:=by
  rcases g with ⟨kvs,k,e,ey,l,eH⟩ | ⟨kvs,k,b,e,ey,eb,l,eH⟩
  · subst ey eH;obtain ⟨z,hd,vs,rel,dd⟩:=PH I.hok e;have hz:vs.length<=sizeLine:=by rw [<-rel.length];exact z
    have hl:(Di kvs k v).length<=sizeLine:=by have:=BY kvs k v;omega
    refine wpAny_setItem_pairs (hsz:=hz) (Hw ry) dd λ h' dd' hs=>h _ ?_;have he:∃ q,h'.get? a=some q:=let ⟨q,_,_,hq,_⟩:=dd';⟨q,hq⟩;exact GQ I (by rw [e];exact True.intro) hs he (Ov hl hd (rel.put k rv) dd')
  · subst ey eH;cases (show u=Value.ref b from ry);obtain ⟨z,hd,xs,rel,dd⟩:=KH I.hok e;have hz:xs.length<=sizeLine:=by rw [<-Paired.length rel];exact z
    have hl:(Di kvs k v).length<=sizeLine:=by have:=BY kvs k v;omega
    refine wpAny_setItem_heap (hsz:=hz) (tupleKind_room_in1 hu) (Eh I.hok eb) dd λ h' dd' hs=>h _ ?_;obtain ⟨q,es,ep,hq,h2,h3,h4,_,h5⟩:=dd';refine GQ I (by rw [e];exact True.intro) hs ⟨q,hq⟩ ⟨hl,hd,_,(rel.put k eb rv).keeps λ c ys ec=> ?_,q,es,ep,hq,h2,h3,h4,h5⟩;rw [Al (CT ec e (λ z=>nomatch z))];exact ec
end
section
variable {X:Cx} {pins:List (Addr × Obj)} {σ:St} {H:Hp} {s:Shared} {a:Addr} {kvs:List (Key × V)} {k:Key} {u:Value} {A:Around} {E:Value->Shared->Prop}
end
def OZ (i:Expr):Prop:=∀ ov iv,subscripted i false ov iv=operate [ov,iv] (getItem ov iv)
theorem Mi {prog:Program} {w:World} {A:Around} {E:Value->Shared->Prop} {s:Shared} {env:Env} {value slice:Expr} {pos:Pos} {T id:String} {Q:Value->Shared->Prop}
    (hl:typeLookup (.type T) "__getitem__"=pure (some (.builtin id))) (hs:OZ slice)
    (h:wpAny (model prog w) A (eval value env) (λ o s₁=>wpAny (model prog w) A (eval slice env) (λ i s₂=>s₂.TypeIs o T/\wpAny (model prog w) A (getItem o i) Q E s₂) E s₁) E s):
    wpAny (model prog w) A (eval (.Subscript value slice pos) env) Q E s:=by
  refine Subscript_ (wpAny_mono h (λ o s₁ h₁=>wpAny_mono h₁ (λ i s₂ h₂=> ?_) λ _ _ x=>x) λ _ _ x=>x);obtain ⟨hT,h₂⟩:=h₂;unfold subscriptTail;refine wpAny_bind ?_;rw [getitemInPython_of_ne hT.not_modules];refine wpAny_bind (wpAny_specialOf hT hl ?_);have fin:wpAny (model prog w) A (subscripted slice false o i) (λ r s₃=>wpAny (model prog w) A (letTemporaryGo value o r >>= λ _=>pure r) Q E s₃) E s₂:=by
    rw [hs o i];exact wpAny_operating (wpAny_mono h₂ (λ r s₃ h₃=>wpAny_bind (wpAny_letTemporaryGo (wpAny_pure h₃))) λ _ _ x=>x)
  first
    | exact wpAny_pure (wpAny_bind fin)
    | exact wpAny_bind (wpAny_pure (wpAny_bind fin))
    | exact wpAny_bind fin
theorem HS {X:Cx} {pins:List (Addr × Obj)} {σ:St} {H:Hp} {s:Shared} {a:Addr} {y:V} {o:Option V} (I:Inv X pins σ H s) (g:DGet H a y o):s.TypeIs (.ref a) "dict":=by
  rcases g with ⟨kvs,k,e,_,_⟩ | ⟨kvs,k,b,e,_,_,_⟩
  · obtain ⟨_,_,vs,_,dd⟩:=Hn I.hok e;exact dd.typeIs
  · obtain ⟨_,_,xs,_,dd⟩:=G8 I.hok e;exact dd.typeIs
def Na (td ty:TE):TE:=λ σ H Q=>td σ H λ x H1=>ty σ H1 λ y H2=>∃ a v,x= .ref a/\DGet H2 a y (some v)/\Q v H2
def Pj (ty td:TE):TE:=λ σ H Q=>ty σ H λ y H1=>td σ H1 λ x H2=>∃ a o,x= .ref a/\DGet H2 a y o/\Q (.bl o.isSome) H2
def Jz (ty td:TE):TE:=λ σ H Q=>ty σ H λ y H1=>td σ H1 λ x H2=>∃ a o,x= .ref a/\DGet H2 a y o/\Q (.bl (!o.isSome)) H2
def Ng (td ty tv:TE):TS:=λ D σ H=>tv σ H λ v H1=>td σ H1 λ x H2=>ty σ H2 λ y H3=>∃ a H4,x= .ref a/\DPut H3 a y v H4/\D.nx σ H4
section
variable {X:Cx} {o i e value:Expr} {pos pos' tpos:Pos} {td ty tv:TE}
theorem GM (hu:X.A.units+1<cLine) (ho:PE X o td) (hi:PE X i ty) (hs:OZ i):PE X (.Subscript o i pos) (Na td ty):=by
  intro pins s σ H Q I h;refine Mi PySem.F.slot_dict_getitem.lookup hs (thn (ho pins s σ H _ I h) λ u s1 ⟨x,H1,I1,rx,q1⟩=>thn (hi pins s1 σ H1 _ I1 q1) λ iv s2 ⟨y,H2,I2,ry,a,v,ex,g,q2⟩=> ?_);subst ex;obtain rfl:u=Value.ref a:=rx;exact ⟨HS I2 g,Kl hu I2 g ry λ w' s3 I3 rw'=>⟨v,H2,I3,rw',q2⟩⟩
theorem NI (hu:X.A.units+1<cLine) (hi:PE X i ty) (ho:PE X o td):PC X .In i o (Pj ty td):=by
  intro pins s σ H Q I h;refine thn (hi pins s σ H _ I h) λ iv s1 ⟨y,H1,I1,ry,q1⟩=>thn (ho pins s1 σ H1 _ I1 q1) λ u s2 ⟨x,H2,I2,rx,a,ov,ex,g,q2⟩=> ?_;subst ex;obtain rfl:u=Value.ref a:=rx;exact Qv hu I2 g ry λ s3 I3=>⟨.bl ov.isSome,H2,I3,rfl,q2⟩
theorem Gu (hu:X.A.units+1<cLine) (hi:PE X i ty) (ho:PE X o td):PC X .NotIn i o (Jz ty td):=by
  intro pins s σ H Q I h;refine thn (hi pins s σ H _ I h) λ iv s1 ⟨y,H1,I1,ry,q1⟩=>thn (ho pins s1 σ H1 _ I1 q1) λ u s2 ⟨x,H2,I2,rx,a,ov,ex,g,q2⟩=> ?_;subst ex;obtain rfl:u=Value.ref a:=rx;exact ME hu I2 g ry λ s3 I3=>⟨.bl (!ov.isSome),H2,I3,rfl,q2⟩
theorem EW (hu:X.A.units+1<cLine) (ho:PE X o td) (hi:PE X i ty) (hv:PE X value tv) (hs:swapsWith value (some (.Subscript o i pos')) pos.line X.env=pure false):
    PS X (.Assign [.Subscript o i pos'] value pos) (Ng td ty tv):=by
  intro pins s σ H D I h;refine wpAny_Assign_Subscript (thn (hv pins s σ H _ I h) λ r s1 ⟨v,H1,I1,rv,q1⟩=>thn (ho pins s1 σ H1 _ I1 q1) λ u s2 ⟨x,H2,I2,rx,q2⟩=>thn (hi pins s2 σ H2 _ I2 q2) λ iv s3 ⟨y,H3,I3,ry,a,H4,ex,g,q3⟩=> ?_) hs;subst ex;obtain rfl:u=Value.ref a:=rx;exact JT hu I3 g ry rv λ s4 I4=>⟨σ,H4,I4,q3⟩
end
theorem HP {P:Program} {w:World} {H:Hp} (h:Heap) (hb:sysModules<h.objs.size):ObjOk P w H (h.push { cls:= .type "dict",data:= .dict #[] }) h.objs.size (.dT []):=
  ⟨Nat.zero_le _,beq_eq_false_iff_ne.mpr (Ne.symm (Nat.ne_of_lt hb)),[], .nil,_, #[],0,Heap.get?_push_size _ rfl,⟨rfl,rfl,rfl⟩,rfl,rfl,List.nodup_nil⟩
def Ol:TE:=λ _ H Q=>∀ p,H p=none->Q (.ref p) (upd H p (.dT []))
section
variable {X:Cx} {pos:Pos}
theorem HU:PE X (.Dict [] [] pos) Ol:=λ pins s σ H Q I h=>
  wpAny_Dict_empty ⟨.ref s.heap.objs.size,_,I.laid (a:=s.heap.objs.size) (o:= .dT []) (t':=s.toks) (λ _ _ q=>Heap.get?_push_of_some _ q) (Nat.le_refl _) (HP s.heap I.big),rfl,h _ (I.hok.fresh (Nat.le_refl _))⟩
end
def DH:List (TE × TE)->St->Hp->(List (V × V)->Hp->Prop)->Prop
  | [],_,H,Q=>Q [] H
  | (tk,tv)::r,σ,H,Q=>tk σ H λ x H1=>tv σ H1 λ y H2=>DH r σ H2 λ ps H3=>Q ((x,y)::ps) H3
abbrev VV:List (V × V)->List (Value × Value)->Prop:=Paired λ p q=>RelV p.1 q.1/\RelV p.2 q.2
def PPs (X:Cx) (pos:Pos) (keys:List (Option Expr)) (values:List Expr) (trs:List (TE × TE)):Prop:=
  ∀ (pins:List (Addr × Obj)) (s:Shared) (σ:St) (H:Hp) (Q:List (V × V)->Hp->Prop),Inv X pins σ H s->DH trs σ H Q->
    wpAny (model X.prog X.w) X.A (evalPairs (pairTrees keys values X.env pos)) (λ vs s'=>∃ ps H',Inv X pins σ H' s'/\VV ps vs/\Q ps H') X.xe s
theorem Mg {X:Cx} {pos:Pos}:PPs X pos [] [] []:=λ pins s σ H Q I h=>pairTrees_nil_walk ⟨[],H,I, .nil,h⟩
theorem KU {X:Cx} {pos:Pos} {k v:Expr} {ks:List (Option Expr)} {vs:List Expr} {tk tv:TE} {trs:List (TE × TE)} (hk:PE X k tk) (hv:PE X v tv) (hr:PPs X pos ks vs trs):
    PPs X pos (some k::ks) (v::vs) ((tk,tv)::trs):=λ pins s σ H Q I h=>
  pairTrees_cons_walk (thn (hk pins s σ H _ I h) λ u s1 ⟨x,H1,I1,rx,q1⟩=>thn (hv pins s1 σ H1 _ I1 q1) λ w2 s2 ⟨y,H2,I2,ry,q2⟩=>
    thn (hr pins s2 σ H2 _ I2 q2) λ ws s3 ⟨ps,H3,I3,rel,q3⟩=>⟨(x,y)::ps,H3,I3, .cons ⟨rx,ry⟩ rel,q3⟩)
section
variable {X:Cx} {pins:List (Addr × Obj)} {σ:St} {H:Hp} {s:Shared} {a:Addr} {y d:V} {u r:Value} {o:Option V} {A:Around} {E:Value->Shared->Prop}
end
section
variable {X:Cx} {o e f:Expr} {apos cpos:Pos} {td ty tx:TE}
end
section
variable {X:Cx} {pins:List (Addr × Obj)} {σ:St} {H:Hp} {s:Shared} {a:Addr} {kvs:List (Key × V)} {A:Around} {E:Value->Shared->Prop}
end
section
variable {X:Cx} {pins:List (Addr × Obj)} {σ:St} {H:Hp} {s:Shared} {a:Addr} {y:V} {u:Value} {A:Around} {E:Value->Shared->Prop}
end
section
variable {P:Program} {w:World} {K:PySem.W.Frag} {mg:Str->Option Value} {base:Heap}
end
section
variable {X:Cx}
end
section
variable {κ:Type} [DecidableEq κ]
theorem nd_snoc:∀ {l:List κ} {k:κ},l.Nodup->¬ k∈l->(l++[k]).Nodup
  | [],k,_,_=>by simp
  | a::r,k,h,hk=>by
    obtain ⟨h1,h2⟩:=List.nodup_cons.mp h;show (a::(r++[k])).Nodup;refine List.nodup_cons.mpr ⟨λ m=> ?_,nd_snoc h2 λ m=>hk (List.mem_cons.mpr (Or.inr m))⟩;rcases List.mem_append.mp m with q | q
    · exact h1 q
    · exact hk (List.mem_cons.mpr (Or.inl (List.mem_singleton.mp q).symm))
end
def As (cells:List (Str × Addr)):List (Str × NameKind)->List (Str × Addr)->List (Str × Addr)
  | [],acc=>acc
  | (n,k)::r,acc=>As cells r (if k= .free then (match cells.lookup n with | some a=>(n,a)::acc | none=>acc) else acc)
theorem Dq {env:Env}:∀ (names:List (Str × NameKind)) (acc:List (Str × Addr)),(∀ y∈names,y.2= .free->∃ c,env.cells.lookup y.1=some c)->
    (forIn names acc λ (x:Str × NameKind) (r:List (Str × Addr))=>
      (if (x.2 == NameKind.free)=true then (do let a <-cellOf env x.1;pure (ForInStep.yield ((x.1,a)::r))) else pure (ForInStep.yield r):Sem (ForInStep (List (Str × Addr)))))=(pure (As env.cells names acc):Sem (List (Str × Addr)))
  | [],acc,_=>rfl
  | (n,k)::rest,acc,h=>by
    rw [List.forIn_cons];have ih:=λ acc'=>Dq (env:=env) rest acc' λ y hy=>h y (List.mem_cons_of_mem _ hy);by_cases hk:k= .free
    · subst hk;obtain ⟨c,hc⟩:=h (n, .free) List.mem_cons_self rfl;have hc:env.cells.lookup n=some c:=hc;have e:cellOf env n=pure c:=by unfold cellOf;rw [hc]
      simp only [beq_self_eq_true,if_true,e,pure_bind,As,hc];exact ih _
    · have hb:(k == NameKind.free)=false:=by simpa using hk
      simp only [hb,Bool.false_eq_true,if_false,pure_bind,As,if_neg hk];exact ih _
theorem Ca {env:Env} {scope:Scope} (h:∀ y∈scope.names,y.2= .free->∃ c,env.cells.lookup y.1=some c):closureFor scope env=pure (As env.cells scope.names []):=by
  have e:=Dq (env:=env) scope.names [] h;unfold closureFor;simp only [bind_pure_comp,bind_pure,map_pure] at*;exact e
theorem DG {cells:List (Str × Addr)}:∀ (names:List (Str × NameKind)) (acc:List (Str × Addr)),(∀ x c,acc.lookup x=some c->cells.lookup x=some c)->∀ x c,(As cells names acc).lookup x=some c->cells.lookup x=some c
  | [],acc,h,x,c,e=>h x c e
  | (n,k)::r,acc,h,x,c,e=>by
    refine DG r _ ?_ x c e;intro y d q;split at q
    · split at q
      · rename_i a ha
        rw [List.lookup_cons] at q;split at q
        · rename_i hy
          cases q;rw [eq_of_beq hy];exact ha
        · exact h y d q
      · exact h y d q
    · exact h y d q
theorem DK {cells:List (Str × Addr)}:∀ (names:List (Str × NameKind)) (acc:List (Str × Addr)) (x:Str),(((x,NameKind.free)∈names/\∃ c,cells.lookup x=some c)\/∃ c,acc.lookup x=some c)->∃ c,(As cells names acc).lookup x=some c
  | [],acc,x,h=>by
    rcases h with ⟨h,_⟩ | h
    · cases h
    · exact h
  | (n,k)::r,acc,x,h=>by
    refine DK r _ x ?_;have up:(∃ c,acc.lookup x=some c)->∃ c,(if k= .free then (match cells.lookup n with | some a=>(n,a)::acc | none=>acc) else acc).lookup x=some c:=by
      rintro ⟨c,hc⟩;split
      · split
        · rename_i a ha
          rw [List.lookup_cons];split
          · exact ⟨_,rfl⟩
          · exact ⟨c,hc⟩
        · exact ⟨c,hc⟩
      · exact ⟨c,hc⟩
    rcases h with ⟨h,c,hc⟩ | h
    · rcases List.mem_cons.mp h with e | e
      · cases e;right;refine ⟨c,?_⟩;rw [if_pos rfl,hc,List.lookup_cons,beq_self_eq_true]
      · exact .inl ⟨e,c,hc⟩
    · exact .inr (up h)
theorem CI (env:Env) (x:Str):∀ names:List (Str × NameKind),
    (names.map λ (n,k)=>if (k == NameKind.free&&env.scope.kind == .function&&env.kindOf n == some .cell) then (n,NameKind.cell) else (n,k)).lookup x=
      (names.lookup x).map λ k=>if (k == NameKind.free&&env.scope.kind == .function&&env.kindOf x == some .cell)=true then NameKind.cell else k
  | []=>rfl
  | (n,k)::r=>by
    have ih:=CI env x r;show List.lookup x ((if (k == NameKind.free&&env.scope.kind == .function&&env.kindOf n == some .cell)=true then (n,NameKind.cell) else (n,k))::_)=_;cases hx:x == n with
    | true=>
      have e:x=n:=eq_of_beq hx;subst e;by_cases hc:(k == NameKind.free&&env.scope.kind == .function&&env.kindOf x == some .cell)=true
      · rw [if_pos hc,List.lookup_cons,List.lookup_cons,beq_self_eq_true];simp only [Option.map_some,if_pos hc]
      · rw [if_neg hc,List.lookup_cons,List.lookup_cons,beq_self_eq_true];simp only [Option.map_some,if_neg hc]
    | false=>
      have e:(List.lookup x ((n,k)::r))=List.lookup x r:=by rw [List.lookup_cons,hx]
      rw [e, <-ih];split <;> rw [List.lookup_cons,hx]
structure BlkScope (X:Cx) (scope:Scope) (own:List Str) (fr:List (Str × Nat)):Prop where
  kind:scope.kind= .function
  nocell:∀ y∈scope.names,y.2≠ .cell
  loc:∀ y∈scope.names,y.2= .local->scope.names.lookup y.1=some .local
  free:∀ y∈scope.names,y.2= .free->(X.env.scope.names.lookup y.1=some .cell\/X.env.scope.names.lookup y.1=some .free)
  fr:∀ p∈fr,X.N[p.2]?=some p.1/\(p.1,NameKind.free)∈scope.names
  only:∀ x,(x,NameKind.free)∈scope.names->scope.names.lookup x=some .free
def AG (X:Cx) (scope:Scope) (own:List Str) (fr:List (Str × Nat)) (C:Addr) (ex:List Addr) (s:Shared) (H:Hp):Cx where
  prog:=X.prog
  w:=X.w
  K:=X.K
  mg:=X.mg
  base:=X.base
  A:=X.A
  N:=own++fr.map (·.1)
  s₀:=s
  H₀:=H
  env:=compEnvC scope (As X.env.cells scope.names []) C X.env
  outer:=X.stack
  stack:=X.stack
  ex:=ex
  fn:=λ _=>false
  calm:=X.calm
  pn:=[]
  xe:=λ _ _=>False
def Bz (own:List Str) (fr:List (Str × Nat)) (σ:St):St:=own.map (λ _=>none)++fr.map (λ p=>(σ[p.2]?).getD none)
section
variable {X:Cx} {pins:List (Addr × Obj)} {σ:St} {H:Hp} {s:Shared} {scope:Scope} {own:List Str} {fr:List (Str × Nat)} {fp:List Addr}
theorem BlkScope.cells (S:BlkScope X scope own fr) (ok:X.Ok):∀ y∈scope.names,y.2= .free->∃ c,X.env.cells.lookup y.1=some c:=λ y hy e=>ok.has y.1 (S.free y hy e)
theorem Inv.block {h':Heap} {t':Nat} {m:Str->Option Value} (I:Inv X pins σ H s) (S:BlkScope X scope own fr) (hf:∀ b∈fp,BV X pins H b) (hlt:∀ b∈fp,b<s.heap.objs.size)
    (hns:h'.Ns s.heap.objs.size m) (k:∀ b o,s.heap.get? b=some o->h'.get? b=some o):
    Inv (AG X scope own fr s.heap.objs.size fp s H) [] (Bz own fr σ) H { s with heap:=h',toks:=t' }:=by
  have cs:∀ x c,(As X.env.cells scope.names []).lookup x=some c->X.env.cells.lookup x=some c:=DG _ _ (λ _ _ e=>by simp at e);have ck:∀ c v,s.heap.IsCell c v->h'.IsCell c v:=λ c v ⟨o,ho,hd⟩=>⟨o,k _ _ ho,hd⟩;have kf:∀ x,(x,NameKind.free)∈scope.names->∃ c,X.env.cells.lookup x=some c/\(As X.env.cells scope.names []).lookup x=some c:=λ x hx=>by
    obtain ⟨c0,e0⟩:=S.cells I.ok (x, .free) hx rfl;obtain ⟨c,e⟩:=DK (cells:=X.env.cells) scope.names [] x (.inl ⟨hx,c0,e0⟩);exact ⟨c,cs _ _ e,e⟩
  have rel:∀ x,(compEnvC scope (As X.env.cells scope.names []) s.heap.objs.size X.env).kindOf x=(scope.names.lookup x).map λ k=>if (k == NameKind.free&&X.env.scope.kind == .function&&X.env.kindOf x == some .cell)=true then NameKind.cell else k:=λ x=>CI X.env x scope.names
  have nc:∀ x,scope.names.lookup x≠some .cell:=λ x e=>S.nocell _ (PySem.mem_of_lookup e) rfl;refine ⟨⟨I.ok.mod,S.kind,I.ok.glob,I.ok.blt,Nat.le_refl _,λ x y c e1 e2=>I.ok.inj x y c (cs _ _ e1) (cs _ _ e2),λ x hx=> ?_,λ x c e _=>(nomatch e),I.ok.hd,I.ok.frames, .inl rfl,
    λ b hb=>⟨Nat.ne_of_lt (hlt b hb),λ x c e=>(hf b hb).2.2.2.2.1 x c (cs _ _ e)⟩,I.bs,Nat.le_trans I.ok.bsz I.sz,λ b o e hb=> ?_,λ b hb z=>(List.mem_cons.mp (I.stkSub b z)).elim (hf b hb).2.1 (hf b hb).2.2.1,I.stack,I.stkFree⟩,
    rfl,I.bare,Un.kept k,⟨m,hns,λ i x v e1 e2 e3=> ?_⟩,λ x c e=> ?_,I.hok.fresh (Nat.le_refl _),λ x c e=>I.freeC x c (cs _ _ e),λ p hp=>absurd (show p∈([]:List (Addr × Obj)) from hp) (by simp),I.hok.kept k,?_⟩
  · have hx:(compEnvC scope (As X.env.cells scope.names []) s.heap.objs.size X.env).kindOf x=some .cell\/(compEnvC scope (As X.env.cells scope.names []) s.heap.objs.size X.env).kindOf x=some .free:=hx;rw [rel x] at hx;have q:scope.names.lookup x=some .free:=by
      cases e:scope.names.lookup x with
      | none=>rw [e] at hx;simp at hx
      | some kk=>
        rw [e] at hx;simp only [Option.map_some,Option.some.injEq] at hx;by_cases hk:kk= .free
        · rw [hk]
        · have hb:(kk == NameKind.free)=false:=by simpa using hk
          simp only [hb,Bool.false_and,Bool.false_eq_true,if_false] at hx;rcases hx with hx | hx
          · rw [hx] at e;exact absurd e (nc x)
          · exact absurd hx hk
    obtain ⟨c,_,e⟩:=kf x (PySem.mem_of_lookup q);exact ⟨c,e⟩
  · rcases (hf b hb).2.2.2.1 with z | z
    · exact I.ok.noex b o e z
    · exact absurd (Nat.lt_of_lt_of_le (Heap.lt_size (I.ok.bs b o e).1) z) (Nat.lt_irrefl _)
  · have e1:(own++fr.map (·.1))[i]?=some x:=e1;have e2:(Bz own fr σ)[i]?=some (some v):=e2;unfold Bz at e2;by_cases hi:i<own.length
    · rw [List.getElem?_append_left (by simpa using hi),List.getElem?_map] at e2;rw [List.getElem?_eq_getElem hi] at e2;simp at e2
    · rw [List.getElem?_append_right (by simpa using hi),List.getElem?_map,List.length_map] at e2;rw [List.getElem?_append_right (by omega),List.getElem?_map] at e1;cases ep:fr[i - own.length]? with
      | none=>rw [ep] at e1;simp at e1
      | some p=>
        rw [ep] at e1 e2;simp only [Option.map_some,Option.some.injEq] at e1 e2;subst e1;obtain ⟨h1,h2⟩:=S.fr p (List.mem_of_getElem? ep);have e4:σ[p.2]?=some (some v):=by
          cases q:σ[p.2]? with
          | none=>rw [q] at e2;simp at e2
          | some z=>rw [q] at e2;simp at e2;rw [e2]
        have kx:=S.free _ h2 rfl;obtain ⟨m0,hn0,hl0⟩:=I.loc;obtain ⟨u,r,l⟩:=hl0 p.2 p.1 v h1 e4 (kx.elim (λ z=> .inr (.inl z)) λ z=> .inr (.inr z));refine ⟨u,r,?_⟩;rcases l with ⟨z,_⟩ | ⟨_,c,hc,hcell⟩
        · have z:X.env.scope.names.lookup p.1=some .local:=z;rcases kx with y | y <;> (rw [y] at z;cases z)
        · obtain ⟨c',q1,q2⟩:=kf p.1 h2;rw [hc] at q1;cases q1;refine .inr ⟨?_,c,q2,ck _ _ hcell⟩;show (compEnvC scope (As X.env.cells scope.names []) s.heap.objs.size X.env).kindOf p.1=some .cell\/(compEnvC scope (As X.env.cells scope.names []) s.heap.objs.size X.env).kindOf p.1=some .free;have e3:(compEnvC scope (As X.env.cells scope.names []) s.heap.objs.size X.env).kindOf p.1=some .local\/(compEnvC scope (As X.env.cells scope.names []) s.heap.objs.size X.env).kindOf p.1=some .cell\/(compEnvC scope (As X.env.cells scope.names []) s.heap.objs.size X.env).kindOf p.1=some .free:=e3;rcases e3 with e3 | e3
          · exfalso;rw [rel] at e3;cases e:scope.names.lookup p.1 with
            | none=>rw [e] at e3;cases e3
            | some kk=>
              rw [e] at e3;simp only [Option.map_some,Option.some.injEq] at e3;by_cases hk:kk= .free
              · subst hk;split at e3 <;> cases e3
              · have hb:(kk == NameKind.free)=false:=by simpa using hk
                simp only [hb,Bool.false_and,Bool.false_eq_true,if_false] at e3;subst e3;have:=S.only p.1 h2;rw [this] at e;cases e
          · exact e3
  · obtain ⟨v,z⟩:=I.cell x c (cs _ _ e);exact ⟨v,ck _ _ z⟩
  · unfold Bz;show _=(own++fr.map (·.1)).length;simp
end
theorem EB {prog:Program} {w:World} {A:Around} {R:Result->Shared->Prop} {s:Shared} {elt target iter:Expr} {ifs:List Expr} {scope:Scope} {pos:Pos} {it acc:Value} {env:Env} (I:Nat->Shared->Prop)
    (turn:∀ n s,I n s->wpAny (model prog w) A (pyNext it) (λ r s₁=>match r with
      | none=>R (.ok .next) s₁
      | some v=>wpAny (model prog w) A (letOwnedTupleGo target it v) (λ _ s₁'=>wpAny (model prog w) A (assign target env v) (λ _ s₂=>
          wpAny (model prog w) A (forIn ifs true λ c r=>if r=true then do let ok <-isTrue c env (eval c env);pure (ForInStep.yield ok) else pure (ForInStep.yield r)) (λ ok s₃=>
            if ok=true then wpAny (model prog w) A (eval elt env) (λ x s₄=>
              wpAny (model prog w) A (call (.builtin "list.append") [acc,x]) (λ _ s₅=>∃ m,m<n/\I m s₅) (λ _ _=>False) s₄) (λ _ _=>False) s₃
            else ∃ m,m<n/\I m s₃) (λ _ _=>False) s₂) (λ _ _=>False) s₁') (λ _ _=>False) s₁) (λ _ _=>False) s)
    (n:Nat) (h:I n s):codeAny (model prog w) A (.compLoop (.ListComp elt [⟨target,iter,ifs,0⟩] scope pos) 0 it acc env) R s:=by
  refine codeAny_loop rfl I (λ n s hI=> ?_) n h;show wpAny _ A ((compTurn (.ListComp elt [⟨target,iter,ifs,0⟩] scope pos) 0 it acc env).onRaise (λ x=>do noteFrame x env;theTreesLotGoes x)) _ _ s;refine wpAny_noted ?_;rw [compTurn_list];refine wpAny_bind (wpAny_standAt (wpAny_bind (wpAny_mono (turn n s hI) (λ r s₁ h₁=> ?_) λ _ _ f=>f.elim)));cases r with
  | none=>exact wpAny_pure h₁
  | some v=>
    refine wpAny_bind (wpAny_mono h₁ (λ _ s₁' h₁'=>wpAny_bind (wpAny_mono h₁' (λ _ s₂ h₂=>wpAny_bind (wpAny_mono h₂ (λ ok s₃ h₃=> ?_) λ _ _ f=>f.elim)) λ _ _ f=>f.elim)) λ _ _ f=>f.elim);cases ok with
    | false=>exact wpAny_pure ⟨rfl,h₃⟩
    | true=>
      exact wpAny_bind (wpAny_bind (wpAny_mono h₃ (λ x s₄ h₄=>wpAny_bind (wpAny_mono h₄ (λ _ s₅ h₅=>wpAny_pure (wpAny_pure ⟨rfl,h₅⟩)) λ _ _ f=>f.elim)) λ _ _ f=>f.elim))
section
variable {X:Cx}
def PTs (X:Cx) (ifs:List Expr) (tc:TT):Prop:=
  ∀ (pins:List (Addr × Obj)) (s:Shared) (σ:St) (H:Hp) (Q:Bool->Hp->Prop),Inv X pins σ H s->tc σ H Q->
    wpAny (model X.prog X.w) X.A (forIn ifs true λ c r=>if r=true then do let ok <-isTrue c X.env (eval c X.env);pure (ForInStep.yield ok) else pure (ForInStep.yield r)) (TP X pins σ Q) X.xe s
def K2:TT:=λ _ H Q=>Q true H
theorem AU:PTs X [] K2:=λ _ _ _ H _ I h=>wpAny_tests_nil ⟨H,I,h⟩
theorem E3 {c:Expr} {tc:TT} (h:PT X c tc):PTs X [c] tc:=λ pins s σ H Q I q=>wpAny_tests_one (h pins s σ H Q I q)
def Kp (σ0 σ:St):Prop:=σ.length=σ0.length/\∀ (i:Nat) (v:V),σ0[i]?=some (some v)->σ[i]?=some (some v)
theorem Kp.refl (σ:St):Kp σ σ:=⟨rfl,λ _ _ h=>h⟩
theorem Kp.set {σ0 σ:St} {i:Nat} {v:V} (k:Kp σ0 σ) (h:σ0[i]?=some none):Kp σ0 (σ.set i (some v)):=by
  refine ⟨by rw [List.length_set];exact k.1,λ j u e=> ?_⟩;by_cases hj:i=j
  · subst hj;rw [h] at e;cases e
  · rw [List.getElem?_set_ne hj];exact k.2 j u e
def Dj (J:It) (σ0:St) (g:TG) (tc:TT) (te:TE) (Q:VK) (H1:Hp) (D:Addr):Prop:=
  ∃ W:Nat->Nat->List V->Hp->Prop,(∃ m,W 0 m [] (upd H1 D (.lst [])))/\∀ i m ys H,W i m ys H->
    (J.stop i H/\Q (.ref D) H)\/(J.go i H/\∃ N:List V->Hp->Prop,(∀ ys' H',N ys' H'->∃ m',m'<m/\W (i+1) m' ys' H')/\∀ x H',J.yld i H x H'->g x σ0 H' λ σ2 H2=>Kp σ0 σ2/\tc σ2 H2 λ b H3=>
      if b=true then te σ2 H3 λ y H4=>H4 D=some (.lst ys)/\ys.length<sizeLine/\N (ys++[y]) (upd H4 D (.lst (ys++[y]))) else N ys H3)
def Du (wi:TI) (own:List Str) (fr:List (Str × Nat)) (g:TG) (tc:TT) (te:TE):TE:=λ σ H Q=>wi σ H λ J H1=>∀ D,H1 D=none->Dj J (Bz own fr σ) g tc te Q H1 D
theorem Hs {elt tg iter:Expr} {ifs:List Expr} {scope:Scope} {pos:Pos} {own:List Str} {fr:List (Str × Nat)} {g:TG} {tc:TT} {te:TE} (hc:X.calm=true) (S:BlkScope X scope own fr)
    (hg:∀ C ex s H,PG (AG X scope own fr C ex s H) tg g) (ht:∀ C ex s H,PTs (AG X scope own fr C ex s H) ifs tc) (he:∀ C ex s H,PE (AG X scope own fr C ex s H) elt te)
    {pins:List (Addr × Obj)} {σ:St} {H:Hp} {s:Shared} {it:Addr} {fp:List Addr} {tn:Nat->Heap->Prop} {J:It} {E:Value->Shared->Prop}
    (I:Inv X pins σ H s) (T:Turn X.prog X.w X.K tg J fp it tn) (st:tn 0 s.heap) (hf:∀ b∈fp,BV X pins H b) {Q:VK}
    (h:∀ D,H D=none->Dj J (Bz own fr σ) g tc te Q H D)
    {RR:Value->Addr->Result->Shared->Prop}
    (hR:∀ D C H' s',Inv X pins σ H' s'->(∃ m,s'.heap.Ns C m)->BV X pins H' C->Q (.ref D) H'->RR (.ref D) C (.ok .next) s'):
    wpAny (model X.prog X.w) X.A (newList []) (λ acc s₃=>wpAny (model X.prog X.w) X.A (newFunctionEnv scope X.env.globals (As X.env.cells scope.names []) [] X.env.qual none .none (some X.env)) (λ cenv s₄=>
      codeAny (model X.prog X.w) X.A (.compStart (.ListComp elt [⟨tg,iter,ifs,0⟩] scope pos) 0 (.ref it) acc { cenv with scope:=relabel scope X.env }) (RR acc cenv.locals) s₄) E s₃) E s:=by
  have hDn:H s.heap.objs.size=none:=I.fresh;obtain ⟨W,⟨m0,w0⟩,turn⟩:=h s.heap.objs.size hDn;have I3:Inv X pins σ (upd H s.heap.objs.size (.lst [])) { s with heap:=s.heap.push { cls:= .type "list",data:= .seq ([]:List Value).toArray },toks:=s.toks }:=I.lnew .nil (Nat.zero_le _);refine wpAny_newObj_type ?_;generalize hs3:({ s with heap:=s.heap.push { cls:= .type "list",data:= .seq ([]:List Value).toArray } }:Shared)=s3 at I3 ⊢;have I3:Inv X pins σ (upd H s.heap.objs.size (.lst [])) s3:=I3;have old3:∀ b o,s.heap.get? b=some o->s3.heap.get? b=some o:=λ b o e=>by rw [<-hs3];exact Heap.get?_push_of_some _ e
  have hobj:∀ b∈fp,∃ o,s.heap.get? b=some o/\∀ v,o.data≠ .cell v:=T.obj 0 _ st;have hne:∀ b∈fp,b≠s.heap.objs.size:=λ b hb=>by obtain ⟨o,e,_⟩:=hobj b hb;exact Nat.ne_of_lt (Heap.lt_size e)
  have hf3:∀ b∈fp,BV X pins (upd H s.heap.objs.size (.lst [])) b:=λ b hb=>⟨by rw [Al (hne b hb)];exact (hf b hb).1,(hf b hb).2⟩;have hlt3:∀ b∈fp,b<s3.heap.objs.size:=λ b hb=>by obtain ⟨o,e,_⟩:=hobj b hb;exact Heap.lt_size (old3 b o e)
  refine wpAny_newFunctionEnv S.nocell (by intro y hy;simp at hy) (λ h₁ hns hsb=> ?_) S.kind;have keep:∀ b o,s3.heap.get? b=some o->h₁.get? b=some o:=λ b o e=>hsb.extBut b o (Nat.ne_of_lt (Heap.lt_size e)) (Heap.get?_push_of_some _ e);have J0:=I3.block (t':=s3.toks+([]:List (Str × Value)).length) S hf3 hlt3 hns keep;have st3:tn 0 h₁:=T.keep 0 _ _ st λ b hb o e=>keep b o (old3 b o e);have loop:codeAny (model X.prog X.w) X.A (.compLoop (.ListComp elt [⟨tg,iter,ifs,0⟩] scope pos) 0 (.ref it) (.ref s.heap.objs.size) (compEnvC scope (As X.env.cells scope.names []) s3.heap.objs.size X.env))
      (RR (.ref s.heap.objs.size) s3.heap.objs.size) { s3 with heap:=h₁,toks:=s3.toks+([]:List (Str × Value)).length }:=by
    have stat:∀ {H':Hp},(∀ b∈fp,H' b=none)->∀ b∈fp,BV (AG X scope own fr s3.heap.objs.size fp s3 (upd H s.heap.objs.size (.lst []))) [] H' b:=λ {H'} hn b hb=>
      ⟨hn b hb,Nat.ne_of_lt (hlt3 b hb),J0.ok.exfs b hb, .inl hb,(J0.ok.exf b hb).2,λ p hp=>absurd (show p∈([]:List (Addr × Obj)) from hp) (by simp)⟩
    refine EB (λ n s'=>∃ i ys H',Inv (AG X scope own fr s3.heap.objs.size fp s3 (upd H s.heap.objs.size (.lst []))) [] (Bz own fr σ) H' s'/\tn i s'.heap/\(∀ b∈fp,H' b=none)/\W i n ys H') ?_ m0
      ⟨0,[],_,J0,st3,λ b hb=>(hf3 b hb).1,w0⟩
    rintro n s4 ⟨i,ys,H4,I4,st4,fr4,w4⟩;rcases turn i n ys H4 w4 with ⟨stop,q⟩ | ⟨go,N,hN,step⟩
    · refine thn (T.done (AG X scope own fr s3.heap.objs.size fp s3 (upd H s.heap.objs.size (.lst []))) rfl rfl rfl hc i [] s4 _ H4 (λ _ _=>False) I4 (stat fr4) st4 stop) λ r s5 ⟨hr,I5⟩=> ?_;subst hr;obtain ⟨m,hn,_⟩:=id I5.loc;exact hR _ _ H4 s5 (I3.call' I5.os I5.base I5.hok I5.bare λ b hb=>⟨(hf3 b hb).2.2.2.1,(hf3 b hb).2.1,(hf3 b hb).2.2.2.2.1,(hf3 b hb).2.2.2.2.2⟩) ⟨m,hn⟩ (I3.fpOk (Nat.le_refl _) I5.free) q
    · refine thn (T.item (AG X scope own fr s3.heap.objs.size fp s3 (upd H s.heap.objs.size (.lst []))) rfl rfl rfl hc i [] s4 _ H4 (λ _ _=>False) I4 (stat fr4) st4 go) λ r s5 ⟨u,hr,h5⟩=> ?_;subst hr;refine thn h5 λ _ s6 ⟨x,H6,I6,r6,y6,st6,fr6⟩=> ?_;have I6':=I6.pinned (stat fr6) (T.obj _ _ st6);refine thn (hg _ _ _ _ _ s6 _ H6 x u _ I6' r6 (step x H6 y6)) λ _ s7 ⟨σ7,H7,I7,kp,q7⟩=> ?_;refine thn (ht _ _ _ _ _ s7 σ7 H7 _ I7 q7) λ b s8 ⟨H8,I8,q8⟩=> ?_;have again:∀ {s9:Shared} {H9:Hp} {ys':List V},Inv (AG X scope own fr s3.heap.objs.size fp s3 (upd H s.heap.objs.size (.lst []))) ([]++Ex fp s6.heap) σ7 H9 s9->N ys' H9->
          ∃ m,m<n/\∃ i ys H',Inv (AG X scope own fr s3.heap.objs.size fp s3 (upd H s.heap.objs.size (.lst []))) [] (Bz own fr σ) H' s9/\tn i s9.heap/\(∀ b∈fp,H' b=none)/\W i m ys H':=λ {s9 H9 ys'} I9 n9=>by
        obtain ⟨m',hm,w9⟩:=hN ys' H9 n9;refine ⟨m',hm,i+1,ys',H9,I9.unpinned.weak kp.1.symm kp.2,T.keep _ _ _ st6 λ b hb o e=>(I9.pin (b,o) (List.mem_append_right _ (List.mem_append_right _ (Bg hb e)))).1,λ b hb=> ?_,w9⟩;obtain ⟨o,e,d⟩:=T.obj _ _ st6 b hb;exact (I9.pin (b,o) (List.mem_append_right _ (List.mem_append_right _ (Bg hb e)))).2.1
      cases b with
      | false=>
        rw [if_neg Bool.false_ne_true] at q8 ⊢;exact again I8 q8
      | true=>
        rw [if_pos rfl] at q8 ⊢;refine thn (he _ _ _ _ _ s8 σ7 H8 _ I8 q8) λ xv s9 ⟨y,H9,I9,r9,hD,hl,n9⟩=> ?_;refine thn (Bl _ s9 σ7 H9 (.ref s.heap.objs.size) [y] (.ref s.heap.objs.size) [xv] (λ _ H'=>H'=upd H9 s.heap.objs.size (.lst (ys++[y]))) I9 rfl (.cons r9 .nil) ⟨_,ys,y,rfl,rfl,hD,hl,rfl⟩) λ _ s10 ⟨_,H10,I10,_,q10⟩=> ?_;subst q10;exact again I10 n9
  exact codeAny_compStart_list loop (T.self _ 0 _ _ _ st3 loop)
theorem GO {elt tg iter:Expr} {ifs:List Expr} {scope:Scope} {pos:Pos} {own:List Str} {fr:List (Str × Nat)} {wi:TI} {g:TG} {tc:TT} {te:TE} (hc:X.calm=true) (S:BlkScope X scope own fr) (hi:PI X tg iter wi)
    (hg:∀ C ex s H,PG (AG X scope own fr C ex s H) tg g) (ht:∀ C ex s H,PTs (AG X scope own fr C ex s H) ifs tc) (he:∀ C ex s H,PE (AG X scope own fr C ex s H) elt te)
    (hs:∀ x,foldedSetIterable iter X.env x=pure x:=by intro _;rfl):PE X (.ListComp elt [⟨tg,iter,ifs,0⟩] scope pos) (Du wi own fr g tc te):=by
  intro pins s σ H Q I h;rw [eval_ListComp];refine wpAny_comprehension_free (use:=none) rfl hs (Ca (S.cells I.ok)) S.kind S.loc (thn (hi pins s σ H _ I h) λ xv s₁ h₁=>thn h₁ λ itv s₂ h₂=> ?_);obtain ⟨it,fp,tn,J,H2,rfl,I2,T,st2,f2,h2⟩:=h₂;refine Hs (RR:=λ acc C=>compPost (model X.prog X.w) X.A X.xe none (EP X pins σ Q) acc C) hc S hg ht he I2 T st2 f2 h2 ?_;rintro D C H' s' I' ⟨m,hn⟩ f q;exact ⟨m,hn,λ h' sb=>⟨.ref D,H',I'.turned (t':=s'.toks) (it:=C) (λ b o hb e=>(sb.2 b hb).trans e) f.1 f.2.1 f.2.2.2.1 f.2.2.2.2.1 f.2.2.2.2.2,rfl,q⟩⟩
theorem IN {i:Nat} {x:Str} {px spos:Pos} {elt tg iter:Expr} {ifs:List Expr} {scope:Scope} {pos:Pos} {own:List Str} {fr:List (Str × Nat)} {wi:TI} {g:TG} {tc:TT} {te:TE} (hN:X.N.Nodup) (hix:X.N[i]?=some x) (hx:Loc X.env.scope x)
    (hc:X.calm=true) (S:BlkScope X scope own fr) (hi:PI X tg iter wi)
    (hg:∀ C ex s H,PG (AG X scope own fr C ex s H) tg g) (ht:∀ C ex s H,PTs (AG X scope own fr C ex s H) ifs tc) (he:∀ C ex s H,PE (AG X scope own fr C ex s H) elt te)
    (hsw:swapsWith (.ListComp elt [⟨tg,iter,ifs,0⟩] scope pos) (some (.Name x px)) spos.line X.env=pure true:=by rfl)
    (hf:X.fn x=true\/X.env.scope.names.lookup x=some .local:=by first | exact .inl rfl | exact .inr rfl | assumption)
    (hs:∀ x,foldedSetIterable iter X.env x=pure x:=by intro _;rfl):PS X (.Assign [.Name x px] (.ListComp elt [⟨tg,iter,ifs,0⟩] scope pos) spos) (J4 (Du wi own fr g tc te) (AB i)):=by
  intro pins s σ H D I h;rw [exec_Assign_Name_used _ _ _ _ hsw];refine wpAny_bind (wpAny_standAt (wpAny_bind ?_));show wpAny _ X.A (do let _ <-comprehension (.ListComp elt [⟨tg,iter,ifs,0⟩] scope pos) scope X.env _ (newList []) false (eval iter X.env) (some (assign (.Name x px) X.env))) _ _ s;refine wpAny_bind (wpAny_mono (wpAny_comprehension_free (use:=some (assign (.Name x px) X.env)) (Q:=λ _ s'=>SP X pins D .next s') rfl hs (Ca (S.cells I.ok)) S.kind S.loc
    (thn (hi pins s σ H _ I h) λ xv s₁ h₁=>thn h₁ λ itv s₂ h₂=> ?_)) (λ _ s' hq=>wpAny_pure (wpAny_pure hq)) λ _ _ e=>e)
  obtain ⟨it,fp,tn,J,H2,rfl,I2,T,st2,f2,h2⟩:=h₂;refine Hs (Q:=λ x H1=>AB i x σ H1 D.nx) (RR:=λ acc C=>compPost (model X.prog X.w) X.A X.xe (some (assign (.Name x px) X.env)) (λ _ s'=>SP X pins D .next s') acc C) hc S hg ht he I2 T st2 f2 h2 ?_;rintro Dl C H' s' I' ⟨m,hn⟩ f q;obtain ⟨o,es,ep,ho,hd,r⟩:=hn;have pinC:∀ v,o.data≠ .cell v:=λ v z=>by rw [hd] at z;cases z
  have I'':Inv X (pins++[(C,o)]) σ H' s':=I'.pins_of λ p hp=>(List.mem_append.mp hp).elim (λ z=>I'.pin p (List.mem_append_right _ z)) λ z=>by
    have e:p=(C,o):=by simpa using z
    subst e;exact ⟨ho,f.1,f.2.1,f.2.2.1,pinC⟩
  show wpAny _ X.A (assign (.Name x px) X.env (.ref Dl)) _ _ s';refine wpAny_assign_Name (DZ I'' hN hix hx (v:= .ref Dl) rfl (λ s2 I2=> ?_) hf);have pc:=(I2.pin (C,o) (List.mem_append_right _ (List.mem_append_right _ (by simp)))).1;refine ⟨m,⟨o,es,ep,pc,hd,r⟩,λ h' sb=>⟨_,H',?_,q⟩⟩;exact (I2.unpinned (pl:=[(C,o)])).turned (t':=s2.toks) (it:=C) (λ b o hb e=>(sb.2 b hb).trans e) f.1 f.2.1 f.2.2.2.1 f.2.2.2.2.1 f.2.2.2.2.2
end
section
variable {X:Cx} {tg:Expr}
end
section
variable {X:Cx}
theorem Ez:∀ {ns:List Int} {l:List (Int × Tok)},Vals (ns.map V.int) (l.map λ p=>Value.int p.1 p.2)->l.map (·.1)=ns
  | [],[],_=>rfl
  | n::ns,p::l,r=>by
    cases r with
    | cons r1 r2=>
      obtain ⟨t,e⟩:=r1;injection e with e1 e2;rw [List.map_cons,Ez r2,e1]
  | [],_::_,r=>by cases r
  | _::_,[],r=>by cases r
theorem Ls (hc:X.calm=true):AV X (.builtin "sum") (λ xs H Q=>∃ (p:Addr) (ns:List Int),xs=[.ref p]/\SqL X.K H p (ns.map V.int)/\Q (.int ns.sum) H):=by
  intro pins s σ H xs us Q I r h;obtain ⟨p,ns,rfl,hq,q⟩:=h;obtain ⟨u,rfl,rx⟩:=Ey r;cases rx;obtain ⟨its,rv,pl,_⟩:=I.list hq;obtain ⟨ps,e⟩:=(IntsAre.allInts (Ii rv)).items;have e':its=ps.toList.map λ p=>Value.int p.1 p.2:=by
    have:=congrArg Array.toList e;simpa [intItems] using this
  have hl:=pl.isList;rw [e] at hl;refine sum_intListG (I.ok.hd hc) hl λ h' tk t' hk=> ?_;have es:preSum (numAt ps) ps.size=ns.sum:=by
    rw [preSum_eq,List.take_of_length_le (by simp),Ez (ns:=ns) (l:=ps.toList) (by rw [<-e'];exact rv)]
  rw [es];exact ⟨.int ns.sum,H,I.kept hk,⟨t',rfl⟩,q⟩
theorem JJ (bs:List Bool):(List.range bs.length).all (λ i=>bs.getD i true)=bs.all id:=by
  rw [Bool.eq_iff_iff,List.all_eq_true,List.all_eq_true];constructor
  · intro h b hb;obtain ⟨i,hi,rfl⟩:=List.getElem_of_mem hb;have:=h i (by simpa using hi);rw [List.getD_eq_getElem?_getD,List.getElem?_eq_getElem hi] at this;exact this
  · intro h i hi;have hi:i<bs.length:=by simpa using hi
    rw [List.getD_eq_getElem?_getD,List.getElem?_eq_getElem hi];exact h _ (List.getElem_mem hi)
theorem K6 (hc:X.calm=true):AV X (.builtin "all") (λ xs H Q=>∃ (p:Addr) (bs:List Bool),xs=[.ref p]/\SqL X.K H p (bs.map V.bl)/\Q (.bl (bs.all id)) H):=by
  intro pins s σ H xs us Q I r h;obtain ⟨p,bs,rfl,hq,q⟩:=h;obtain ⟨u,rfl,rx⟩:=Ey r;cases rx;obtain ⟨its,rv,pl,_⟩:=I.list hq;have hl:=rv.length;rw [List.length_map] at hl;obtain ⟨o,ho,_⟩:=id pl.isList;have hne:p≠s.heap.objs.size:=Nat.ne_of_lt (Heap.lt_size ho);refine call_all_walk (wpAny_pyIter_list pl.isList ?_);refine ⟨s.heap.objs.size,_,_,_,_,_,λ i=>bs.getD i true,rfl,Walks.list (A:=X.A.in1) (I.ok.hd hc) _ p hne its.toArray,⟨⟨_,Heap.get?_push_size _ rfl,rfl,rfl⟩,pl.isList.at λ o e=>Heap.get?_push_of_some _ e⟩,?_,λ h' tk hk=> ?_⟩
  · intro i v s' Q' E' hv hQ';have hv:its[i]?=some v:=by simpa using hv
    have hi:i<bs.length:=by rw [hl];exact (List.getElem?_eq_some_iff.mp hv).1
    obtain ⟨u,hu,ru⟩:=rv.get (i:=i) (x:= .bl (bs.getD i true)) (by rw [List.getElem?_map,List.getD_eq_getElem?_getD,List.getElem?_eq_getElem hi];rfl);rw [hu] at hv;cases hv;cases ru;exact wpAny_truthy_bool hQ'
  · have e:its.toArray.size=bs.length:=by rw [List.size_toArray];exact hl.symm
    rw [e,JJ];exact ⟨.bl _,H,I.kept λ b o e=>hk b o (λ z=>by simp at z;exact absurd (Heap.lt_size e) (by rw [z];exact Nat.lt_irrefl _)) (Heap.get?_push_of_some _ e),rfl,q⟩
theorem HJ:AV X (.builtin "isinstance") (λ xs H Q=>∃ x n t b,xs=[x, .ty n]/\TyOf X.K H x t/\PySem.W.kitOne X.K t (.type n)=some b/\Q (.bl b) H):=by
  intro pins s σ H xs us Q I r h;obtain ⟨x,n,t,b,rfl,ty,e,q⟩:=h;obtain ⟨u,c,rfl,rx,rc⟩:=Jv r;cases rc;exact JQ I rx ty e λ tk=>⟨.bl b,H,I.tok tk,rfl,q⟩
def K9 (K:PySem.W.Frag):R2:=λ x y H Q=>∃ l b xs zs,x= .ref l/\y= .ref b/\SqL K H l xs/\SqL K H b zs/\xs.length+zs.length<=sizeLine/\∀ p,H p=none->Q (.ref p) (upd H p (.lst (xs++zs)))
theorem Mx:OpR X (binaryOp .Add) (K9 X.K):=by
  intro pins s σ H x y v u Q I rx ry h;obtain ⟨l,b,xs,zs,rfl,rfl,hH,hB,hz,q⟩:=h;cases rx;cases ry;obtain ⟨its,r,pl,_⟩:=I.list hH;obtain ⟨its2,r2,pl2,_⟩:=I.list hB;have h1:=r.length;have h2:=r2.length;obtain ⟨⟨cls,dd,data,sl⟩,n,ho,hc,hdd,hd⟩:=pl;obtain ⟨⟨cls2,dd2,data2,sl2⟩,n2,ho2,hc2,hdd2,hd2⟩:=pl2;simp only at hc hdd hd hc2 hdd2 hd2;subst hc hdd hd hc2 hdd2 hd2;refine concat_meets ⟨_,ho,rfl⟩ ⟨_,ho2,rfl⟩ noFill_list_add seq_list_add PySem.F.slot_list_add PySem.F.entry_list_add (PySem.F.args_list_add_2 _ _) (list_addW l b its.toArray its2.toArray n n2 none none sl sl2 (by rw [List.size_toArray,List.size_toArray];omega)) ⟨ho,ho2,?_⟩;have e:its.toArray++its2.toArray=(its++its2).toArray:=by simp
  rw [e];exact ⟨.ref _,_,I.lnew (t':=s.toks) (r.append r2) (by rw [List.length_append];omega),rfl,q _ I.fresh⟩
def En (xs ys:List V):Bool:=xs.length == ys.length&&(List.range xs.length).all λ i=>eqV (xs.getD i .non) (ys.getD i .non)
theorem Gs {xs:List V} (h:xs.all Dk=true) {i:Nat} (hi:i<xs.length):Dk (xs.getD i .non)=true:=by
  rw [List.getD_eq_getElem?_getD,List.getElem?_eq_getElem hi];exact (List.all_eq_true.mp h) _ (List.getElem_mem hi)
def JE (K:PySem.W.Frag) (neg:Bool):R2:=λ x y H Q=>∃ p q xs ys,x= .ref p/\y= .ref q/\SqL K H p xs/\SqL K H q ys/\xs.all Dk=true/\ys.all Dk=true/\Q (.bl (if neg then !En xs ys else En xs ys)) H
theorem Fs {A:Around} {s:Shared} {xs ys:List V} {its its2:List Value} (r:Vals xs its) (r2:Vals ys its2) (fx:xs.all Dk=true) (fy:ys.all Dk=true):
    ∀ j (h1:j<its.toArray.size) (h2:j<its2.toArray.size),SeqAt.EqAt A s its.toArray[j] its2.toArray[j] (eqV (xs.getD j .non) (ys.getD j .non)):=λ j h1 h2=>by
  have l1:=r.length;have l2:=r2.length;have h1':j<its.length:=by simpa using h1
  have h2':j<its2.length:=by simpa using h2
  have g1:xs[j]?=some (xs.getD j .non):=by rw [List.getD_eq_getElem?_getD,List.getElem?_eq_getElem (by omega)];rfl
  have g2:ys[j]?=some (ys.getD j .non):=by rw [List.getD_eq_getElem?_getD,List.getElem?_eq_getElem (by omega)];rfl
  obtain ⟨u,e1,ru⟩:=r.get g1;obtain ⟨u2,e2,ru2⟩:=r2.get g2;have q1:its.toArray[j]=u:=by rw [List.getElem?_eq_getElem h1'] at e1;simpa using Option.some.inj e1
  have q2:its2.toArray[j]=u2:=by rw [List.getElem?_eq_getElem h2'] at e2;simpa using Option.some.inj e2
  rw [q1,q2];exact Oj ru ru2 (Gs fx (by omega)) (Gs fy (by omega))
theorem Oq (hu:X.A.units<cLine):OpR X (compareOp .Eq) (JE X.K false):=by
  intro pins s σ H x y v u Q I rx ry h;obtain ⟨p,q,xs,ys,rfl,rfl,h1,h2,fx,fy,hq⟩:=h;cases rx;cases ry;obtain ⟨its,r,pl,_⟩:=I.list h1;obtain ⟨its2,r2,pl2,_⟩:=I.list h2;have l1:=r.length;have l2:=r2.length;by_cases hl:xs.length=ys.length
  · refine SeqAt.eq_listAt pl.isList pl2.isList (by simp;omega) hu (Fs r r2 fx fy) ⟨.bl _,H,I,rfl,?_⟩;have e:En xs ys=(List.range its.toArray.size).all λ i=>eqV (xs.getD i .non) (ys.getD i .non):=by
      unfold En;rw [hl,beq_self_eq_true,Bool.true_and,List.size_toArray, <-l1,hl]
    rw [<-e];exact hq
  · refine SeqAt.eq_list_lengthsAt pl.isList pl2.isList (by simp;omega) hu ⟨.bl _,H,I,rfl,?_⟩;have e:En xs ys=false:=by unfold En;rw [beq_eq_false_iff_ne.mpr hl,Bool.false_and]
    rw [<-e];exact hq
theorem Oh (hu:X.A.units<cLine):OpR X (compareOp .NotEq) (JE X.K true):=by
  intro pins s σ H x y v u Q I rx ry h;obtain ⟨p,q,xs,ys,rfl,rfl,h1,h2,fx,fy,hq⟩:=h;cases rx;cases ry;obtain ⟨its,r,pl,_⟩:=I.list h1;obtain ⟨its2,r2,pl2,_⟩:=I.list h2;have l1:=r.length;have l2:=r2.length;by_cases hl:xs.length=ys.length
  · refine SeqAt.RcNeAt.lists pl.isList pl2.isList (by simp;omega) hu (Fs r r2 fx fy) _ _ _ _ ⟨.bl _,H,I,rfl,?_⟩;have e:En xs ys=(List.range its.toArray.size).all λ i=>eqV (xs.getD i .non) (ys.getD i .non):=by
      unfold En;rw [hl,beq_self_eq_true,Bool.true_and,List.size_toArray, <-l1,hl]
    rw [<-e];exact hq
  · refine SeqAt.RcNeAt.lists_lengths pl.isList pl2.isList (by simp;omega) hu _ _ _ _ ⟨.bl _,H,I,rfl,?_⟩;have e:En xs ys=false:=by unfold En;rw [beq_eq_false_iff_ne.mpr hl,Bool.false_and]
    rw [e] at hq;exact hq
theorem M7 {α:Type} [DecidableEq α] (f:α->V) (hf:∀ a b,eqV (f a) (f b)=decide (a=b)) (as bs:List α):En (as.map f) (bs.map f)=decide (as=bs):=by
  unfold En;rw [Bool.eq_iff_iff,Bool.and_eq_true,List.all_eq_true,decide_eq_true_iff,beq_iff_eq,List.length_map,List.length_map];constructor
  · rintro ⟨h1,h2⟩;refine List.ext_getElem h1 λ i g1 g2=> ?_;have:=h2 i (by simpa using g1);rw [List.getD_eq_getElem?_getD,List.getD_eq_getElem?_getD,List.getElem?_map,List.getElem?_map,List.getElem?_eq_getElem g1,List.getElem?_eq_getElem g2] at this;have:=(hf _ _).symm.trans this;exact of_decide_eq_true this
  · rintro rfl;refine ⟨rfl,λ i hi=> ?_⟩;have hi:i<as.length:=by simpa using hi
    rw [List.getD_eq_getElem?_getD,List.getElem?_map,List.getElem?_eq_getElem hi];show eqV (f as[i]) (f as[i])=true;rw [hf];exact decide_eq_true rfl
theorem G5 (as bs:List Int):En (as.map V.int) (bs.map V.int)=decide (as=bs):=M7 V.int (λ a b=>by show (a == b)=_;rw [Bool.eq_iff_iff,beq_iff_eq,decide_eq_true_iff]) as bs
theorem DW (as:List Int):(as.map V.int).all Dk=true:=by simp [Dk]
end
def Aq (P:Program) (w:World) (K:PySem.W.Frag) (mg:Str->Option Value) (base:Heap) (x:Str) (k:Nat) (ps:List Str) (sp:Sp):Prop:=
  ∃ f fd,mg x=some (.ref f)/\PySem.W.keepIn K (.ref f)=true/\FnOk P w K mg base CX0 k f fd ps sp/\Binds K fd ps []
section
variable {X:Cx} {x:Str} {k:Nat} {ps:List Str} {sp:Sp} {e:Expr} {es:List Expr} {t:TA} {p pos:Pos}
theorem Ag (h:Aq X.prog X.w X.K X.mg X.base x k ps sp) (hr:Room k X.A) (ha:PA X (e::es) t) (hg:Gl X x:=by rfl) (hdb:(x == ("__debug__":Str))=false:=by decide)
    (he:starEach (e::es) X.env=(false,eval e X.env)::starEach es X.env:=by rfl) (hpl:(backTo pos (starEach es X.env)).any (·.1)=false:=by rfl):
    PE X (.Call (.Name x p) (e::es) [] pos) (Jy sp [] E0 t):=by
  obtain ⟨f,fd,hm,hk,F,hb⟩:=h;exact LY F hr hg hm hk hb .nil Jj ha hdb he hpl
end
structure DefAt (K:PySem.W.Frag) (mg:Str->Option Value) (x:Str) (st:Stmt) (ps:List Str) (f:Addr) (fd:FuncData):Prop where
  fn:Fun K x x st f fd
  at':mg x=some (.ref f)
  bi:Binds K fd ps []
theorem DefAt.call {P:Program} {w:World} {K:PySem.W.Frag} {mg:Str->Option Value} {base:Heap} {x:Str} {st:Stmt} {ps:List Str} {f:Addr} {fd:FuncData} {k:Nat} {sp:Sp} (d:DefAt K mg x st ps f fd)
    (F:FnOk P w K mg base CX0 k f fd ps sp):Aq P w K mg base x k ps sp:=⟨f,fd,d.at',d.fn.kp,F,d.bi⟩
def Ld:V->Bool | .int _=>true | _=>false
def Ny:V->Bool | .bl _=>true | _=>false
def Ty (K:PySem.W.Frag) (H:Hp) (x:V):Prop:=∃ n,TyOf K H x (.type n)
def CJ (n T:String):Option Bool:=if (Value.type n == Value.type T)=true then some true else if PySem.W.kitMeta T=true then (fastBuiltinMro n).map (·.contains (.type T)) else none
section
variable {K:PySem.W.Frag} {H:Hp} {x:V} {n:String}
theorem kb {n T:String} {b:Bool} (h:CJ n T=some b):PySem.W.kitOne K (.type n) (.type T)=some b:=h
theorem MS (h:TyOf K H x (.type n)):PySem.W.kitOne K (.type n) (.type "int")=some (Ld x||Ny x):=by
  cases h <;> first
    | exact (show PySem.W.kitOne K _ _=some true from kb (by decide +kernel))
    | exact (show PySem.W.kitOne K _ _=some false from kb (by decide +kernel))
theorem Lg (h:TyOf K H x (.type n)):PySem.W.kitOne K (.type n) (.type "bool")=some (Ny x):=by
  cases h <;> first
    | exact (show PySem.W.kitOne K _ _=some true from kb (by decide +kernel))
    | exact (show PySem.W.kitOne K _ _=some false from kb (by decide +kernel))
end
section
variable {X:Cx}
def Own (mg:Str->Option Value) (names:List Str):Prop:=∀ x∈names,mg x=none
theorem Gq:bootBuiltins "all"=some (.builtin "all"):=by decide +kernel
theorem B6 {x:Str} {T:String} {pos:Pos} (hg:Gl X x) (hm:X.mg x=none) (hv:bootBuiltins x=some (.type T)) (hn:x≠"__name__":=by decide) (hd:(x == ("__debug__":Str))=false:=by decide):PE X (.Name x pos) (tC (.ty T)):=
  Ma hg hm hv (show RelV (.ty T) (.type T) from rfl) hn hd
end
def Cm (N:List Str) (scope:Scope):List (Str × Nat):=scope.names.filterMap λ y=>if y.2= .free then (N.findIdx? λ n=>decide (n=y.1)).map λ i=>(y.1,i) else none
def CZ (sc:Scope) (N:List Str) (scope:Scope) (own:List Str) (fr:List (Str × Nat)):Bool:=
  decide (scope.kind= .function)&&
  (scope.names.all λ y=>decide (y.2≠ .cell)&&(decide (y.2≠ .local)||decide (scope.names.lookup y.1=some .local))&&
    (decide (y.2≠ .free)||((decide (sc.names.lookup y.1=some .cell)||decide (sc.names.lookup y.1=some .free))&&decide (scope.names.lookup y.1=some .free))))&&
  (fr.all λ p=>decide (N[p.2]?=some p.1)&&decide ((p.1,NameKind.free)∈scope.names))&&
  (own.all λ x=>decide (scope.names.lookup x=some .local))&&decide ((own++fr.map (·.1)).Nodup)
section
variable {X:Cx} {scope:Scope} {own:List Str} {fr:List (Str × Nat)}
theorem BlkScope.of (h:CZ X.env.scope X.N scope own fr=true):BlkScope X scope own fr:=by
  unfold CZ at h;simp only [Bool.and_eq_true,List.all_eq_true,decide_eq_true_iff,Bool.or_eq_true] at h;obtain ⟨⟨⟨⟨h1,h2⟩,h3⟩,h4⟩,h5⟩:=h;exact ⟨h1,λ y hy=>(h2 y hy).1.1,λ y hy e=>(h2 y hy).1.2.resolve_left (λ z=>z e),λ y hy e=>((h2 y hy).2.resolve_left (λ z=>z e)).1,λ p hp=>h3 p hp,λ x hx=>((h2 _ hx).2.resolve_left (λ z=>z rfl)).2⟩
theorem JC (h:CZ X.env.scope X.N scope own fr=true):(∀ x∈own,scope.names.lookup x=some .local)/\(own++fr.map (·.1)).Nodup:=by
  unfold CZ at h;simp only [Bool.and_eq_true,List.all_eq_true,decide_eq_true_iff,Bool.or_eq_true] at h;exact ⟨h.1.2,h.2⟩
theorem Fc {i:Nat} {x:Str} {px:Pos} (h:CZ X.env.scope X.N scope own fr=true) (hi:own[i]?=some x) (C:Addr) (ex:List Addr) (s:Shared) (H:Hp):PG (AG X scope own fr C ex s H) (.Name x px) (AB i):=by
  obtain ⟨h1,h2⟩:=JC h;have hl:(relabel scope X.env).names.lookup x=some .local:=lookup_relabel_local (h1 x (List.mem_of_getElem? hi));have hlt:=(List.getElem?_eq_some_iff.mp hi).1;refine AD h2 ?_ (.inl hl) (.inr hl);show (own++fr.map (·.1))[i]?=some x;rw [List.getElem?_append_left hlt];exact hi
theorem Bu {elt iter:Expr} {x:Str} {px:Pos} {ifs:List Expr} {pos:Pos} {wi:TI} {tc:TT} {te:TE} (hi:PI X (.Name x px) iter wi)
    (ht:∀ C ex s H,PTs (AG X scope [x] (Cm X.N scope) C ex s H) ifs tc) (he:∀ C ex s H,PE (AG X scope [x] (Cm X.N scope) C ex s H) elt te)
    (hb:CZ X.env.scope X.N scope [x] (Cm X.N scope)=true:=by with_unfolding_all rfl) (hc:X.calm=true:=by rfl)
    (hs:∀ x,foldedSetIterable iter X.env x=pure x:=by intro _;rfl):PE X (.ListComp elt [⟨.Name x px,iter,ifs,0⟩] scope pos) (Du wi [x] (Cm X.N scope) (AB 0) tc te):=
  GO hc (.of hb) hi (λ C ex s H=>Fc hb rfl C ex s H) ht he hs
theorem Fn {i:Nat} {y x:Str} {py px spos:Pos} {elt iter:Expr} {ifs:List Expr} {pos:Pos} {wi:TI} {tc:TT} {te:TE} (hN:X.N.Nodup) (hix:X.N[i]?=some y) (hx:Loc X.env.scope y) (hi:PI X (.Name x px) iter wi)
    (ht:∀ C ex s H,PTs (AG X scope [x] (Cm X.N scope) C ex s H) ifs tc) (he:∀ C ex s H,PE (AG X scope [x] (Cm X.N scope) C ex s H) elt te)
    (hb:CZ X.env.scope X.N scope [x] (Cm X.N scope)=true:=by with_unfolding_all rfl) (hc:X.calm=true:=by rfl)
    (hsw:swapsWith (.ListComp elt [⟨.Name x px,iter,ifs,0⟩] scope pos) (some (.Name y py)) spos.line X.env=pure true:=by rfl)
    (hf:X.fn y=true\/X.env.scope.names.lookup y=some .local:=by first | exact .inl rfl | exact .inr rfl | assumption)
    (hs:∀ x,foldedSetIterable iter X.env x=pure x:=by intro _;rfl):
    PS X (.Assign [.Name y py] (.ListComp elt [⟨.Name x px,iter,ifs,0⟩] scope pos) spos) (J4 (Du wi [x] (Cm X.N scope) (AB 0) tc te) (AB i)):=
  IN hN hix hx hc (.of hb) hi (λ C ex s H=>Fc hb rfl C ex s H) ht he hsw hf hs
theorem NK {σ:L2.St} {H:Hp} {A B:Hp->Prop} (h:A H):K2 σ H (λ b H3=>if b=true then A H3 else B H3):=by
  show (if true=true then A H else B H);exact Iw h
end
def Mr (K:PySem.W.Frag):List V->Hp->VK->Prop:=λ xs H Q=>∃ x n,xs=[x]/\Ps K x H n/\Q (.int n) H
def O2 (K:PySem.W.Frag):List V->Hp->VK->Prop:=λ xs H Q=>∃ (p:Addr) (ns:List Int),xs=[.ref p]/\SqL K H p (ns.map V.int)/\Q (.int ns.sum) H
def O3 (K:PySem.W.Frag):List V->Hp->VK->Prop:=λ xs H Q=>∃ (p:Addr) (bs:List Bool),xs=[.ref p]/\SqL K H p (bs.map V.bl)/\Q (.bl (bs.all id)) H
def Kw (K:PySem.W.Frag):List V->Hp->VK->Prop:=λ xs H Q=>∃ x n t b,xs=[x, .ty n]/\TyOf K H x t/\PySem.W.kitOne K t (.type n)=some b/\Q (.bl b) H
def Jc (K:PySem.W.Frag):List V->Hp->VK->Prop:=λ xs H Q=>∃ p ys,xs=[.ref p]/\(SqL K H p ys\/SqT K H p ys)/\∀ l,H l=none->Q (.ref l) (upd H l (.lst ys))
def Hb (K:PySem.W.Frag):List V->Hp->VK->Prop:=λ xs H Q=>∃ p ys,xs=[.ref p]/\((SqL K H p ys/\∀ l,H l=none->Q (.ref l) (upd H l (.tup ys)))\/(SqT K H p ys/\Q (.ref p) H))
section
variable {X:Cx} {K:PySem.W.Frag}
theorem BZ (hK:X.K=K:=by rfl):AV X (.builtin "len") (Mr K):=by subst hK;exact Lk
theorem Pf (hK:X.K=K:=by rfl) (hc:X.calm=true:=by rfl):AV X (.builtin "sum") (O2 K):=by subst hK;exact Ls hc
theorem Nn (hK:X.K=K:=by rfl) (hc:X.calm=true:=by rfl):AV X (.builtin "all") (O3 K):=by subst hK;exact K6 hc
theorem CW (hK:X.K=K:=by rfl):AV X (.builtin "isinstance") (Kw K):=by subst hK;exact HJ
theorem Kn (hK:X.K=K:=by rfl):AV X (.type "list") (Jc K):=by subst hK;exact GR
theorem Mw (hK:X.K=K:=by rfl):AV X (.type "tuple") (Hb K):=by subst hK;exact FV
theorem BC (hK:X.K=K:=by rfl):IxR X (N3 K):=by subst hK;exact M9
theorem Br (hK:X.K=K:=by rfl):IxR X (NW K):=by subst hK;exact N1
theorem IX (hK:X.K=K:=by rfl):OpR X (binaryOp .Add) (K9 K):=by subst hK;exact Mx
theorem O7 (hu:X.A.units<cLine) (hK:X.K=K:=by rfl):OpR X (compareOp .Eq) (JE K false):=by subst hK;exact Oq hu
theorem Pi (hu:X.A.units<cLine) (hK:X.K=K:=by rfl):OpR X (compareOp .NotEq) (JE K true):=by subst hK;exact Oh hu
theorem IU (hK:X.K=K:=by rfl):SlR X (ON K):=by subst hK;exact L4
theorem Cr {tg l:Expr} {tl:TE} (hl:PE X l tl) (hK:X.K=K:=by rfl):PI X tg l (Ll K tl):=by subst hK;exact MY hl
theorem Pn {tg l:Expr} {tl:TE} (hl:PE X l tl) (hK:X.K=K:=by rfl):PI X tg l (NT K tl):=by subst hK;exact N8 hl
end
section
variable {X:Cx} {pins:List (Addr × Obj)} {σ:St} {H:Hp} {s:Shared} {h':Heap}
theorem Inv.turnedL {t':Nat} (ch:List Addr) (I:Inv X pins σ H s) (hf:∀ b∈ch,BV X pins H b) (k:∀ b o,b∉ch->s.heap.get? b=some o->h'.get? b=some o):Inv X pins σ H { s with heap:=h',toks:=t' }:=by
  have nit:∀ b u,H b=some u->b∉ch:=λ b u e z=>by rw [(hf b z).1] at e;cases e
  refine I.step (g':=s.gens) (d':=s.drawn) (ch:=ch) (λ b hb=> ?_) (λ b o _ _ hc e _=>k b o hc e) (λ b o _ _ hc e _=>⟨o.slots,k b o hc e⟩) (λ _ _ _ _ n=>n)
    (λ b o hc e=>⟨o,k b o hc e⟩) (λ _ _ e=>e) (λ _ _ _ e=>e) (λ b ps e=>⟨#[],by rw [e];simp⟩) (λ m hm=> ?_) (λ b u e=> ?_) I.bare
  · obtain ⟨f0,f1,f2,f3,f4,f5⟩:=hf b hb;exact ⟨f3,f1,f4,f5⟩
  · obtain ⟨o,es,ep,ho,r⟩:=hm;exact ⟨o,es,ep,k _ o (λ z=>(hf _ z).2.1 rfl) ho,r⟩
  · refine (I.hok b u e).stay (λ c v hc q=>k c v ?_ q) (λ _ q=>q) λ _ _ q=>q;rcases hc with z | z
    · rw [z];exact nit b u e
    · exact nit c _ z
end
def Ite (K:PySem.W.Frag) (a:Addr):It:=
  ⟨λ i H=>∃ xs x,SqL K H a xs/\xs[i]?=some x,λ i H v H'=>∃ p x,H p=none/\v= .ref p/\H'=upd H p (.tup [.int i,x])/\∀ xs,SqL K H a xs->xs[i]?=some x,λ i H=>∃ xs,SqL K H a xs/\xs.length<=i⟩
theorem Iv {X:Cx} {pins:List (Addr × Obj)} {H:Hp} {b p:Addr} {o:HO} (h:BV X pins H b) (n:b≠p):BV X pins (upd H p o) b:=⟨by rw [Al n];exact h.1,h.2⟩
theorem JK {P:Program} {w:World} {K:PySem.W.Frag} {elts:List Expr} {k:Nat} {pos:Pos} (a e it:Addr) (hne:e≠it):
    Turn P w K (.Tuple elts k pos) (Ite K a) [e,it] e (λ i h=>(∃ old,IsEnum h e it i old)/\h.IsListIter it a i) where
  mem:=by simp
  obj:=λ i h st b hb=>by
    obtain ⟨⟨old,he⟩,o,eo,c,d⟩:=st;rcases List.mem_cons.mp hb with z | z
    · subst z;exact ⟨_,he,λ v z=>by cases (show Data.fields _=Data.cell v from z)⟩
    · have z:b=it:=by simpa using z
      subst z;exact ⟨o,eo,λ v z=>by rw [d] at z;cases z⟩
  keep:=λ i h h' st kp=>by
    obtain ⟨⟨old,he⟩,hi⟩:=st;exact ⟨⟨old,kp e (by simp) _ he⟩,hi.at λ o z=>kp it (by simp) o z⟩
  item:=by
    intro X hP hw hK hc i pins s σ H E I hf st hg;subst hP hw hK;obtain ⟨xs,x,hq,hx⟩:=hg;obtain ⟨its,rv,p,hz⟩:=I.list hq;obtain ⟨u,hu,ru⟩:=rv.get hx;obtain ⟨⟨old,he⟩,hi⟩:=st;have hel:e<s.heap.objs.size:=Heap.lt_size he;have hil:it<s.heap.objs.size:=by obtain ⟨_,z,_⟩:=hi;exact Heap.lt_size z
    refine wpAny_pyNext_enum_item he hi p.isList (x:=u) (by simpa using hu) hne λ h' ho hi' hT hsz hk=> ?_;have I0:=I.laid (h':=s.heap.push { cls:= .type "tuple",data:= .seq #[.int i s.toks,u] }) (a:=s.heap.objs.size) (o:= .tup [.int i,x]) (t':=s.toks+1) (λ _ _ q=>Heap.get?_push_of_some _ q) (Nat.le_refl _)
      ⟨(by show 2<=sizeLine;decide),[.int i s.toks,u], .cons ⟨_,rfl⟩ (.cons ru .nil),⟨_,Heap.get?_push_size _ rfl,rfl,_,rfl⟩⟩
    have f0:∀ b∈[e,it],BV X pins (upd H s.heap.objs.size (.tup [.int i,x])) b:=λ b hb=>Iv (hf b hb) (by
      rcases List.mem_cons.mp hb with z | z
      · rw [z];exact Nat.ne_of_lt hel
      · rw [show b=it by simpa using z];exact Nat.ne_of_lt hil)
    have I1:=Inv.turnedL (t':=s.toks+1) (h':=h') [e,it] I0 f0 (λ b o hb z=>by
      have hb1:b≠e:=λ q=>hb (by simp [q]);have hb2:b≠it:=λ q=>hb (by simp [q]);rcases Heap.get?_push_cases (show (s.heap.push { cls:= .type "tuple",data:= .seq #[.int i s.toks,u] }).get? b=some o from z) with ⟨q1,q2⟩ | q
      · rw [q1,q2];exact hT
      · exact hk b o hb1 hb2 q)
    refine ⟨.ref s.heap.objs.size,rfl,wpAny_letOwnedTupleGo_enum (s:={ s with heap:=h',toks:=s.toks+1 }) ho λ h2 he2 sb=> ?_⟩;refine ⟨.ref s.heap.objs.size,_,Inv.turnedL (t':=s.toks+1) (h':=h2) [e,it] I1 f0 (λ b o hb z=>(sb.2 b λ q=>hb (by simp [q])).trans z),rfl,⟨_,x,I.fresh,rfl,rfl,λ ys hy=>by rw [I.list_inj hy hq];exact hx⟩,⟨⟨u,by simpa using he2⟩,hi'.at λ o z=>(sb.2 it hne.symm).trans z⟩,λ b hb=>(f0 b hb).1⟩
  done:=by
    intro X hP hw hK hc i pins s σ H E I hf st hg;subst hP hw hK;obtain ⟨xs,hq,hx⟩:=hg;obtain ⟨its,rv,p,hz⟩:=I.list hq;obtain ⟨⟨old,he⟩,hi⟩:=st;have hl:=rv.length;exact wpAny_pyNext_enum_end (I.ok.hd hc) he hi p.isList (by simp;omega) λ h' eb=>⟨rfl,I.turnedL (t':=s.toks) [e,it] hf λ b o hb z=>eb b o (λ q=>hb (by simp [q])) z⟩
  self:=λ _ _ _ _ _ st h=>by
    obtain ⟨⟨old,he⟩,_⟩:=st;exact wpAny_pyIter_enum he h
section
variable {X:Cx} {elts:List Expr} {k:Nat} {tpos:Pos} {K:PySem.W.Frag}
def Nc (K:PySem.W.Frag) (ta:TA):TI:=λ σ H R=>ta σ H λ vs H1=>∃ a,vs=[.ref a]/\(∃ xs,SqL K H1 a xs)/\R (Ite K a) H1
theorem Gb:bootBuiltins "enumerate"=some (.type "enumerate"):=by decide +kernel
theorem LC:bootBuiltins "zip"=some (.type "zip"):=by decide +kernel
theorem Js {l:Expr} {ta:TA} {p pos:Pos} (hg:Gl X "enumerate") (hm:X.mg "enumerate"=none) (ha:PA X [l] ta) (hK:X.K=K:=by rfl) (hs:starEach [l] X.env=[(false,eval l X.env)]:=by rfl):PI X (.Tuple elts k tpos) (.Call (.Name "enumerate" p) [l] [] pos) (Nc K ta):=by
  subst hK;intro pins s σ H R I h;refine Call_ (Cb I hg hm Gb (PyProof.Rows.callWith_type1 (thn (ha pos pins s σ H _ I h) λ us s1 ⟨vs,H1,I1,r1,q1⟩=> ?_) hs rfl));obtain ⟨a,e,⟨xs,hq⟩,q⟩:=q1;subst e;cases r1 with
  | cons r rr=>
    cases rr;cases r;obtain ⟨its,rv,pl,hz⟩:=I1.list hq;refine call_enumerate_list pl.isList λ h' he hi hsz hk=> ?_;refine wpAny_pyIter_enum he ?_;have I2:=I1.kept (t':=s1.toks) hk;refine ⟨s1.heap.objs.size+1,[s1.heap.objs.size+1,s1.heap.objs.size],_,_,H1,rfl,I2,JK a _ _ (Nat.succ_ne_self _),⟨⟨_,he⟩,hi⟩,λ b hb=> ?_,q⟩;have hb':s1.heap.objs.size<=b:=by
      rcases List.mem_cons.mp hb with z | z
      · rw [z];exact Nat.le_succ _
      · have z:b=s1.heap.objs.size:=by simpa using z
        rw [z];exact Nat.le_refl _
    exact I1.fpOk hb' (I1.hok.fresh hb')
end
section
variable {X:Cx} {elts:List Expr} {k:Nat} {tpos:Pos} {K:PySem.W.Frag}
end
def Be (tp:Bool) (h:Heap) (it l:Addr) (i:Nat):Prop:=if tp=true then h.IsTupleIter it l i else h.IsListIter it l i
def Bf (tp:Bool) (h:Heap) (l:Addr) (xs:Array Value):Prop:=if tp=true then h.IsTuple l xs else h.IsList l xs
theorem Ay {tp:Bool} {h h':Heap} {it l:Addr} {i:Nat} (x:Be tp h it l i) (k:∀ o,h.get? it=some o->h'.get? it=some o):Be tp h' it l i:=by
  cases tp with
  | false=>obtain ⟨o,e,r⟩:=(show h.IsListIter it l i from x);exact (show h'.IsListIter it l i from ⟨o,k o e,r⟩)
  | true=>obtain ⟨o,e,r⟩:=(show h.IsTupleIter it l i from x);exact (show h'.IsTupleIter it l i from ⟨o,k o e,r⟩)
theorem BN {tp:Bool} {h h':Heap} {l:Addr} {xs:Array Value} (x:Bf tp h l xs) (k:∀ o,h.get? l=some o->h'.get? l=some o):Bf tp h' l xs:=by
  cases tp with
  | false=>obtain ⟨o,e,r⟩:=(show h.IsList l xs from x);exact (show h'.IsList l xs from ⟨o,k o e,r⟩)
  | true=>obtain ⟨o,e,r⟩:=(show h.IsTuple l xs from x);exact (show h'.IsTuple l xs from ⟨o,k o e,r⟩)
theorem A4 {tp:Bool} {h:Heap} {it l:Addr} {i:Nat} (x:Be tp h it l i):∃ o,h.get? it=some o/\o.data= .fields #[.ref l, .int i 0]:=by
  cases tp with
  | false=>obtain ⟨o,e,_,d⟩:=(show h.IsListIter it l i from x);exact ⟨o,e,d⟩
  | true=>obtain ⟨o,e,_,d⟩:=(show h.IsTupleIter it l i from x);exact ⟨o,e,d⟩
theorem De {tp:Bool} {h:Heap} {l:Addr} {xs:Array Value} (x:Bf tp h l xs):∃ o n,h.get? l=some o/\o.data= .seq xs n:=by
  cases tp with
  | false=>obtain ⟨o,e,_,n,d⟩:=(show h.IsList l xs from x);exact ⟨o,n,e,d⟩
  | true=>obtain ⟨o,e,_,n,d⟩:=(show h.IsTuple l xs from x);exact ⟨o,n,e,d⟩
section
variable {prog:Program} {w:World} {A:Around} {E:Value->Shared->Prop} {s:Shared}
theorem Ec {tp:Bool} {it l:Addr} {i:Nat} {xs:Array Value} {x:Value} {Q:Value->Shared->Prop} (ht:Be tp s.heap it l i) (hq:Bf tp s.heap l xs) (hx:xs[i]?=some x)
    (k:∀ h',Be tp h' it l (i+1)->Heap.SameBut it s.heap h'->Q x { s with heap:=h' }):wpAny (model prog w) A (Builtin.SmallTypes.nextOf (.ref it)) Q E s:=by
  cases tp with
  | false=>exact wpAny_nextOf_list_item (show s.heap.IsListIter it l i from ht) (show s.heap.IsList l xs from hq) hx k
  | true=>
    have ht:s.heap.IsTupleIter it l i:=ht;obtain ⟨ob,eb,cb,db⟩:=id ht;obtain ⟨ol,el,_,nl,dl⟩:=(show s.heap.IsTuple l xs from hq);unfold Builtin.SmallTypes.nextOf;refine wpAny_bind (wpAny_callSpecial?_slot (name:=Str.ofString "__next__") ht.typeIs F.slot_tuple_iterator_next (wpAny_call_entry F.slot_tuple_iterator_next ht.typeIs F.entry_tuple_iterator_next ?_ (F.args_tuple_iterator_next_1 _)));show wpAny _ _ (field (.ref it) 0 >>= _) _ _ s;refine wpAny_bind (wpAny_field eb db (x:= .ref l) rfl ?_);show wpAny _ _ (if (Value.ref l == Value.none)=true then _ else _) _ _ s;rw [if_neg (show ¬ ((Value.ref l == Value.none)=true) from Bool.false_ne_true)];show wpAny _ _ (field (.ref it) 1 >>= _) _ _ s;refine wpAny_bind (wpAny_field eb db (x:= .int i 0) rfl ?_);show wpAny _ _ (seqItems? (.ref l) >>= _) _ _ s;refine wpAny_bind (wpAny_seqItems el dl ?_);simp only [Int.toNat_natCast,hx];refine wpAny_bind (wpAny_setField eb db (by simp) (wpAny_pure ⟨x,rfl,wpAny_pure (k _ ?_ (Heap.SameBut.update ..))⟩));exact (show Heap.IsTupleIter _ it l (i+1) from ⟨_,Heap.get?_update_self _ eb (Obj.isFreed_of_fields (Obj.data_mapFields db _)),(Obj.cls_mapFields ..).trans cb,by rw [Obj.data_mapFields db];simp [rawInt]⟩)
theorem E5 {tp:Bool} {it l:Addr} {i:Nat} {xs:Array Value} {Q:Value->Shared->Prop} (hh:A.handled=none) (ht:Be tp s.heap it l i) (hq:Bf tp s.heap l xs) (hx:xs[i]?=none)
    (k:∀ h' e,Heap.ExtBut it s.heap h'->(∃ o,h'.get? e=some o/\o.cls= .type "StopIteration")->E (.ref e) { s with heap:=h' }):wpAny (model prog w) A (Builtin.SmallTypes.nextOf (.ref it)) Q E s:=by
  cases tp with
  | false=>exact wpAny_nextOf_list_end hh (show s.heap.IsListIter it l i from ht) (show s.heap.IsList l xs from hq) hx k
  | true=>
    have ht:s.heap.IsTupleIter it l i:=ht;obtain ⟨ob,eb,cb,db⟩:=id ht;obtain ⟨ol,el,_,nl,dl⟩:=(show s.heap.IsTuple l xs from hq);unfold Builtin.SmallTypes.nextOf;refine wpAny_bind (wpAny_callSpecial?_slot (name:=Str.ofString "__next__") ht.typeIs F.slot_tuple_iterator_next (wpAny_call_entry F.slot_tuple_iterator_next ht.typeIs F.entry_tuple_iterator_next ?_ (F.args_tuple_iterator_next_1 _)));show wpAny _ _ (field (.ref it) 0 >>= _) _ _ s;refine wpAny_bind (wpAny_field eb db (x:= .ref l) rfl ?_);show wpAny _ _ (if (Value.ref l == Value.none)=true then _ else _) _ _ s;rw [if_neg (show ¬ ((Value.ref l == Value.none)=true) from Bool.false_ne_true)];show wpAny _ _ (field (.ref it) 1 >>= _) _ _ s;refine wpAny_bind (wpAny_field eb db (x:= .int i 0) rfl ?_);show wpAny _ _ (seqItems? (.ref l) >>= _) _ _ s;refine wpAny_bind (wpAny_seqItems el dl ?_);simp only [Int.toNat_natCast,hx];refine wpAny_bind (wpAny_rule (wpAny_bind (wpAny_setField eb db (by simp) ?_)));show wpAny _ _ (newExc (.type "StopIteration") [] >>= _) _ _ _;refine wpAny_bind ?_;simp only [newExc,newTuple];refine wpAny_bind (wpAny_newObj_type ?_ (by size_fits));refine wpAny_bind (m:=firstArgMember _ _) (wpAny_of_eq (a:=Value.none) (by first | rfl | (simp only [firstArgMember];rfl)) ?_);refine wpAny_newObj_type ?_ (by size_fits);simp only [raiseNew];refine wpAny_bind (wpAny_handled ?_)
    first | rw [show A.in1.handled=none from hh] | rw [hh]
    exact wpAny_bind (wpAny_pure (wpAny_throw (k _ _ (((Heap.SameBut.update ..).extBut.push _).push _) ⟨_,Heap.get?_push_size _ rfl,rfl⟩)))
end
section
variable {prog:Program} {w:World} {A:Around} {E:Value->Shared->Prop} {s:Shared}
structure ZipSt (t1 t2:Bool) (h:Heap) (z TI TO i1 i2 l1 l2:Addr) (k:Nat):Prop where
  hz:IsZip h z TI TO .none
  hTI:IsPair h TI (.ref i1) (.ref i2)
  hTO:∃ c d,IsPair h TO c d
  h1:Be t1 h i1 l1 k
  h2:Be t2 h i2 l2 k
theorem JH {t1 t2:Bool} {z TI TO i1 i2 l1 l2:Addr} {k:Nat} {xs ys:Array Value} {x y:Value} {Q:Value->Shared->Prop} (D:ZipApart z TI TO i1 i2 l1 l2) (Z:ZipSt t1 t2 s.heap z TI TO i1 i2 l1 l2 k)
    (q1:Bf t1 s.heap l1 xs) (q2:Bf t2 s.heap l2 ys) (hx:xs[k]?=some x) (hy:ys[k]?=some y)
    (fin:∀ h',IsZip h' z TI TO (rawInt s.heap.objs.size)->IsPair h' TO x y->Be t1 h' i1 l1 (k+1)->Be t2 h' i2 l2 (k+1)->IsPair h' s.heap.objs.size x y->
      (∀ c o,c≠z->c≠TO->c≠i1->c≠i2->s.heap.get? c=some o->h'.get? c=some o)->Q (.ref s.heap.objs.size) { s with heap:=h' }):
    wpAny (model prog w) A (Builtin.«zip.__next__» ⟨[.ref z],[]⟩) (λ fin s'=>∃ v,fin= .done (.ret v)/\Q v s') E s:=by
  obtain ⟨hz,hTI,⟨c0,d0,hTO⟩,g1,g2⟩:=Z;show wpAny _ _ (field (.ref z) 2 >>= _) _ _ _;refine wpAny_bind (wpAny_field hz rfl (x:= .bool false) rfl ?_);show wpAny _ _ (field (.ref z) 3 >>= _) _ _ _;refine wpAny_bind (wpAny_field hz rfl (x:= .ref TI) rfl (wpAny_bind (wpAny_seqItems hTI rfl ?_)));show wpAny _ _ (Builtin.SmallTypes.ownedTupleIsFree (.ref z) >>= _) _ _ _;refine wpAny_bind ?_;unfold Builtin.SmallTypes.ownedTupleIsFree;refine wpAny_bind (wpAny_field hz rfl (x:= .none) rfl (wpAny_pure ?_));simp only [if_true];refine wpAny_bind (wpAny_rule (wpAny_bind (wpAny_field hz rfl (x:= .ref TO) rfl (wpAny_bind (wpAny_setField_rec hz (by simp) λ a1 za b1=> ?_)))));replace za:IsZip a1 z TI TO .ellipsis:=za;refine wpAny_bind ?_;simp only [List.zipIdx_cons,List.zipIdx_nil,List.forIn_cons,List.forIn_nil];refine wpAny_bind (wpAny_bind (wpAny_onRaise ?_));show wpAny _ _ (Builtin.SmallTypes.nextOf (.ref i1) >>= _) _ _ _;refine wpAny_bind (Ec (s:={ s with heap:=a1 }) (Ay g1 λ o e=>b1.extBut _ o D.i1z e) (BN q1 λ o e=>b1.extBut _ o D.l1z e) hx λ a2 i1a b2=>wpAny_pure ?_);have to2:IsPair a2 TO c0 d0:=b2.extBut _ _ D.TOi1 (b1.extBut _ _ D.TOz hTO);refine wpAny_bind (wpAny_seqItems to2 rfl (wpAny_bind (wpAny_updateSeq_pair to2 λ a3 to3 b3=> ?_)));replace to3:IsPair a3 TO x d0:=to3;refine wpAny_bind (wpAny_letGo (wpAny_pure (wpAny_bind (wpAny_bind (wpAny_onRaise ?_)))));show wpAny _ _ (Builtin.SmallTypes.nextOf (.ref i2) >>= _) _ _ _;have up3:∀ c o,c≠z->c≠i1->c≠TO->s.heap.get? c=some o->a3.get? c=some o:=λ c o n1 n2 n3 e=>b3.extBut _ o n3 (b2.extBut _ o n2 (b1.extBut _ o n1 e));refine wpAny_bind (Ec (s:={ s with heap:=a3 }) (Ay g2 λ o e=>up3 _ o D.i2z D.i12.symm D.TOi2.symm e) (BN q2 λ o e=>up3 _ o D.l2z D.l2i1 D.l2TO e) hy λ a4 i2a b4=>wpAny_pure ?_);have to4:IsPair a4 TO x d0:=b4.extBut _ _ D.TOi2 to3;refine wpAny_bind (wpAny_seqItems to4 rfl (wpAny_bind (wpAny_updateSeq_pair to4 λ a5 to5 b5=> ?_)));replace to5:IsPair a5 TO x y:=to5;refine wpAny_bind (wpAny_letGo (wpAny_pure (wpAny_pure (wpAny_bind (wpAny_seqItems to5 rfl (wpAny_bind (wpAny_newTuple ?_)))))));have sz:a5.objs.size=s.heap.objs.size:=by rw [b5.1,b4.1,b3.1,b2.1,b1.1]
  have z5:IsZip a5 z TI TO .ellipsis:=b5.extBut _ _ D.TOz.symm (b4.extBut _ _ D.i2z.symm (b3.extBut _ _ D.TOz.symm (b2.extBut _ _ D.i1z.symm za)));have k5:∀ c o,c≠z->c≠TO->c≠i1->c≠i2->s.heap.get? c=some o->a5.get? c=some o:=λ c o n1 n2 n3 n4 e=>b5.extBut _ _ n2 (b4.extBut _ _ n4 (up3 c o n1 n3 n2 e));have f1:Be t1 a5 i1 l1 (k+1):=Ay i1a λ o e=>b5.extBut _ o D.TOi1.symm (b4.extBut _ o D.i12 (b3.extBut _ o D.TOi1.symm e));have f2:Be t2 a5 i2 l2 (k+1):=Ay i2a λ o e=>b5.extBut _ o D.TOi2.symm e;have zlt:z<a5.objs.size:=Heap.lt_size z5;show wpAny _ _ (Builtin.SmallTypes.ownedTupleHandOut (.ref z) (.ref a5.objs.size) >>= _) _ _ _;refine wpAny_bind ?_;unfold Builtin.SmallTypes.ownedTupleHandOut;have z6:IsZip (a5.push { cls:= .type "tuple",data:= .seq #[x,y] }) z TI TO .ellipsis:=Heap.get?_push_of_some _ z5;refine wpAny_bind (wpAny_setField_rec z6 (by simp) λ a7 z7 b7=> ?_);replace z7:IsZip a7 z TI TO (rawInt a5.objs.size):=z7;refine wpAny_setField_rec z7 (by simp) λ a8 z8 b8=> ?_;replace z8:IsZip a8 z TI TO (rawInt a5.objs.size):=z8;have up:∀ c o,c≠z->a5.get? c=some o->a8.get? c=some o:=λ c o n e=>b8.extBut _ _ n (b7.extBut _ _ n (Heap.get?_push_of_some _ e));have t8:IsPair a8 a5.objs.size x y:=b8.extBut _ _ (Nat.ne_of_gt zlt) (b7.extBut _ _ (Nat.ne_of_gt zlt) (Heap.get?_push_size _ rfl));rw [sz] at z8 t8;refine wpAny_pure ⟨_,rfl,?_⟩;show Q (.ref a5.objs.size) _;rw [sz];exact fin a8 z8 (up _ _ D.TOz to5) (Ay f1 λ o e=>up _ o D.i1z e) (Ay f2 λ o e=>up _ o D.i2z e) t8 λ c o n1 n2 n3 n4 e=>up c o n1 (k5 c o n1 n2 n3 n4 e)
theorem K1 {t1 t2:Bool} {z TI TO i1 i2 l1 l2:Addr} {k:Nat} {xs ys:Array Value} {Q:Fin->Shared->Prop} (hh:A.handled=none) (D:ZipApart z TI TO i1 i2 l1 l2) (Z:ZipSt t1 t2 s.heap z TI TO i1 i2 l1 l2 k)
    (q1:Bf t1 s.heap l1 xs) (q2:Bf t2 s.heap l2 ys) (hend:xs[k]?=none\/ys[k]?=none)
    (fin:∀ h' e,(∀ c o,c≠z->c≠TO->c≠i1->c≠i2->s.heap.get? c=some o->h'.get? c=some o)->(∃ o,h'.get? e=some o/\o.cls= .type "StopIteration")->E (.ref e) { s with heap:=h' }):
    wpAny (model prog w) A (Builtin.«zip.__next__» ⟨[.ref z],[]⟩) Q E s:=by
  obtain ⟨hz,hTI,⟨c0,d0,hTO⟩,g1,g2⟩:=Z;show wpAny _ _ (field (.ref z) 2 >>= _) _ _ _;refine wpAny_bind (wpAny_field hz rfl (x:= .bool false) rfl ?_);show wpAny _ _ (field (.ref z) 3 >>= _) _ _ _;refine wpAny_bind (wpAny_field hz rfl (x:= .ref TI) rfl (wpAny_bind (wpAny_seqItems hTI rfl ?_)));show wpAny _ _ (Builtin.SmallTypes.ownedTupleIsFree (.ref z) >>= _) _ _ _;refine wpAny_bind ?_;unfold Builtin.SmallTypes.ownedTupleIsFree;refine wpAny_bind (wpAny_field hz rfl (x:= .none) rfl (wpAny_pure ?_));simp only [if_true];refine wpAny_bind (wpAny_rule (wpAny_bind (wpAny_field hz rfl (x:= .ref TO) rfl (wpAny_bind (wpAny_setField_rec hz (by simp) λ a1 za b1=> ?_)))));replace za:IsZip a1 z TI TO .ellipsis:=za;refine wpAny_bind ?_;simp only [List.zipIdx_cons,List.zipIdx_nil,List.forIn_cons,List.forIn_nil];refine wpAny_bind (wpAny_bind (wpAny_onRaise ?_));show wpAny _ _ (Builtin.SmallTypes.nextOf (.ref i1) >>= _) _ _ _;have g1':=Ay g1 λ o e=>b1.extBut _ o D.i1z e;have q1':=BN q1 λ o e=>b1.extBut _ o D.l1z e;cases hx:xs[k]? with
  | none=>
    refine wpAny_bind (E5 (s:={ s with heap:=a1 }) hh g1' q1' hx λ a2 e b2 he=> ?_);obtain ⟨oe,eo,ce⟩:=he;have z2:IsZip a2 z TI TO .ellipsis:=b2 _ _ D.i1z.symm za;have nz:e≠z:=λ q=>by subst q;rw [z2] at eo;cases eo;simp at ce
    exact wpAny_setField_rec z2 (by simp) λ a3 _ b3=>fin a3 e (λ c o n1 _ n3 _ q=>b3.extBut _ _ n1 (b2 _ _ n3 (b1.extBut _ _ n1 q))) ⟨oe,b3.extBut _ _ nz eo,ce⟩
  | some x=>
    have hy:ys[k]?=none:=by
      rcases hend with q | q
      · rw [hx] at q;cases q
      · exact q
    refine wpAny_bind (Ec (s:={ s with heap:=a1 }) g1' q1' hx λ a2 i1a b2=>wpAny_pure ?_);have to2:IsPair a2 TO c0 d0:=b2.extBut _ _ D.TOi1 (b1.extBut _ _ D.TOz hTO);refine wpAny_bind (wpAny_seqItems to2 rfl (wpAny_bind (wpAny_updateSeq_pair to2 λ a3 to3 b3=> ?_)));refine wpAny_bind (wpAny_letGo (wpAny_pure (wpAny_bind (wpAny_bind (wpAny_onRaise ?_)))));show wpAny _ _ (Builtin.SmallTypes.nextOf (.ref i2) >>= _) _ _ _;have up3:∀ c o,c≠z->c≠i1->c≠TO->s.heap.get? c=some o->a3.get? c=some o:=λ c o n1 n2 n3 e=>b3.extBut _ o n3 (b2.extBut _ o n2 (b1.extBut _ o n1 e));refine wpAny_bind (E5 (s:={ s with heap:=a3 }) hh (Ay g2 λ o e=>up3 _ o D.i2z D.i12.symm D.TOi2.symm e) (BN q2 λ o e=>up3 _ o D.l2z D.l2i1 D.l2TO e) hy λ a4 e b4 he=> ?_);obtain ⟨oe,eo,ce⟩:=he;have z4:IsZip a4 z TI TO .ellipsis:=b4 _ _ D.i2z.symm (b3.extBut _ _ D.TOz.symm (b2.extBut _ _ D.i1z.symm za));have nz:e≠z:=λ q=>by subst q;rw [z4] at eo;cases eo;simp at ce
    exact wpAny_setField_rec z4 (by simp) λ a5 _ b5=>fin a5 e (λ c o n1 n2 n3 n4 q=>b5.extBut _ _ n1 (b4 _ _ n4 (up3 c o n1 n3 n2 q))) ⟨oe,b5.extBut _ _ nz eo,ce⟩
def F6 (tp:Bool):String:=if tp=true then "tuple_iterator" else "list_iterator"
theorem Fj {tp:Bool} {l:Addr} {xs:Array Value} {Q:Value->Shared->Prop} (hq:Bf tp s.heap l xs) (k:Q (.ref s.heap.objs.size) { s with heap:=s.heap.push { cls:= .type (F6 tp),data:= .fields #[.ref l, .int 0 0] } }):
    wpAny (model prog w) A (pyIter (.ref l)) Q E s:=by
  cases tp with
  | false=>exact wpAny_pyIter_list (show s.heap.IsList l xs from hq) k
  | true=>exact wpAny_pyIter_tuple (show s.heap.IsTuple l xs from hq) k
theorem Ep {tp:Bool} {h:Heap} {l:Addr}:Be tp (h.push { cls:= .type (F6 tp),data:= .fields #[.ref l, .int 0 0] }) h.objs.size l 0:=by
  cases tp with
  | false=>exact (show Heap.IsListIter _ _ l 0 from ⟨_,Heap.get?_push_size _ rfl,rfl,rfl⟩)
  | true=>exact (show Heap.IsTupleIter _ _ l 0 from ⟨_,Heap.get?_push_size _ rfl,rfl,rfl⟩)
abbrev zs1 (t1:Bool) (h:Heap) (l1:Addr):Heap:=h.push { cls:= .type (F6 t1),data:= .fields #[.ref l1, .int 0 0] }
abbrev zs2 (t1 t2:Bool) (h:Heap) (l1 l2:Addr):Heap:=(zs1 t1 h l1).push { cls:= .type (F6 t2),data:= .fields #[.ref l2, .int 0 0] }
abbrev zs3 (t1 t2:Bool) (h:Heap) (l1 l2:Addr):Heap:=(zs2 t1 t2 h l1 l2).push { cls:= .type "tuple",data:= .seq #[.ref h.objs.size, .ref (zs1 t1 h l1).objs.size] }
abbrev zs4 (t1 t2:Bool) (h:Heap) (l1 l2:Addr):Heap:=(zs3 t1 t2 h l1 l2).push { cls:= .type "tuple",data:= .seq #[.none, .none] }
abbrev zs5 (t1 t2:Bool) (h:Heap) (l1 l2:Addr):Heap:=(zs4 t1 t2 h l1 l2).push { cls:= .type "zip",data:= .fields #[.none, .bool false, .bool false, .ref (zs2 t1 t2 h l1 l2).objs.size, .ref (zs3 t1 t2 h l1 l2).objs.size] }
theorem IF (t1 t2:Bool) (l1 l2:Addr) (xs ys:Array Value):
    Meets (Builtin.«zip.__new__» ⟨[.type "zip", .ref l1, .ref l2],[]⟩) (λ _ R s=>Bf t1 s.heap l1 xs/\Bf t2 s.heap l2 ys/\
      R (.ok (.ret (.ref (zs4 t1 t2 s.heap l1 l2).objs.size))) { s with heap:=zs5 t1 t2 s.heap l1 l2 }):=
  .of_wp λ prog w A R s h=>by
    obtain ⟨hp,g,d,tk,os⟩:=s;obtain ⟨m1,m2,h⟩:=h;have hsub:=sub_zip;have M1:Bf t1 (Shared.heap ⟨hp,g,d,tk,os⟩) l1 xs:=m1;have M2:Bf t2 (Shared.heap ⟨hp.push { cls:= .type (F6 t1),data:= .fields #[.ref l1, .int 0 0] },g,d,tk,os⟩) l2 ys:=BN m2 λ o e=>Heap.get?_push_of_some _ e
    wp_walk using Fj M1,Fj M2
    exact ⟨_,rfl,h⟩
theorem JX {t1 t2:Bool} {l1 l2:Addr} {xs ys:Array Value} {Q:Value->Shared->Prop} (m1:Bf t1 s.heap l1 xs) (m2:Bf t2 s.heap l2 ys)
    (k:∀ h',ZipSt t1 t2 h' (s.heap.objs.size+4) (s.heap.objs.size+2) (s.heap.objs.size+3) s.heap.objs.size (s.heap.objs.size+1) l1 l2 0->
      (∀ c o,s.heap.get? c=some o->h'.get? c=some o)->Q (.ref (s.heap.objs.size+4)) { s with heap:=h' }):
    wpAny (model prog w) A (call (.type "zip") [.ref l1, .ref l2]) Q E s:=by
  refine callType_new F.called_zip (by decide) (F.typeCall_zip_2 _ _) (F.newCall_zip_2 _ _) (λ obj=>F.args_object_init_3 obj _ _) F.entry_zip_new (IF t1 t2 l1 l2 xs ys) ⟨m1,m2,?_⟩;have n1:(zs1 t1 s.heap l1).objs.size=s.heap.objs.size+1:=Heap.size_push ..;have n2:(zs2 t1 t2 s.heap l1 l2).objs.size=s.heap.objs.size+2:=by rw [Heap.size_push,n1]
  have n3:(zs3 t1 t2 s.heap l1 l2).objs.size=s.heap.objs.size+3:=by rw [Heap.size_push,n2]
  have n4:(zs4 t1 t2 s.heap l1 l2).objs.size=s.heap.objs.size+4:=by rw [Heap.size_push,n3]
  have g5:(zs5 t1 t2 s.heap l1 l2).get? (zs4 t1 t2 s.heap l1 l2).objs.size=some _:=Heap.get?_push_size _ rfl;have g4:(zs5 t1 t2 s.heap l1 l2).get? (zs3 t1 t2 s.heap l1 l2).objs.size=some _:=Heap.get?_push_of_some _ (Heap.get?_push_size _ rfl);have g3:(zs5 t1 t2 s.heap l1 l2).get? (zs2 t1 t2 s.heap l1 l2).objs.size=some _:=Heap.get?_push_of_some _ (Heap.get?_push_of_some _ (Heap.get?_push_size _ rfl));have up2:∀ c o,(zs2 t1 t2 s.heap l1 l2).get? c=some o->(zs5 t1 t2 s.heap l1 l2).get? c=some o:=λ c o e=>Heap.get?_push_of_some _ (Heap.get?_push_of_some _ (Heap.get?_push_of_some _ e));have s2:Be t2 (zs5 t1 t2 s.heap l1 l2) (zs1 t1 s.heap l1).objs.size l2 0:=Ay Ep λ o e=>up2 _ o e;have s1:Be t1 (zs5 t1 t2 s.heap l1 l2) s.heap.objs.size l1 0:=Ay Ep λ o e=>up2 _ o (Heap.get?_push_of_some _ e);show _/\_;rw [n2,n3,n4] at g5;rw [n1,n2] at g3;rw [n3] at g4;rw [n1] at s2;rw [n4];exact ⟨⟨_,g5,rfl⟩,k _ ⟨g5,g3,⟨_,_,g4⟩,s1,s2⟩ λ c o e=>up2 c o (Heap.get?_push_of_some _ (Heap.get?_push_of_some _ e))⟩
end
def SqS (tp:Bool) (K:PySem.W.Frag) (H:Hp) (a:Addr) (xs:List V):Prop:=if tp=true then SqT K H a xs else SqL K H a xs
theorem BF {X:Cx} {pins:List (Addr × Obj)} {σ:St} {H:Hp} {s:Shared} {tp:Bool} {a:Addr} {xs:List V} (I:Inv X pins σ H s) (h:SqS tp X.K H a xs):∃ its:List Value,Vals xs its/\Bf tp s.heap a its.toArray:=by
  cases tp with
  | false=>
    obtain ⟨its,r,p,_⟩:=I.list (show SqL X.K H a xs from h);exact ⟨its,r,(show s.heap.IsList a its.toArray from p.isList)⟩
  | true=>
    obtain ⟨its,r,p,_⟩:=I.tuple (show SqT X.K H a xs from h);exact ⟨its,r,(show s.heap.IsTuple a its.toArray from p)⟩
theorem GH {X:Cx} {pins:List (Addr × Obj)} {σ:St} {H:Hp} {s:Shared} {tp:Bool} {a:Addr} {xs ys:List V} (I:Inv X pins σ H s) (h:SqS tp X.K H a xs) (h2:SqS tp X.K H a ys):xs=ys:=by
  cases tp with
  | false=>exact I.list_inj h h2
  | true=>exact I.tuple_inj h h2
def Izs (t1 t2:Bool) (K:PySem.W.Frag) (a b:Addr):It:=
  ⟨λ i H=>∃ xs ys x y,SqS t1 K H a xs/\SqS t2 K H b ys/\xs[i]?=some x/\ys[i]?=some y,
   λ i H v H'=>∃ p x y,H p=none/\v= .ref p/\H'=upd H p (.tup [x,y])/\(∀ xs,SqS t1 K H a xs->xs[i]?=some x)/\∀ ys,SqS t2 K H b ys->ys[i]?=some y,
   λ i H=>∃ xs ys,SqS t1 K H a xs/\SqS t2 K H b ys/\(xs.length<=i\/ys.length<=i)⟩
theorem MA {P:Program} {w:World} {K:PySem.W.Frag} {elts:List Expr} {k:Nat} {pos:Pos} (t1 t2:Bool) (a b z TI TO i1 i2:Addr) (D:ZipApart z TI TO i1 i2 a b):
    Turn P w K (.Tuple elts k pos) (Izs t1 t2 K a b) [z,TI,TO,i1,i2] z (λ i h=>ZipSt t1 t2 h z TI TO i1 i2 a b i) where
  mem:=by simp
  obj:=λ i h st c hc=>by
    obtain ⟨hz,hTI,⟨x,y,hTO⟩,h1,h2⟩:=st;obtain ⟨o1,e1,d1⟩:=A4 h1;obtain ⟨o2,e2,d2⟩:=A4 h2;simp only [List.mem_cons,List.not_mem_nil,or_false] at hc;rcases hc with q | q | q | q | q
    · subst q;exact ⟨_,hz,λ v z=>by cases (show Data.fields _=Data.cell v from z)⟩
    · subst q;exact ⟨_,hTI,λ v z=>by cases (show Data.seq _ _=Data.cell v from z)⟩
    · subst q;exact ⟨_,hTO,λ v z=>by cases (show Data.seq _ _=Data.cell v from z)⟩
    · subst q;exact ⟨o1,e1,λ v z=>by rw [d1] at z;cases z⟩
    · subst q;exact ⟨o2,e2,λ v z=>by rw [d2] at z;cases z⟩
  keep:=λ i h h' st kp=>by
    obtain ⟨hz,hTI,⟨x,y,hTO⟩,h1,h2⟩:=st;exact ⟨kp z (by simp) _ hz,kp TI (by simp) _ hTI,⟨x,y,kp TO (by simp) _ hTO⟩,Ay h1 λ o q=>kp i1 (by simp) o q,Ay h2 λ o q=>kp i2 (by simp) o q⟩
  item:=by
    intro X hP hw hK hc i pins s σ H E I hf st hg;subst hP hw hK;obtain ⟨xs,ys,x,y,hq1,hq2,hx,hy⟩:=hg;obtain ⟨its,rv,p1⟩:=BF I hq1;obtain ⟨its2,rv2,p2⟩:=BF I hq2;obtain ⟨u,hu,ru⟩:=rv.get hx;obtain ⟨u2,hu2,ru2⟩:=rv2.get hy;have lt:∀ q∈[z,TI,TO,i1,i2],q<s.heap.objs.size:=λ q hq=>by
      obtain ⟨hz,hTI,⟨c,d,hTO⟩,h1,h2⟩:=id st;obtain ⟨_,e1,_⟩:=A4 h1;obtain ⟨_,e2,_⟩:=A4 h2;simp only [List.mem_cons,List.not_mem_nil,or_false] at hq;rcases hq with q' | q' | q' | q' | q'
      · subst q';exact Heap.lt_size hz
      · subst q';exact Heap.lt_size hTI
      · subst q';exact Heap.lt_size hTO
      · subst q';exact Heap.lt_size e1
      · subst q';exact Heap.lt_size e2
    have hT0:s.TypeIs (.ref z) "zip":=⟨_,st.hz,rfl⟩;unfold pyNext;refine wpAny_bind (wpAny_attempt (wpAny_callSpecial?_slot (name:=Str.ofString "__next__") hT0 F.slot_zip_next (wpAny_call_entry F.slot_zip_next hT0 F.entry_zip_next
      (JH D st p1 p2 (x:=u) (y:=u2) (by simpa using hu) (by simpa using hu2) λ h' hz' hTO' h1' h2' hT hk=>wpAny_pure ?_) (F.args_zip_next_1 _))))
    have I0:=I.laid (h':=s.heap.push { cls:= .type "tuple",data:= .seq #[u,u2] }) (a:=s.heap.objs.size) (o:= .tup [x,y]) (t':=s.toks) (λ _ _ q=>Heap.get?_push_of_some _ q) (Nat.le_refl _)
      ⟨(by show 2<=sizeLine;decide),[u,u2], .cons ru (.cons ru2 .nil),⟨_,Heap.get?_push_size _ rfl,rfl,_,rfl⟩⟩
    have f0:∀ b∈[z,TI,TO,i1,i2],BV X pins (upd H s.heap.objs.size (.tup [x,y])) b:=λ b hb=>Iv (hf b hb) (Nat.ne_of_lt (lt b hb));have I1:=Inv.turnedL (t':=s.toks) (h':=h') [z,TI,TO,i1,i2] I0 f0 (λ b o hb q=>by
      rcases Heap.get?_push_cases (show (s.heap.push { cls:= .type "tuple",data:= .seq #[u,u2] }).get? b=some o from q) with ⟨q1,q2⟩ | q
      · rw [q1,q2];exact hT
      · exact hk b o (λ e=>hb (by simp [e])) (λ e=>hb (by simp [e])) (λ e=>hb (by simp [e])) (λ e=>hb (by simp [e])) q)
    refine ⟨.ref s.heap.objs.size,rfl,wpAny_letOwnedTupleGo_zip (s:={ s with heap:=h' }) hz' λ h3 hz3 sb=> ?_⟩;refine ⟨.ref s.heap.objs.size,_,Inv.turnedL (t':=s.toks) (h':=h3) [z,TI,TO,i1,i2] I1 f0 (λ b o hb q=>(sb.2 b λ e=>hb (by simp [e])).trans q),rfl,
      ⟨_,x,y,I.fresh,rfl,rfl,λ l hl=>by rw [GH I hl hq1];exact hx,λ l hl=>by rw [GH I hl hq2];exact hy⟩,
      ⟨hz3,(sb.2 TI D.TIz).trans (hk TI _ D.TIz D.TITO D.TIi1 D.TIi2 st.hTI),⟨u,u2,(sb.2 TO D.TOz).trans hTO'⟩,Ay h1' λ o q=>(sb.2 i1 D.i1z).trans q,Ay h2' λ o q=>(sb.2 i2 D.i2z).trans q⟩,λ b hb=>(f0 b hb).1⟩
  done:=by
    intro X hP hw hK hc i pins s σ H E I hf st hg;subst hP hw hK;obtain ⟨xs,ys,hq1,hq2,hx⟩:=hg;obtain ⟨its,rv,p1⟩:=BF I hq1;obtain ⟨its2,rv2,p2⟩:=BF I hq2;have hl:=rv.length;have hl2:=rv2.length;have hT0:s.TypeIs (.ref z) "zip":=⟨_,st.hz,rfl⟩;unfold pyNext;refine wpAny_bind (wpAny_attempt (wpAny_callSpecial?_slot (name:=Str.ofString "__next__") hT0 F.slot_zip_next (wpAny_call_entry F.slot_zip_next hT0 F.entry_zip_next
      (K1 (I.ok.hd hc) D st p1 p2 (hx.elim (λ q=> .inl (by simp;omega)) λ q=> .inr (by simp;omega)) λ h' e eb he=> ?_) (F.args_zip_next_1 _))))
    obtain ⟨oe,eo,ce⟩:=he;refine wpAny_bind (wpAny_isInstance (T:="StopIteration") (b:=true) ⟨oe,eo,ce⟩ isSubtype_stop (wpAny_pure ?_));exact ⟨rfl,I.turnedL (t':=s.toks) [z,TI,TO,i1,i2] hf λ b o hb q=>eb b o (λ e=>hb (by simp [e])) (λ e=>hb (by simp [e])) (λ e=>hb (by simp [e])) (λ e=>hb (by simp [e])) q⟩
  self:=λ _ _ _ _ _ st h=>wpAny_pyIter_zip st.hz h
section
variable {X:Cx} {elts:List Expr} {k:Nat} {tpos:Pos} {K:PySem.W.Frag}
def iZs (K:PySem.W.Frag) (ta:TA):TI:=λ σ H R=>ta σ H λ vs H1=>∃ t1 t2 a b,vs=[.ref a, .ref b]/\(∃ xs,SqS t1 K H1 a xs)/\(∃ ys,SqS t2 K H1 b ys)/\R (Izs t1 t2 K a b) H1
theorem PN {l m:Expr} {ta:TA} {p pos:Pos} (hg:Gl X "zip") (hm:X.mg "zip"=none) (ha:PA X [l,m] ta) (hK:X.K=K:=by rfl) (hs:starEach [l,m] X.env=[(false,eval l X.env),(false,eval m X.env)]:=by rfl) (hs2:starEach [m] X.env=[(false,eval m X.env)]:=by rfl):
    PI X (.Tuple elts k tpos) (.Call (.Name "zip" p) [l,m] [] pos) (iZs K ta):=by
  subst hK;intro pins s σ H R I h;refine Call_ (Cb I hg hm LC (PyProof.Rows.callWith_type1 (thn (ha pos pins s σ H _ I h) λ us s1 ⟨vs,H1,I1,r1,q1⟩=> ?_) (by rw [hs,hs2]) (by rw [hs2];rfl)));obtain ⟨t1,t2,a,b,e,⟨xs,hq⟩,⟨ys,hq2⟩,q⟩:=q1;subst e;cases r1 with
  | cons r rr=>
    cases rr with
    | cons r' rr=>
    cases rr;cases r;cases r';obtain ⟨its,rv,pl⟩:=BF I1 hq;obtain ⟨its2,rv2,pl2⟩:=BF I1 hq2;obtain ⟨oa,_,ea,_⟩:=De pl;obtain ⟨ob,_,eb,_⟩:=De pl2;refine JX pl pl2 λ h' st hk=> ?_;refine wpAny_pyIter_zip st.hz ?_;have I2:=I1.kept (t':=s1.toks) hk;refine ⟨s1.heap.objs.size+4,_,_,_,H1,rfl,I2,MA t1 t2 a b _ _ _ _ _ (PySem.W.ktu_apart s1.heap.objs.size a b (Heap.lt_size ea) (Heap.lt_size eb)),st,λ c hc=> ?_,q⟩;have hb':s1.heap.objs.size<=c:=by
      simp only [List.mem_cons,List.not_mem_nil,or_false] at hc;rcases hc with q | q | q | q | q <;> rw [q] <;> first | exact Nat.le_refl _ | exact Nat.le_add_right _ _
    exact I1.fpOk hb' (I1.hok.fresh hb')
end
section
variable {X:Cx} {K:PySem.W.Frag}
theorem AJ:bootBuiltins "list"=some (.type "list"):=by decide +kernel
theorem B4:bootBuiltins "tuple"=some (.type "tuple"):=by decide +kernel
theorem Ka:bootBuiltins "min"=some (.builtin "min"):=by decide +kernel
theorem Gn:bootBuiltins "max"=some (.builtin "max"):=by decide +kernel
theorem GE:bootBuiltins "sorted"=some (.builtin "sorted"):=by decide +kernel
def LO (K:PySem.W.Frag):List V->Hp->VK->Prop:=λ xs H Q=>∃ (x:V) (p:Addr) (ns:List String) (t:Value) (b:Bool),xs=[x, .ref p]/\H p=some (.tup (ns.map V.ty))/\TyOf K H x t/\PySem.W.kitAny K t (ns.map Value.type)=some b/\Q (.bl b) H
theorem Jo:∀ {ns:List String} {us:List Value},Vals (ns.map V.ty) us->us=ns.map Value.type
  | [],us,r=>by cases r;rfl
  | n::ns,us,r=>by
    cases r with
    | cons r1 r2=>
      cases r1;rw [Jo r2];rfl
theorem G1 (hK:X.K=K:=by rfl):AV X (.builtin "isinstance") (LO K):=by
  subst hK;intro pins s σ H xs us Q I r h;obtain ⟨x,p,ns,t,b,rfl,hp,ty,e,q⟩:=h;obtain ⟨u,c,rfl,rx,rc⟩:=Jv r;cases rc;obtain ⟨_,its,rt,ot,e1,e2,nt,e3⟩:=(show ObjOk X.prog X.w H s.heap p (.tup (ns.map V.ty)) from I.hok p _ hp);have ei:=Jo rt;subst ei;have htp:s.heap.get? p=some ⟨.type "tuple",ot.dict, .seq (ns.map Value.type).toArray nt,ot.slots⟩:=by
    rw [e1];obtain ⟨c,d,da,sl⟩:=ot;simp only at e2 e3;rw [e2,e3]
  have fin:∀ tk,EP X pins σ Q (.bool b) { s with toks:=tk }:=λ tk=>⟨.bl b,H,I.tok tk,rfl,q⟩;cases ty with
  | non=>cases (show u=Value.none from rx);exact PySem.W.kia_tup PySem.W.kitx_none I.kIn True.intro htp e (λ z=>nomatch z) fin
  | bl y=>cases (show u=Value.bool y from rx);exact PySem.W.kia_tup PySem.W.kitx_bool I.kIn True.intro htp e (λ z=>nomatch z) fin
  | int i=>obtain ⟨t,q⟩:=(show ∃ t,u=Value.int i t from rx);cases q;exact PySem.W.kia_tup PySem.W.kitx_int I.kIn True.intro htp e (λ z=>nomatch z) fin
  | str y=>obtain ⟨t,q⟩:=(show ∃ t,u=Value.str y t from rx);cases q;exact PySem.W.kia_tup PySem.W.kitx_str I.kIn True.intro htp e (λ z=>nomatch z) fin
  | flt y=>obtain ⟨t,q⟩:=(show ∃ t,u=Value.float y t from rx);cases q;exact PySem.W.kia_tup PySem.W.kitx_float I.kIn True.intro htp e (λ z=>nomatch z) fin
  | @lst a xs ea=>
    cases (show u=Value.ref a from rx);obtain ⟨_,_,n,_,h1⟩:=(show ObjOk X.prog X.w H s.heap a (.lst xs) from I.hok a _ ea);exact PySem.W.kia_tup PySem.W.kitx_list I.kIn ⟨_,h1,rfl⟩ htp e (λ z=>nomatch z) fin
  | @frz a ob xs ea=>
    cases (show u=Value.ref a from rx);obtain ⟨_,_,_,n,_,h1⟩:=(show ObjOk X.prog X.w H s.heap a (.frz ob (.lst xs)) from I.hok a _ ea);exact PySem.W.kia_tup PySem.W.kitx_list I.kIn ⟨_,h1,rfl⟩ htp e (λ z=>nomatch z) fin
  | @tup a xs ea=>
    cases (show u=Value.ref a from rx);obtain ⟨_,_,_,p⟩:=(show ObjOk X.prog X.w H s.heap a (.tup xs) from I.hok a _ ea);obtain ⟨o,h1,h2,_⟩:=p;exact PySem.W.kia_tup PySem.W.kitx_tuple I.kIn ⟨o,h1,h2⟩ htp e (λ z=>nomatch z) fin
  | @dK a kvs ea=>
    cases (show u=Value.ref a from rx);obtain ⟨_,_,vs,_,p⟩:=(show ObjOk X.prog X.w H s.heap a (.dK kvs) from I.hok a _ ea);obtain ⟨o,es,ep,h1,h2,_⟩:=p;exact PySem.W.kia_tup PySem.W.kitx_dict I.kIn ⟨o,h1,h2.1⟩ htp e (λ z=>nomatch z) fin
  | @dT a kvs ea=>
    cases (show u=Value.ref a from rx);obtain ⟨_,_,xs,_,o,es,ep,h1,h2,_⟩:=(show ObjOk X.prog X.w H s.heap a (.dT kvs) from I.hok a _ ea);exact PySem.W.kia_tup PySem.W.kitx_dict I.kIn ⟨o,h1,h2.1⟩ htp e (λ z=>nomatch z) fin
  | @ins a C dx fs ea cl ha hn htk hm=>
    cases (show u=Value.ref a from rx);obtain ⟨mA,O,_⟩:=DN I.hok ea;obtain ⟨od,J,_⟩:=O.look;exact PySem.W.kia_tup (PySem.W.kitx_own (cl.get _) cl.hd ha hn htk hm) I.kIn J htp e (λ z=>nomatch z) fin
theorem Iz {es:List Expr} {k:Nat} {t:TGs} {n:Nat} {pos:Pos} (hc:X.calm=true) (h:PGs X es t) (hK:X.K=K:=by rfl)
    (hn:(assignEach es X.env).length=n:=by rfl) (hst:(assignEach es X.env).findIdx? (·.1)=none:=by rfl):PG X (.Tuple es k pos) (FG K n t):=by
  subst hK;exact KS hc h hn hst
variable {scope:Scope} {fr:List (Str × Nat)}
theorem Jf {x y:Str} {px py pt:Pos} {k:Nat} (h:CZ X.env.scope X.N scope [x,y] fr=true) (hc:X.calm=true) (C:Addr) (ex:List Addr) (s:Shared) (H:Hp) (hK:X.K=K:=by rfl):
    PG (AG X scope [x,y] fr C ex s H) (.Tuple [.Name x px, .Name y py] k pt) (FG K 2 (BB (AB 0) (BB (AB 1) GJ))):=by
  subst hK;exact KS (X:=AG X scope [x,y] fr C ex s H) hc (Bq (Fc h rfl C ex s H) (Bq (Fc h rfl C ex s H) EY))
theorem HV {elt iter:Expr} {x y:Str} {px py pt:Pos} {k:Nat} {ifs:List Expr} {pos:Pos} {wi:TI} {tc:TT} {te:TE} (hi:PI X (.Tuple [.Name x px, .Name y py] k pt) iter wi)
    (ht:∀ C ex s H,PTs (AG X scope [x,y] (Cm X.N scope) C ex s H) ifs tc) (he:∀ C ex s H,PE (AG X scope [x,y] (Cm X.N scope) C ex s H) elt te) (hK:X.K=K:=by rfl)
    (hb:CZ X.env.scope X.N scope [x,y] (Cm X.N scope)=true:=by with_unfolding_all rfl) (hc:X.calm=true:=by rfl)
    (hs:∀ x,foldedSetIterable iter X.env x=pure x:=by intro _;rfl):PE X (.ListComp elt [⟨.Tuple [.Name x px, .Name y py] k pt,iter,ifs,0⟩] scope pos) (Du wi [x,y] (Cm X.N scope) (FG K 2 (BB (AB 0) (BB (AB 1) GJ))) tc te):=
  GO hc (.of hb) hi (λ C ex s H=>Jf hb hc C ex s H hK) ht he hs
theorem Hq {i:Nat} {v x y:Str} {pv px py pt spos:Pos} {k:Nat} {elt iter:Expr} {ifs:List Expr} {pos:Pos} {wi:TI} {tc:TT} {te:TE} (hN:X.N.Nodup) (hix:X.N[i]?=some v) (hx:Loc X.env.scope v) (hi:PI X (.Tuple [.Name x px, .Name y py] k pt) iter wi)
    (ht:∀ C ex s H,PTs (AG X scope [x,y] (Cm X.N scope) C ex s H) ifs tc) (he:∀ C ex s H,PE (AG X scope [x,y] (Cm X.N scope) C ex s H) elt te) (hK:X.K=K:=by rfl)
    (hb:CZ X.env.scope X.N scope [x,y] (Cm X.N scope)=true:=by with_unfolding_all rfl) (hc:X.calm=true:=by rfl)
    (hsw:swapsWith (.ListComp elt [⟨.Tuple [.Name x px, .Name y py] k pt,iter,ifs,0⟩] scope pos) (some (.Name v pv)) spos.line X.env=pure true:=by rfl)
    (hf:X.fn v=true\/X.env.scope.names.lookup v=some .local:=by first | exact .inl rfl | exact .inr rfl | assumption)
    (hs:∀ x,foldedSetIterable iter X.env x=pure x:=by intro _;rfl):
    PS X (.Assign [.Name v pv] (.ListComp elt [⟨.Tuple [.Name x px, .Name y py] k pt,iter,ifs,0⟩] scope pos) spos) (J4 (Du wi [x,y] (Cm X.N scope) (FG K 2 (BB (AB 0) (BB (AB 1) GJ))) tc te) (AB i)):=
  IN hN hix hx hc (.of hb) hi (λ C ex s H=>Jf hb hc C ex s H hK) ht he hsw hf hs
end
section
variable {K:PySem.W.Frag} {D:Addr} {σ0:St} {tc:TT} {te:TE} {Q:VK} {H:Hp}
theorem L3 {t1 t2:Bool} {a b:Addr} {xs zs:List V} (hlen:xs.length=zs.length) (Pv:Nat->List V->Hp->Prop) (h0:Pv 0 [] (upd H D (.lst [])))
    (hl:∀ i ys H,i<=xs.length->Pv i ys H->SqS t1 K H a xs/\SqS t2 K H b zs)
    (hs:∀ i x z ys H p,xs[i]?=some x->zs[i]?=some z->Pv i ys H->H p=none->Kp σ0 ((σ0.set 0 (some x)).set 1 (some z))/\tc ((σ0.set 0 (some x)).set 1 (some z)) (upd H p (.tup [x,z])) λ b H3=>
      if b=true then te ((σ0.set 0 (some x)).set 1 (some z)) H3 λ y H4=>H4 D=some (.lst ys)/\ys.length<sizeLine/\Pv (i+1) (ys++[y]) (upd H4 D (.lst (ys++[y]))) else Pv (i+1) ys H3)
    (hd:∀ ys H,Pv xs.length ys H->Q (.ref D) H):
    Dj (Izs t1 t2 K a b) σ0 (FG K 2 (BB (AB 0) (BB (AB 1) GJ))) tc te Q H D:=by
  refine ⟨λ i m ys H=>m=xs.length - i/\i<=xs.length/\Pv i ys H,⟨_,rfl,Nat.zero_le _,h0⟩,?_⟩;rintro i m ys H ⟨rfl,hi,p⟩;obtain ⟨q1,q2⟩:=hl i ys H hi p;by_cases hlt:i<xs.length
  · refine .inr ⟨⟨xs,zs,xs[i],zs[i]'(by omega),q1,q2,by simp [hlt],by simp⟩,Pv (i+1),λ ys' H' p'=>⟨xs.length - (i+1),by omega,rfl,hlt,p'⟩,λ x H' y=> ?_⟩;obtain ⟨pp,v,z,hp,rfl,rfl,hv,hz⟩:=y;exact ⟨pp,_,rfl,SqT.of Ad,rfl,_,_,rfl,_,_,rfl,rfl,hs i v z ys H pp (hv xs q1) (hz zs q2) p hp⟩
  · have e:i=xs.length:=by omega
    subst e;exact .inl ⟨⟨xs,zs,q1,q2, .inl (Nat.le_refl _)⟩,hd ys H p⟩
end
inductive Dt where
  | non | bl (b:Bool) | int (i:Int) | str (z:Str) | lst (xs:List Dt) | tup (xs:List Dt)
inductive Rp (H:Hp) (F:Addr->Prop):Nat->V->Dt->Prop where
  | non {n:Nat}:Rp H F n .non .non
  | bl {n:Nat} (b:Bool):Rp H F n (.bl b) (.bl b)
  | int {n:Nat} (i:Int):Rp H F n (.int i) (.int i)
  | str {n:Nat} (z:Str):Rp H F n (.str z) (.str z)
  | lst {n:Nat} {a:Addr} {vs:List V} {ds:List Dt} (h:H a=some (.lst vs)) (f:F a) (b:vs.length<=100000) (l:vs.length=ds.length) (e:∀ (i:Nat) (v:V) (d:Dt),vs[i]?=some v->ds[i]?=some d->Rp H F n v d):Rp H F (n+1) (.ref a) (.lst ds)
  | tup {n:Nat} {a:Addr} {vs:List V} {ds:List Dt} (h:H a=some (.tup vs)) (b:vs.length<=100000) (l:vs.length=ds.length) (e:∀ (i:Nat) (v:V) (d:Dt),vs[i]?=some v->ds[i]?=some d->Rp H F n v d):Rp H F (n+1) (.ref a) (.tup ds)
theorem Rp.mono {H H':Hp} {F F':Addr->Prop} {n:Nat} {v:V} {d:Dt} (r:Rp H F n v d) (k:∀ a o,H a=some o->(∀ xs,o= .lst xs->F a)->H' a=some o) (f:∀ a,F a->F' a):Rp H' F' n v d:=by
  induction r with
  | non=>exact .non
  | bl b=>exact .bl b
  | int i=>exact .int i
  | str z=>exact .str z
  | lst h p b l e ih=>exact .lst (k _ _ h λ _ _=>p) (f _ p) b l λ i v d h1 h2=>ih i v d h1 h2
  | tup h b l e ih=>exact .tup (k _ _ h λ xs q=>by cases q) b l λ i v d h1 h2=>ih i v d h1 h2
theorem Rp.same {H H':Hp} {F:Addr->Prop} {n:Nat} {v:V} {d:Dt} (r:Rp H F n v d) (s:Same H H'):Rp H' F n v d:=r.mono (λ a o h _=>s a o h) λ _ h=>h
theorem Rp.imp {H:Hp} {F F':Addr->Prop} {n:Nat} {v:V} {d:Dt} (r:Rp H F n v d) (f:∀ a,F a->F' a):Rp H F' n v d:=r.mono (λ a o h _=>h) f
abbrev FT:Addr->Prop:=λ _=>True
abbrev FN (H:Hp):Addr->Prop:=λ a=>H a=none
def Np (ns:List Int):Dt:= .lst (ns.map .int)
theorem Jk {H:Hp} {F:Addr->Prop} {n:Nat} {v:V} {ns:List Int} (r:Rp H F n v (Np ns)):∃ a,v= .ref a/\H a=some (.lst (ns.map V.int))/\F a:=by
  unfold Np at r;cases r with
  | @lst n a vs _ h f b l e=>
    refine ⟨a,rfl,?_,f⟩;rw [h];congr 2;refine List.ext_getElem (by simpa using l) λ i h1 h2=> ?_;have h2':i<ns.length:=by simpa using h2
    have:=e i vs[i] (.int ns[i]) (by simp [h1]) (by simp [h2']);cases hv:vs[i] <;> rw [hv] at this <;> cases this;simp
section
variable {t u:TS} {D:Ends} {σ:St} {H:Hp} {te ta tb tk:TE} {tt tu:TT} {g:TG} {Q:VK} {QT:Bool->Hp->Prop} {QA:List V->Hp->Prop} {i:Nat} {v x y:V} {r:R2} {tr:TA} {K:PySem.W.Frag}
theorem Mf (h:D.nx σ H):LL D σ H:=h
theorem Oc (h:te σ H λ x H1=>g x σ H1 D.nx):J4 te g D σ H:=h
theorem Mu {QS:St->Hp->Prop} (h:QS (σ.set i (some v)) H):AB i v σ H QS:=h
theorem Oo (e:σ[i]?=some (some v)) (h:Q v H):LU i σ H Q:=⟨v,e,h⟩
theorem Q6 (h:Q v H):tC v σ H Q:=h
theorem Pg (h:ta σ H λ x H1=>tb σ H1 λ y H2=>r x y H2 Q):tOp r ta tb σ H Q:=h
theorem PD {ru:V->Hp->VK->Prop} (h:ta σ H λ x H1=>ru x H1 Q):tUn ru ta σ H Q:=h
theorem Ak {C:Int->Int->Prop} {gg:Int->Int->V} {a b:Int} (c:C a b) (h:Q (gg a b) H):rI C gg (.int a) (.int b) H Q:=⟨a,b,rfl,rfl,c,h⟩
theorem Oz {gg:Int->Int->V} {a b:Int} (h:Q (gg a b) H):rI0 gg (.int a) (.int b) H Q:=⟨a,b,rfl,rfl,h⟩
theorem OU {gg:Int->V} {a:Int} (h:Q (gg a) H):rU gg (.int a) H Q:=⟨a,rfl,h⟩
theorem KL {a b:Int} (h:Q (.bl (decide (a=b))) H):rEq (.int a) (.int b) H Q:=⟨rfl,by rw [show decide (V.int a=V.int b)=decide (a=b) by rw [Bool.eq_iff_iff];simp];exact h⟩
theorem OL {a b:Int} (h:Q (.bl (!decide (a=b))) H):rNe (.int a) (.int b) H Q:=⟨rfl,by rw [show decide (V.int a=V.int b)=decide (a=b) by rw [Bool.eq_iff_iff];simp];exact h⟩
theorem N4 {a b:Str} (h:Q (.bl (decide (a=b))) H):rEq (.str a) (.str b) H Q:=⟨rfl,by rw [show decide (V.str a=V.str b)=decide (a=b) by rw [Bool.eq_iff_iff];simp];exact h⟩
theorem N7 {a b:Bool} (h:Q (.bl (decide (a=b))) H):rEq (.bl a) (.bl b) H Q:=⟨rfl,by rw [show decide (V.bl a=V.bl b)=decide (a=b) by rw [Bool.eq_iff_iff];simp];exact h⟩
theorem OB {a b:Bool} (h:Q (.bl (!decide (a=b))) H):rNe (.bl a) (.bl b) H Q:=⟨rfl,by rw [show decide (V.bl a=V.bl b)=decide (a=b) by rw [Bool.eq_iff_iff];simp];exact h⟩
theorem NF (h:tt σ H λ c H1=>QT (!c) H1):Po tt σ H QT:=h
theorem Ms (h:te σ H λ x H'=>∃ k,x= .bl k/\QT k H'):Nq te σ H QT:=h
theorem O4 (h:te σ H λ x H'=>∃ k,x= .bl k/\QT k H'):tB te σ H QT:=h
theorem Pr {b:Bool} {R:Bool->Prop} (h:R b):∃ k,V.bl b= .bl k/\R k:=⟨b,rfl,h⟩
theorem PK (h:tt σ H λ c H1=>if c=true then QT true H1 else tu σ H1 QT):tOr tt tu σ H QT:=h
theorem Mt (h:ta σ H λ x H1=>∃ c,x= .bl c/\if c=true then tb σ H1 Q else Q (.bl false) H1):NA ta tb σ H Q:=h
theorem M6 (h:ta σ H λ x H1=>∃ c,x= .bl c/\Q (.bl (!c)) H1):Nu ta σ H Q:=h
theorem OH (h:tt σ H λ b H1=>if b=true then t D σ H1 else u D σ H1):OF tt t u D σ H:=h
theorem Pm (h:tt σ H λ c H1=>if c=true then ta σ H1 Q else tb σ H1 Q):tIf tt ta tb σ H Q:=h
theorem NU (h:te σ H D.rt):OR te D σ H:=h
theorem Mn (h:te σ H λ _ H1=>D.nx σ H1):LM te D σ H:=h
theorem Og (h:QA [] H):Kg σ H QA:=h
theorem M0 (h:te σ H λ x H1=>tr σ H1 λ xs H2=>QA (x::xs) H2):HZ te tr σ H QA:=h
theorem N2 (h:tr σ H λ xs H1=>xs.length<=sizeLine/\∀ p,H1 p=none->Q (.ref p) (upd H1 p (.lst xs))):Pa tr σ H Q:=h
theorem Ow (h:tr σ H λ xs H1=>xs.length<=sizeLine/\∀ p,H1 p=none->Q (.ref p) (upd H1 p (.tup xs))):Pp tr σ H Q:=h
theorem O1 {rr:List V->Hp->VK->Prop} (h:tr σ H λ vs H1=>rr vs H1 Q):tCB rr tr σ H Q:=h
theorem L1 {sp:Sp} {E:XK} (h:tr σ H λ vs H1=>sp vs H1 Q E):Jy sp [] E tr σ H Q:=by
  unfold Jy;simpa using h
theorem Pw {rs:V->Option Int->Option Int->Hp->VK->Prop} {tl th:TO} (h:te σ H λ x H1=>tl σ H1 λ l H2=>th σ H2 λ u H3=>rs x l u H3 Q):tSl rs te tl th σ H Q:=h
theorem M5 {QO:Option Int->Hp->Prop} (h:te σ H λ x H1=>∃ i,x= .int i/\QO (some i) H1):Nw te σ H QO:=h
theorem J5 {QO:Option Int->Hp->Prop} (h:QO none H):Jr σ H QO:=h
theorem OI {a:Int} {R:Int->Prop} (h:R a):∃ k,V.int a= .int k/\R k:=⟨a,rfl,h⟩
theorem Gx {p:Addr} {xs:List V} {lo hi:Option Int} (c:SqL K H p xs) (h:∀ q,H q=none->Q (.ref q) (upd H q (.lst (FA xs lo hi)))):ON K (.ref p) lo hi H Q:=⟨p,xs,rfl,c,h⟩
theorem AT {p:Addr} {xs:List V} (c:SqL K H p xs) (h:Q (.int xs.length) H):Mr K [.ref p] H Q:=⟨_,_,rfl, .inl ⟨xs,c,rfl⟩,h⟩
theorem Ju {p:Addr} {xs:List V} (c:SqT K H p xs) (h:Q (.int xs.length) H):Mr K [.ref p] H Q:=⟨_,_,rfl, .inr ⟨xs,c,rfl⟩,h⟩
theorem OO {p:Addr} {ns:List Int} (c:SqL K H p (ns.map V.int)) (h:Q (.int ns.sum) H):O2 K [.ref p] H Q:=⟨p,ns,rfl,c,h⟩
theorem LH {p:Addr} {bs:List Bool} (c:SqL K H p (bs.map V.bl)) (h:Q (.bl (bs.all id)) H):O3 K [.ref p] H Q:=⟨p,bs,rfl,c,h⟩
theorem BD {n:String} {ty:Value} {b:Bool} (c:TyOf K H x ty) (e:PySem.W.kitOne K ty (.type n)=some b) (h:Q (.bl b) H):Kw K [x, .ty n] H Q:=⟨x,n,ty,b,rfl,c,e,h⟩
theorem AX {p:Addr} {xs:List V} {k:Int} (c:SqL K H p xs) (e:atI xs k=some v) (h:Q v H):N3 K (.ref p) (.int k) H Q:=⟨p,xs,k,v,rfl,rfl,c,e,h⟩
theorem AR {p:Addr} {xs:List V} {k:Int} (c:SqT K H p xs) (e:atI xs k=some v) (h:Q v H):NW K (.ref p) (.int k) H Q:=⟨p,xs,k,v,rfl,rfl,c,e,h⟩
theorem OG {xs:List V} {B:Prop} (c:xs.length<=1000) (h:B):xs.length<=sizeLine/\B:=⟨Nat.le_trans c (by decide),h⟩
end
theorem DS {p A B:Prop} [Decidable p] (h1:p->A) (h2:¬ p->B):if decide p=true then A else B:=by
  by_cases h:p
  · rw [if_pos (decide_eq_true h)];exact h1 h
  · rw [if_neg (λ q=>h (of_decide_eq_true q))];exact h2 h
theorem NG {p A B:Prop} [Decidable p] (h1:¬ p->A) (h2:p->B):if (!decide p)=true then A else B:=by
  by_cases h:p
  · rw [decide_eq_true h];exact Io (h2 h)
  · rw [decide_eq_false h];exact Iw (h1 h)
theorem Rk {b:Bool} {A B:Prop} (h1:b=true->A) (h2:b=false->B):if b=true then A else B:=by
  cases b with
  | true=>exact Iw (h1 rfl)
  | false=>exact Io (h2 rfl)
def tyD:Dt->String | .non=>"NoneType" | .bl _=>"bool" | .int _=>"int" | .str _=>"str" | .lst _=>"list" | .tup _=>"tuple"
def BW:Dt->Bool | .lst _=>true | _=>false
def BA:Dt->Bool | .tup _=>true | _=>false
def Qe:Dt->Bool | .bl _=>true | _=>false
theorem Rp.ty {K:PySem.W.Frag} {H:Hp} {F:Addr->Prop} {n:Nat} {v:V} {d:Dt} (r:Rp H F n v d):TyOf K H v (.type (tyD d)):=by
  cases r with
  | non=>exact .non
  | bl b=>exact .bl b
  | int i=>exact .int i
  | str z=>exact .str z
  | lst h _ _ _ _=>exact .lst h
  | tup h _ _ _=>exact .tup h
theorem Kh:CJ "NoneType" "list"=some false/\CJ "bool" "list"=some false/\CJ "int" "list"=some false/\CJ "str" "list"=some false/\CJ "list" "list"=some true/\CJ "tuple" "list"=some false:=by decide +kernel
theorem Ea {K:PySem.W.Frag} (d:Dt):PySem.W.kitOne K (.type (tyD d)) (.type "list")=some (BW d):=by
  obtain ⟨h1,h2,h3,h4,h5,h6⟩:=Kh;cases d with
  | non=>exact kb h1
  | bl _=>exact kb h2
  | int _=>exact kb h3
  | str _=>exact kb h4
  | lst _=>exact kb h5
  | tup _=>exact kb h6
theorem Il:CJ "NoneType" "tuple"=some false/\CJ "bool" "tuple"=some false/\CJ "int" "tuple"=some false/\CJ "str" "tuple"=some false/\CJ "list" "tuple"=some false/\CJ "tuple" "tuple"=some true:=by decide +kernel
theorem KO {K:PySem.W.Frag} (d:Dt):PySem.W.kitOne K (.type (tyD d)) (.type "tuple")=some (BA d):=by
  obtain ⟨h1,h2,h3,h4,h5,h6⟩:=Il;cases d with
  | non=>exact kb h1
  | bl _=>exact kb h2
  | int _=>exact kb h3
  | str _=>exact kb h4
  | lst _=>exact kb h5
  | tup _=>exact kb h6
theorem JY:CJ "NoneType" "bool"=some false/\CJ "bool" "bool"=some true/\CJ "int" "bool"=some false/\CJ "str" "bool"=some false/\CJ "list" "bool"=some false/\CJ "tuple" "bool"=some false:=by decide +kernel
theorem IT {K:PySem.W.Frag} (d:Dt):PySem.W.kitOne K (.type (tyD d)) (.type "bool")=some (Qe d):=by
  obtain ⟨h1,h2,h3,h4,h5,h6⟩:=JY;cases d with
  | non=>exact kb h1
  | bl _=>exact kb h2
  | int _=>exact kb h3
  | str _=>exact kb h4
  | lst _=>exact kb h5
  | tup _=>exact kb h6
theorem FD {K:PySem.W.Frag} {H:Hp} {Q:VK} {x:V} {p:Addr} {ns:List String} {t:Value} {b:Bool} (hp:H p=some (.tup (ns.map V.ty))) (c:TyOf K H x t) (e:PySem.W.kitAny K t (ns.map Value.type)=some b) (h:Q (.bl b) H):LO K [x, .ref p] H Q:=⟨x,p,ns,t,b,rfl,hp,c,e,h⟩
def CK:Dt->List Dt | .lst ds=>ds | .tup ds=>ds | _=>[]
theorem Rp.seq {K:PySem.W.Frag} {H:Hp} {F:Addr->Prop} {n:Nat} {v:V} {d:Dt} (r:Rp H F n v d) (h:(BW d||BA d)=true):
    ∃ m a vs,n=m+1/\v= .ref a/\SqS (BA d) K H a vs/\vs.length=(CK d).length/\vs.length<=100000/\∀ (i:Nat) (x:V) (e:Dt),vs[i]?=some x->(CK d)[i]?=some e->Rp H F m x e:=by
  cases r with
  | @lst m a vs ds q f b l e=>exact ⟨m,a,vs,rfl,rfl,(show SqL K H a vs from SqL.of q),l,b,e⟩
  | @tup m a vs ds q b l e=>exact ⟨m,a,vs,rfl,rfl,(show SqT K H a vs from SqT.of q),l,b,e⟩
  | non=>cases h
  | bl _=>cases h
  | int _=>cases h
  | str _=>cases h
theorem Jq {K:PySem.W.Frag} {H:Hp} {Q:VK} {tp:Bool} {p:Addr} {xs:List V} (c:SqS tp K H p xs) (h:Q (.int xs.length) H):Mr K [.ref p] H Q:=by
  cases tp with
  | false=>exact AT c h
  | true=>exact Ju c h
theorem SqS.same {K:PySem.W.Frag} {H H':Hp} {tp:Bool} {p:Addr} {xs:List V} (c:SqS tp K H p xs) (s:Same H H'):SqS tp K H' p xs:=by
  cases tp with
  | false=>exact (show SqL K H' p xs from s.seq c)
  | true=>
    rcases (show SqT K H p xs from c) with (q | ⟨o,q⟩) | q
    · exact (show SqT K H' p xs from .inl (.inl (s _ _ q)))
    · exact (show SqT K H' p xs from .inl (.inr ⟨o,s _ _ q⟩))
    · exact (show SqT K H' p xs from .inr q)
theorem Ai {H:Hp} {p:Addr} {o:HO} (h:H p=none):Same H (upd H p o):=λ b u e=>by rw [Al (Ao e h)];exact e
theorem Bd {H H':Hp} {D:Addr} {o:HO} (s:Same H H') (h:H D=none):Same H (upd H' D o):=λ b u e=>by rw [Al (Ao e h)];exact s b u e
theorem Kb {v:V} {d:Dt} {H:Hp} {F:Addr->Prop} {n:Nat} (r:Rp H F n v d) (h:(BW d||BA d)=false):NP v v=true:=by
  cases r with
  | non=>rfl
  | bl _=>rfl
  | int _=>rfl
  | str _=>rfl
  | lst _ _ _ _ _=>cases h
  | tup _ _ _ _=>cases h
theorem ML {v u:V} {d:Dt} {H:Hp} {F:Addr->Prop} {n:Nat} (r:Rp H F n v d) (r2:Rp H F n u d) (h:(BW d||BA d)=false):v=u:=by
  cases r with
  | non=>cases r2;rfl
  | bl _=>cases r2;rfl
  | int _=>cases r2;rfl
  | str _=>cases r2;rfl
  | lst _ _ _ _ _=>cases h
  | tup _ _ _ _=>cases h
structure SrcOk (J:It) (g:TG) (σ0:St) (H:Hp) (n:Nat) (st:Nat->St):Prop where
  go:∀ i H',i<n->Same H H'->J.go i H'
  stop:∀ H',Same H H'->J.stop n H'
  yld:∀ i H' x H'' (R:St->Hp->Prop),i<n->Same H H'->J.yld i H' x H''->(∀ H3,Same H' H3->R (st i) H3)->g x σ0 H'' R
  kp:∀ i,i<n->Kp σ0 (st i)
section
variable {J:It} {g:TG} {σ0:St} {H:Hp} {n:Nat} {st:Nat->St} {tc:TT} {te:TE} {Q:VK} {D:Addr}
theorem Rp.off {H:Hp} {F:Addr->Prop} {m:Nat} {v:V} {d:Dt} {D:Addr} {xs:List V} {o:HO} (r:Rp H F m v d) (hD:H D=some (.lst xs)) (hF:¬ F D):Rp (L2.upd H D o) F m v d:=by
  refine r.mono (λ a u e q=> ?_) λ _ h=>h;have n:a≠D:=λ z=>by
    subst z;rw [hD] at e;cases e;exact hF (q _ rfl)
  rw [Al n];exact e
theorem Df {m:Nat} {p:Nat->Bool} {G:Nat->Dt} (S:SrcOk J g σ0 H n st) (hD:H D=none) (hn:n<=100000)
    (ht:∀ i H' (R:Bool->Hp->Prop),i<n->Same H H'->(∀ H3,Same H' H3->R (p i) H3)->tc (st i) H' R)
    (he:∀ i H' (R:VK),i<n->p i=true->Same H H'->(∀ H3 y,Same H' H3->Rp H3 (FN H') m y (G i)->R y H3)->te (st i) H' R)
    (hd:∀ H' ys,Same H H'->H' D=some (.lst ys)->Rp H' (FN H) (m+1) (.ref D) (.lst (((List.range n).filter p).map G))->Q (.ref D) H'):
    Dj J σ0 g tc te Q H D:=by
  refine ⟨λ i k ys H'=>k=n - i/\i<=n/\Same H H'/\H' D=some (.lst ys)/\ys.length=(((List.range i).filter p).map G).length/\∀ (j:Nat) (y:V) (d:Dt),ys[j]?=some y->(((List.range i).filter p).map G)[j]?=some d->Rp H' (λ a=>H a=none/\a≠D) m y d,
    ⟨_,rfl,Nat.zero_le _,Bd (Same.refl _) hD,Ad,rfl,λ j y d q=>by simp at q⟩,?_⟩
  rintro i k ys H1 ⟨rfl,hi,s1,hl,len,el⟩;have bnd:∀ i,(((List.range i).filter p).map G).length<=i:=λ i=>by
    rw [List.length_map];exact Nat.le_trans (List.length_filter_le _ _) (by simp)
  by_cases hlt:i<n
  · refine .inr ⟨S.go i H1 hlt s1,λ ys' H'=>Same H H'/\H' D=some (.lst ys')/\ys'.length=(((List.range (i+1)).filter p).map G).length/\∀ (j:Nat) (y:V) (d:Dt),ys'[j]?=some y->(((List.range (i+1)).filter p).map G)[j]?=some d->Rp H' (λ a=>H a=none/\a≠D) m y d,
      λ ys' H' q=>⟨n - (i+1),by omega,rfl,hlt,q⟩,λ x H2 y=> ?_⟩
    refine S.yld i H1 x H2 _ hlt s1 y λ H3 s3=>⟨S.kp i hlt,?_⟩;refine ht i H3 _ hlt (s1.trans s3) λ H4 s4=> ?_;have hl4:H4 D=some (.lst ys):=s4 _ _ (s3 _ _ hl);have s14:Same H H4:=s1.trans (s3.trans s4);cases hp:p i with
    | false=>
      refine Io ⟨s14,hl4,?_,?_⟩
      · rw [List.range_succ,List.filter_append,List.filter_cons,hp];simpa using len
      · intro j y d h1 h2;have e:((List.range (i+1)).filter p).map G=((List.range i).filter p).map G:=by
          rw [List.range_succ,List.filter_append,List.filter_cons,hp];simp
        rw [e] at h2;exact (el j y d h1 h2).same (s3.trans s4)
    | true=>
      refine Iw ?_;refine he i H4 _ hlt hp s14 λ H5 y s5 ry=> ?_;have hl5:H5 D=some (.lst ys):=s5 _ _ hl4;have e:((List.range (i+1)).filter p).map G=((List.range i).filter p).map G++[G i]:=by
        rw [List.range_succ,List.filter_append,List.filter_cons,hp];simp
      refine ⟨hl5,?_,?_,Ad,?_,?_⟩
      · have:=bnd i;exact Nat.lt_of_le_of_lt (by omega:ys.length<=100000) (by decide)
      · exact Bd (s14.trans s5) hD
      · rw [e,List.length_append,List.length_append,len];rfl
      · intro j z d h1 h2;rw [e] at h2;have nF:¬ (H D=none/\D≠D):=λ q=>q.2 rfl;by_cases hj:j<ys.length
        · rw [List.getElem?_append_left hj] at h1;rw [List.getElem?_append_left (by omega)] at h2;exact ((el j z d h1 h2).same (s3.trans (s4.trans s5))).off hl5 nF
        · have ej:j=ys.length:=by
            have:=(List.getElem?_eq_some_iff.mp h1).1;rw [List.length_append] at this;have:([y]:List V).length=1:=rfl;omega
          subst ej;rw [List.getElem?_append_right (Nat.le_refl _),Nat.sub_self] at h1;rw [len,List.getElem?_append_right (Nat.le_refl _),Nat.sub_self] at h2;cases h1;cases h2;refine (ry.imp (F':=λ a=>H a=none/\a≠D) λ a ha=>⟨s14.free ha,λ q=> ?_⟩).off hl5 nF;subst q;rw [show H4 a=none from ha] at hl4;cases hl4
  · have e:i=n:=by omega
    subst e;refine .inl ⟨S.stop H1 s1,hd H1 ys s1 hl (.lst hl hD ?_ len λ j y d h1 h2=>(el j y d h1 h2).imp λ a q=>q.1)⟩;have:=bnd i;omega
theorem Cq {m:Nat} {G:Nat->Dt} (S:SrcOk J g σ0 H n st) (hD:H D=none) (hn:n<=100000)
    (he:∀ i H' (R:VK),i<n->Same H H'->(∀ H3 y,Same H' H3->Rp H3 (FN H') m y (G i)->R y H3)->te (st i) H' R)
    (hd:∀ H' ys,Same H H'->H' D=some (.lst ys)->Rp H' (FN H) (m+1) (.ref D) (.lst ((List.range n).map G))->Q (.ref D) H'):
    Dj J σ0 g K2 te Q H D:=by
  refine Df (p:=λ _=>true) (m:=m) (G:=G) S hD hn (λ i H' R _ _ k=>k H' (Same.refl _)) (λ i H' R hi _ s k=>he i H' R hi s k) λ H' ys s hl r=>hd H' ys s hl ?_;have e:(List.range n).filter (λ _=>true)=List.range n:=by simp
  rw [e] at r;exact r
variable {K:PySem.W.Frag} {a b:Addr} {xs zs:List V}
theorem Cj (h:SqL K H a xs) (h0:σ0[0]?=some none):SrcOk (Itl K a) (AB 0) σ0 H xs.length (λ i=>σ0.set 0 (some (xs.getD i .non))) where
  go:=λ i H' hi s=>⟨xs,xs[i],s.seq h,by simp [hi]⟩
  stop:=λ H' s=>⟨xs,s.seq h,Nat.le_refl _⟩
  yld:=λ i H' x H'' R hi s y k=>by
    obtain ⟨e,hv⟩:=y;subst e;have e:x=xs.getD i .non:=by
      have:=hv xs (s.seq h);rw [List.getD_eq_getElem?_getD,this];rfl
    subst e;exact k _ (Same.refl _)
  kp:=λ i hi=>(Kp.refl _).set h0
theorem Mm (h:SqT K H a xs) (h0:σ0[0]?=some none):SrcOk (Itt K a) (AB 0) σ0 H xs.length (λ i=>σ0.set 0 (some (xs.getD i .non))) where
  go:=λ i H' hi s=>⟨xs,xs[i],(SqS.same (tp:=true) h s),by simp [hi]⟩
  stop:=λ H' s=>⟨xs,(SqS.same (tp:=true) h s),Nat.le_refl _⟩
  yld:=λ i H' x H'' R hi s y k=>by
    obtain ⟨e,hv⟩:=y;subst e;have e:x=xs.getD i .non:=by
      have:=hv xs (SqS.same (tp:=true) h s);rw [List.getD_eq_getElem?_getD,this];rfl
    subst e;exact k _ (Same.refl _)
  kp:=λ i hi=>(Kp.refl _).set h0
theorem F7 {lo:Int} {n:Nat} (h0:σ0[0]?=some none):SrcOk (Itr lo n) (AB 0) σ0 H n (λ i=>σ0.set 0 (some (.int (lo+i)))) where
  go:=λ i H' hi s=>hi
  stop:=λ H' s=>Nat.le_refl _
  yld:=λ i H' x H'' R hi s y k=>by
    obtain ⟨e,hv⟩:=y;subst e hv;exact k _ (Same.refl _)
  kp:=λ i hi=>(Kp.refl _).set h0
theorem Hk (h:SqL K H a xs) (h0:σ0[0]?=some none) (h1:σ0[1]?=some none):SrcOk (Ite K a) (FG K 2 (BB (AB 0) (BB (AB 1) GJ))) σ0 H xs.length (λ i=>(σ0.set 0 (some (.int i))).set 1 (some (xs.getD i .non))) where
  go:=λ i H' hi s=>⟨xs,xs[i],s.seq h,by simp [hi]⟩
  stop:=λ H' s=>⟨xs,s.seq h,Nat.le_refl _⟩
  yld:=λ i H' x H'' R hi s y k=>by
    obtain ⟨p,v,hp,rfl,rfl,hv⟩:=y;have e:v=xs.getD i .non:=by
      have:=hv xs (s.seq h);rw [List.getD_eq_getElem?_getD,this];rfl
    subst e;exact ⟨p,_,rfl,SqT.of Ad,rfl,_,_,rfl,_,_,rfl,rfl,k _ (Ai hp)⟩
  kp:=λ i hi=>((Kp.refl _).set h0).set h1
end
theorem A8 {α β:Type} (f:α->β) (xs:List α) (d:α):(List.range xs.length).map (λ i=>f (xs.getD i d))=xs.map f:=by
  refine List.ext_getElem (by simp) λ i h1 h2=> ?_;have hi:i<xs.length:=by simpa using h2
  simp [List.getD_eq_getElem?_getD,hi]
section
variable {X:Cx} {tg:Expr}
def OT:List V->Hp->VK->Prop:=λ xs H Q=>∃ b:Bool,xs=[.bl b]/\Q (.int (if b=true then 1 else 0)) H
end
theorem On {X:Cx}:AV X (.type "int") OT:=by
  intro pins s σ H xs us Q I r h;obtain ⟨b,rfl,q⟩:=h;exact J2 pins s σ H _ us Q I r (.inr ⟨b,rfl,q⟩)
def Nz (K:PySem.W.Frag):R2:=λ x y H Q=>∃ a xs,x= .ref a/\y= .int (-1)/\SqL K H a xs/\∀ p,H p=none->Q (.ref p) (upd H p (.lst xs.reverse))
section
variable {X:Cx} {K:PySem.W.Frag} {e st:Expr} {te ts:TE} {pos p2:Pos}
theorem Od (he:PE X e te) (hst:PE X st ts) (hK:X.K=K:=by rfl):PE X (.Subscript e (.Slice none none (some st) p2) pos) (tOp (Nz K) te ts):=by
  subst hK;intro pins s σ H Q I h;refine Subscript_ (thn (he pins s σ H _ I h) λ v s1 ⟨x,H1,I1,r1,q1⟩=> ?_);refine wpAny_Slice ?_;rw [evalPart_none];refine wpAny_pure (wpAny_pure ?_);rw [evalPart_some];refine thn (hst pins s1 σ H1 _ I1 q1) λ u s2 ⟨y,H2,I2,r2,q2⟩=> ?_;obtain ⟨a,xs,rfl,rfl,hx,q⟩:=q2;obtain ⟨t,rfl⟩:=r2;cases r1;have I3:Inv X pins σ H2 { s2 with heap:=s2.heap.push { cls:= .type "slice",data:= .fields #[.none, .none, .int (-1) t] } }:=I2.kept (t':=s2.toks) λ b ob q=>Heap.get?_push_of_some _ q;obtain ⟨its,r,ht,hz⟩:=I3.list hx;have hlen:=r.length;show wpAny (model X.prog X.w) X.A (subscriptTail e (.Slice none none (some st) p2) (.ref a) (.ref s2.heap.objs.size)) (EP X pins σ Q) X.xe { s2 with heap:=s2.heap.push { cls:= .type "slice",data:= .fields #[.none, .none, .int (-1) t] } };refine tail_any (ops:=[.ref a, .ref s2.heap.objs.size]) ht.isList.typeIs slot_list_getitem.lookup ?_ (by with_unfolding_all rfl);refine wpAny_getItem_list_slice (lo:=none) (hi:=none) (st:=some (-1)) ht.isList (Heap.IsSliceOf.new ..) .none .none (.int (-1) t) (by decide) ?_ (by rw [List.size_toArray] <;> omega);rw [PySem.W.krv_pick];refine ⟨.ref _,_,I3.laid (t':=s2.toks) (o:= .lst xs.reverse) (λ b ob q=>Heap.get?_push_of_some _ q) (Nat.le_refl _) ?_,rfl,q _ (I3.hok.fresh (Nat.le_refl _))⟩;exact ⟨by rw [List.length_reverse];exact hz,_,0,r.reverse,Heap.get?_push_size _ rfl⟩
theorem Oe {p:Addr} {xs:List V} {H:Hp} {Q:VK} (c:SqL K H p xs) (h:∀ q,H q=none->Q (.ref q) (upd H q (.lst xs.reverse))):Nz K (.ref p) (.int (-1)) H Q:=⟨p,xs,rfl,rfl,c,h⟩
end
end L2
namespace MM
theorem snoc_ind {α:Type} {p:List α->Prop} (h0:p []) (h1:∀ l a,p l->p (l++[a])):∀ l,p l:=λ l=>by
  have h:∀ r:List α,p r.reverse:=λ r=>by
    induction r with
    | nil=>exact h0
    | cons a r ih=>rw [List.reverse_cons];exact h1 _ _ ih
  have:=h l.reverse
  rwa [List.reverse_reverse] at this
theorem or_add_and (a:Nat):∀ b:Nat,(a ||| b)+(a &&& b)=a+b:=by
  induction a using Nat.strongRecOn with
  | ind a ih=>
    intro b;by_cases h:a=0
    · subst h;simp
    · have ih':=ih (a / 2) (by omega) (b / 2);have e1:(a ||| b)=2*((a ||| b) / 2)+(a ||| b)%2:=by omega
      have e2:(a &&& b)=2*((a &&& b) / 2)+(a &&& b)%2:=by omega
      have d1:(a ||| b) / 2=a / 2 ||| b / 2:=by simpa using Nat.or_div_two (a:=a) (b:=b)
      have d2:(a &&& b) / 2=a / 2 &&& b / 2:=by simpa using Nat.and_div_two (a:=a) (b:=b)
      have m1:(a ||| b)%2+(a &&& b)%2=a%2+b%2:=by
        have z:∀ x:Nat,x%2=(x.testBit 0).toNat:=λ x=>by rw [Nat.toNat_testBit];simp
        rw [z (a ||| b),z (a &&& b),z a,z b,Nat.testBit_or,Nat.testBit_and];cases a.testBit 0 <;> cases b.testBit 0 <;> rfl
      rw [d1] at e1;rw [d2] at e2;omega
theorem xor_eq (a b:Nat):(a ^^^ b)+(a &&& b)=(a ||| b):=by
  have h1:=or_add_and (a ^^^ b) (a &&& b);have e1:((a ^^^ b) ||| (a &&& b))=(a ||| b):=by
    refine Nat.eq_of_testBit_eq λ i=> ?_;simp only [Nat.testBit_or,Nat.testBit_xor,Nat.testBit_and];cases a.testBit i <;> cases b.testBit i <;> rfl
  have e2:((a ^^^ b) &&& (a &&& b))=0:=by
    refine Nat.eq_of_testBit_eq λ i=> ?_;simp only [Nat.testBit_and,Nat.testBit_xor,Nat.zero_testBit];cases a.testBit i <;> cases b.testBit i <;> rfl
  rw [e1,e2] at h1;omega
def ofB (f:Nat->Bool):Nat->Nat
  | 0=>0
  | w+1=>ofB f w+(f w).toNat*2 ^ w
theorem ofB_lt (f:Nat->Bool):∀ w,ofB f w<2 ^ w
  | 0=>by simp [ofB]
  | w+1=>by
    have:=ofB_lt f w;unfold ofB;rw [Nat.pow_succ];cases f w <;> simp <;> omega
theorem ofB_bit (f:Nat->Bool):∀ w i,(ofB f w).testBit i=(decide (i<w)&&f i)
  | 0,i=>by simp [ofB]
  | w+1,i=>by
    have hl:=ofB_lt f w;unfold ofB;have e:ofB f w+(f w).toNat*2 ^ w=2 ^ w*(f w).toNat+ofB f w:=by rw [Nat.mul_comm];omega
    rw [e,Nat.testBit_two_pow_mul_add _ hl];by_cases h:i<w
    · rw [if_pos h,ofB_bit f w i];simp [h,Nat.lt_succ_of_lt h]
    · rw [if_neg h];by_cases h2:i=w
      · subst h2;cases f i <;> simp
      · have h3:¬ i<w+1:=by omega
        have h4:i - w≠0:=by omega
        have h5:(1:Nat).testBit (i - w)=false:=by
          obtain ⟨d,hd⟩:∃ d,i - w=d+1:=⟨i - w - 1,by omega⟩;rw [hd,Nat.testBit_succ];simp
        cases f w
        · simp [h3]
        · simp only [Bool.toNat_true,h5,h3,decide_false,Bool.false_and]
theorem bit_div (m e:Nat):m / 2 ^ e%2=(m.testBit e).toNat:=by
  rw [Nat.testBit_eq_decide_div_mod_eq];have:m / 2 ^ e%2<2:=Nat.mod_lt _ (by decide);by_cases h:m / 2 ^ e%2=1
  · simp [h]
  · have:m / 2 ^ e%2=0:=by omega
    simp [this]
def mOf (ns:List Nat):Nat:=ns.foldl (λ m n=>m ||| 2 ^ (n - 1)) 0
theorem mOf_snoc (ns:List Nat) (n:Nat):mOf (ns++[n])=mOf ns ||| 2 ^ (n - 1):=by unfold mOf;rw [List.foldl_append];rfl
theorem mOf_bit (ns:List Nat) (i:Nat):(mOf ns).testBit i=ns.any λ n=>decide (n - 1=i):=by
  refine snoc_ind (p:=λ ns=>(mOf ns).testBit i=ns.any λ n=>decide (n - 1=i)) (by simp [mOf]) (λ l a ih=> ?_) ns
  · rw [mOf_snoc,Nat.testBit_or,ih,List.any_append,Nat.testBit_two_pow];simp
def bits (m:Nat):Nat:=if m=0 then 0 else m.log2+1
theorem MQ (m:Nat):m<2 ^ bits m:=by
  unfold bits;split
  · subst_vars;decide
  · exact Nat.lt_log2_self
theorem bits_le {m w:Nat} (h:m<2 ^ w):bits m<=w:=by
  unfold bits;split
  · exact Nat.zero_le _
  · rename_i h0
    exact (Nat.log2_lt h0).mpr h
def nOf (m:Nat):List Nat:=((List.range (bits m)).filter m.testBit).map (· + 1)
theorem nOf_wide {m w:Nat} (h:m<2 ^ w):nOf m=((List.range w).filter m.testBit).map (· + 1):=by
  unfold nOf;have hb:=bits_le h;obtain ⟨d,rfl⟩:∃ d,w=bits m+d:=⟨w - bits m,by omega⟩;congr 1;rw [List.range_add,List.filter_append];have e:((List.range d).map (bits m+ ·)).filter m.testBit=[]:=by
    rw [List.filter_eq_nil_iff];intro x hx;obtain ⟨k,_,rfl⟩:=List.mem_map.mp hx;rw [Nat.testBit_lt_two_pow (Nat.lt_of_lt_of_le (MQ m) (Nat.pow_le_pow_right (by decide) (Nat.le_add_right _ _)))];simp
  rw [e,List.append_nil]
theorem nOf_len {m w:Nat} (h:m<2 ^ w):(nOf m).length<=w:=by
  rw [nOf_wide h,List.length_map];exact Nat.le_trans (List.length_filter_le _ _) (by simp)
theorem Lh (w i:Nat):(2 ^ w - 1).testBit i=decide (i<w):=Nat.testBit_two_pow_sub_one w i
theorem other_bit {m w i:Nat} (hi:i<w):((2 ^ w - 1) ^^^ m).testBit i= !m.testBit i:=by
  rw [Nat.testBit_xor,Lh];simp [hi]
theorem other_lt {m w:Nat} (h:m<2 ^ w):((2 ^ w - 1) ^^^ m)<2 ^ w:=Nat.xor_lt_two_pow (by have:0<2 ^ w:=Nat.two_pow_pos w;omega) h
end MM
namespace L2
open PySem PySem.Spec PyProof.Rows
section
variable {X:Cx}
theorem Nd {x:Str} {i:Int} {pos:Pos} (h:∃ t,X.mg x=some (.int i t)) (hg:Gl X x:=by rfl) (hd:(x == ("__debug__":Str))=false:=by decide):PE X (.Name x pos) (tC (.int i)):=by
  obtain ⟨t,e⟩:=h;exact Jb hg e ⟨t,rfl⟩ hd
theorem Jx {x z:Str} {pos:Pos} (h:∃ t,X.mg x=some (.str z t)) (hg:Gl X x:=by rfl) (hd:(x == ("__debug__":Str))=false:=by decide):PE X (.Name x pos) (tC (.str z)):=by
  obtain ⟨t,e⟩:=h;exact Jb hg e ⟨t,rfl⟩ hd
theorem IK:∀ {xs:List V} {us:List Value},us.length=xs.length->(∀ (j:Nat) (u:Value),us[j]?=some u->∃ x,xs[j]?=some x/\RelV x u)->Vals xs us
  | [],[],_,_=> .nil
  | x::xs,u::us,hl,h=>by
    obtain ⟨y,e,r⟩:=h 0 u rfl;simp only [List.getElem?_cons_zero,Option.some.injEq] at e;subst e;exact .cons r (IK (by simpa using hl) λ j v hv=>by simpa using h (j+1) v (by simpa using hv))
  | [],_::_,hl,_=>by simp at hl
  | _::_,[],hl,_=>by simp at hl
end
section
variable {H:Hp} {Q:VK} {σ:St} {td ty tv:TE} {D:Ends} {a:Addr} {kvs:List (Key × V)}
theorem MJ (h:td σ H λ x H1=>ty σ H1 λ y H2=>∃ a v,x= .ref a/\DGet H2 a y (some v)/\Q v H2):Na td ty σ H Q:=h
theorem NN (h:ty σ H λ y H1=>td σ H1 λ x H2=>∃ a o,x= .ref a/\DGet H2 a y o/\Q (.bl o.isSome) H2):Pj ty td σ H Q:=h
theorem J1 (h:ty σ H λ y H1=>td σ H1 λ x H2=>∃ a o,x= .ref a/\DGet H2 a y o/\Q (.bl (!o.isSome)) H2):Jz ty td σ H Q:=h
theorem MR (h:tv σ H λ v H1=>td σ H1 λ x H2=>ty σ H2 λ y H3=>∃ a H4,x= .ref a/\DPut H3 a y v H4/\D.nx σ H4):Ng td ty tv D σ H:=h
theorem L9 {R:List (V × V)->Hp->Prop} (h:R [] H):DH [] σ H R:=h
theorem Kv {tk tw:TE} {r:List (TE × TE)} {R:List (V × V)->Hp->Prop} (h:tk σ H λ x H1=>tw σ H1 λ y H2=>DH r σ H2 λ ps H3=>R ((x,y)::ps) H3):DH ((tk,tw)::r) σ H R:=h
end
theorem Room.units1 {k:Nat} {A:Around} (r:Room k A):A.units+1<cLine:=by have:=r.un;omega
section
variable {H:Hp} {Q:VK} {σ:St} {K:PySem.W.Frag} {to:TE} {t:TA} {r:V->List V->Hp->VK->Prop} {T:String} {l p q:Addr} {xs ys:List V} {y:V}
theorem OD (h:to σ H λ x H1=>tyV K T x H1/\r x [] H1 Q):Of K T r to σ H Q:=h
theorem Py (h:to σ H λ x H1=>tyV K T x H1/\t σ H1 λ xs H2=>r x xs H2 Q):tBM K T r to t σ H Q:=h
theorem tyL {B:Prop} (c:SqL K H l xs) (h:B):tyV K "list" (.ref l) H/\B:=⟨.inl ⟨rfl,xs,c⟩,h⟩
theorem tyI {B:Prop} {i:Int} (h:B):tyV K "int" (.int i) H/\B:=⟨rfl,h⟩
theorem Ei (c:H l=some (.lst xs)) (b:xs.length<16777216) (h:Q .non (upd H l (.lst (xs++[y])))):rAppend (.ref l) [y] H Q:=⟨l,xs,y,rfl,rfl,c,by rw [sizeLine_eq];exact b,h⟩
theorem GL (c:SqL K H l xs) (d:SqL K H p ys) (b:xs.length+ys.length<=16777216) (h:∀ q,H q=none->Q (.ref q) (upd H q (.lst (xs++ys)))):K9 K (.ref l) (.ref p) H Q:=⟨l,p,xs,ys,rfl,rfl,c,d,by rw [sizeLine_eq];exact b,h⟩
theorem NL {k:Int} (c:H l=some (.lst xs)) (b1:0<=k) (b2:k<=100000) (b3:xs.length<=100) (h:∀ q,H q=none->Q (.ref q) (upd H q (.lst (List.replicate k.toNat xs).flatten))):PJ (.ref l) (.int k) H Q:=
  ⟨l,k,xs,rfl,rfl,c,by omega,by omega,by
    rw [sizeLine_eq];have h1:k.toNat<=100000:=by omega
    exact Nat.le_trans (Nat.mul_le_mul b3 h1) (by decide),h⟩
theorem MF {as bs:List Int} (c:SqL K H l (as.map V.int)) (d:SqL K H p (bs.map V.int)) (h:Q (.bl (decide (as=bs))) H):JE K false (.ref l) (.ref p) H Q:=
  ⟨l,p,_,_,rfl,rfl,c,d,DW as,DW bs,by rw [G5];exact h⟩
theorem MW {as bs:List Int} (c:SqL K H l (as.map V.int)) (d:SqL K H p (bs.map V.int)) (h:Q (.bl (!decide (as=bs))) H):JE K true (.ref l) (.ref p) H Q:=
  ⟨l,p,_,_,rfl,rfl,c,d,DW as,DW bs,by rw [G5];exact h⟩
theorem Gr {z:Addr} (c:SqL K H z xs) (h:∀ q,H q=none->Q (.ref q) (upd H q (.lst xs))):Jc K [.ref z] H Q:=⟨z,xs,rfl, .inl c,h⟩
theorem KM {z:Addr} (c:SqL K H z xs) (h:∀ q,H q=none->Q (.ref q) (upd H q (.tup xs))):Hb K [.ref z] H Q:=⟨z,xs,rfl, .inl ⟨c,h⟩⟩
end
end L2
namespace L2
open PySem
open Sem (wp)
open AutoSeq1 (wpAny_loadPart')
section
variable {prog:Program} {w:World} {A:Around} {E:Value->Shared->Prop} {s:Shared}
theorem HN {T newId:String} {Bn:Builtin} {v:Value} {x:Str} {u:Value} {Q:Value->Shared->Prop} (ft:TypeCalled T newId "object.__init__") (hne:(some newId != some "object.__new__")=true)
    (hct:checkTypeCall T ⟨[v],[(x,u)]⟩=pure ()) (hcn:checkBuiltinCall newId ⟨[.type T,v],[(x,u)]⟩=pure ()) (hok:∀ obj,argsOk "object.__init__" ⟨[obj,v],[(x,u)]⟩) (entryN:entryFor table newId=some Bn)
    (g:wpAny (model prog w) A.in1.in1 (Bn ⟨[.type T,v],[(x,u)]⟩) (λ fin s1=>∃ obj,fin= .done (.ret obj)/\s1.TypeIs obj T/\Q obj s1) E s):wpAny (model prog w) A (call (.type T) [v] [(x,u)]) Q E s:=by
  obtain ⟨c,tl,hmro⟩:=ft.mro;have hmade:=ft.made;have hsub:=ft.sub;refine wpAny_call (codeAny_of_tree ?_);show wpAny _ _ (callAny (.type T) _) _ _ _;refine wpAny_pure ⟨Code.quiet_builtin _ (by decide +kernel),codeAny_builtin F.entry_type_call ?_⟩;rw [Around.under_plain (weight_type_call_type T [v] [(x,u)]) (units_type_call_type T [v] [(x,u)])];have h1:=ft.notType;have h2:=ft.canCreate
  repeat (any_goals (first | assumption | wp_step))
  refine codeAny_call_builtin ft.plain entryN (wpAny_of_eq hcn (wpAny_mono g (λ fin s1 q=> ?_) λ _ _ q=>q));obtain ⟨obj,rfl,hT,q⟩:=q;have hli:=ft.init.lookup;have hbi:=ft.init.bind obj;show wpAny _ _ _ _ _ _
  repeat (any_goals (first | assumption | wp_step))
  refine codeAny_call_builtin ft.init.plain F.entry_object_init (ft.init.check _ _ _ _ _ _ _ _ hT (hok obj) ?_)
  repeat (any_goals (first | assumption | wp_step))
  trace_state
theorem Hu {v:Value} {t:Tok} {Q:Value->Shared->Prop}
    (h:wpAny (model prog w) A (pyIter v) (λ itv s1=>Q (.ref s1.heap.objs.size) { s1 with heap:=s1.heap.push { cls:= .type "enumerate",data:= .fields #[.none, .bool false,itv,rawInt 1, .none, .none] } }) E s):
    wpAny (model prog w) A (Builtin.«enumerate.__new__» ⟨[.type "enumerate",v],[("start", .int 1 t)]⟩) (λ fin s1=>∃ obj,fin= .done (.ret obj)/\Q obj s1) E s:=by
  have hsub:=sub_enumerate;have hit:∀ {R:Value->Shared->Prop},(∀ itv s1,Q (.ref s1.heap.objs.size) { s1 with heap:=s1.heap.push { cls:= .type "enumerate",data:= .fields #[.none, .bool false,itv,rawInt 1, .none, .none] } }->R itv s1)->wpAny (model prog w) A (pyIter v) R E s:=λ k=>wpAny_mono h k λ _ _ q=>q;unfold Builtin.«enumerate.__new__»
  wp_walk
  refine wpAny_stack_any λ st=>wpAny_pure ?_;split
  · rename_i c _ _ _ _ _
    cases (c == Value.type "enumerate")
    · wp_walk using hit
      intro itv s1 q
      wp_walk
      exact ⟨_,rfl,q⟩
    · wp_walk using hit
      intro itv s1 q
      wp_walk
      exact ⟨_,rfl,q⟩
  · wp_walk using hit
    intro itv s1 q
    wp_walk
    exact ⟨_,rfl,q⟩
theorem Im {v:Value} {t:Tok} {Q:Value->Shared->Prop}
    (h:wpAny (model prog w) A.in1.in1 (pyIter v) (λ itv s1=>∃ it,itv= .ref it/\∀ h',IsEnum h' s1.heap.objs.size it 1 .none->(∀ b o,s1.heap.get? b=some o->h'.get? b=some o)->h'.objs.size=s1.heap.objs.size+1->Q (.ref s1.heap.objs.size) { s1 with heap:=h' }) E s):
    wpAny (model prog w) A (call (.type "enumerate") [v] [("start", .int 1 t)]) Q E s:=by
  refine HN F.called_enumerate (by decide) (by kernel_rfl) (by kernel_rfl) (λ obj=>by unfold argsOk;kernel_rfl) F.entry_enumerate_new (Hu (wpAny_mono h (λ itv s1 q=> ?_) λ _ _ q=>q));obtain ⟨it,rfl,q⟩:=q;refine ⟨⟨_,Heap.get?_push_size _ rfl,rfl⟩,q _ (Heap.get?_push_size _ rfl) (λ b o e=>Heap.get?_push_of_some _ e) (Heap.size_push ..)⟩
end
theorem N9 {prog:Program} {w:World} {A:Around} {it:Addr} {fp:List Addr} {n:Nat} {Pv:Nat->Value->Prop} {St:Nat->Heap->Prop} (k:Nat) (D:Draws prog w A it fp n Pv St):
    Draws prog w A it fp (n+k) (λ i v=>∃ j,i=j+k/\Pv j v) (λ i h=>∃ j,i=j+k/\St j h) where
  live:=λ i h ⟨j,_,st⟩=>D.live j h st
  frame:=λ i h h' ⟨j,e,st⟩ q=>⟨j,e,D.frame j h h' st q⟩
  item:=λ i s Q E hi ⟨j,e,st⟩ hQ=>D.item j s Q E (by omega) st λ x h' tk p st' sb=>hQ x h' tk ⟨j,e,p⟩ ⟨j+1,by omega,st'⟩ sb
  done:=λ s Q E ⟨j,e,st⟩ hE=>D.done s Q E (by
    have q:j=n:=by omega
    rw [q] at st;exact st) hE
theorem HQ {M:Model} {A:Around} {E:Value->Shared->Prop} {s:Shared} {pos:Pos} {T:String} {args:List (Bool × Sem Value)} {kws:List (Option Str × Sem Value)} {Q:Value->Shared->Prop}
    (hp:args.any (·.1)=false) (hk:kws.any (·.1.isNone)=false) (h:wpAny M A (evalArgs (.type T) true args kws) (λ a s1=>wpAny M A (call (.type T) a.pos a.kw) Q E s1) E s):wpAny M A (callWith pos (.type T) [] args kws) Q E s:=by
  unfold callWith;refine wpAny_bind (wpAny_holding (wpAny_mono h (λ a s1 h1=>wpAny_bind (wpAny_standAt ?_)) λ _ _ q=>q));simp only [hp,hk,Bool.or_false];refine wpAny_bind (wpAny_pure ?_);refine wpAny_bind (wpAny_mono h1 (λ r s2 hr=> ?_) λ _ _ q=>q);exact wpAny_bind (wpAny_holding (wpAny_point (wpAny_pure hr)))
end L2
namespace L2
open PySem PySem.Spec PyProof.Rows
theorem OC {prog:Program} {w:World} {A:Around} (hh:A.handled=none) (tp:Bool) (it l:Addr) (hne:l≠it) (items:Array Value):
    Draws prog w A it [it,l] items.size (λ i v=>items[i]?=some v) (λ i h=>Be tp h it l i/\Bf tp h l items) where
  live:=λ _ _ st=>let ⟨o,e,_⟩:=A4 st.1;⟨o,e⟩
  frame:=λ _ _ _ st hk=>⟨Ay st.1 λ o e=>hk it (by simp) o e,BN st.2 λ o e=>hk l (by simp) o e⟩
  item:=λ i s Q E hi st hQ=>Ec st.1 st.2 (x:=items[i]) (by simp [hi]) λ h' hit sb=>hQ _ h' s.toks (by simp [hi]) ⟨hit,BN st.2 λ o e=>(sb.2 l hne).trans e⟩ sb
  done:=λ s Q E st hE=>E5 hh st.1 st.2 (by simp) hE
def Kx (tp:Bool) (K:PySem.W.Frag) (a:Addr):It:=
  ⟨λ i H=>∃ xs x,SqS tp K H a xs/\xs[i]?=some x,λ i H v H'=>∃ p x,H p=none/\v= .ref p/\H'=upd H p (.tup [.int ((i+1:Nat):Int),x])/\∀ xs,SqS tp K H a xs->xs[i]?=some x,λ i H=>∃ xs,SqS tp K H a xs/\xs.length<=i⟩
theorem Iu {P:Program} {w:World} {K:PySem.W.Frag} {elts:List Expr} {k:Nat} {pos:Pos} (tp:Bool) (a e it:Addr) (hne:e≠it):
    Turn P w K (.Tuple elts k pos) (Kx tp K a) [e,it] e (λ i h=>(∃ old,IsEnum h e it ((i+1:Nat):Int) old)/\Be tp h it a i) where
  mem:=by simp
  obj:=λ i h st b hb=>by
    obtain ⟨⟨old,he⟩,hi⟩:=st;obtain ⟨o,eo,d⟩:=A4 hi;rcases List.mem_cons.mp hb with z | z
    · subst z;exact ⟨_,he,λ v z=>by cases (show Data.fields _=Data.cell v from z)⟩
    · have z:b=it:=by simpa using z
      subst z;exact ⟨o,eo,λ v z=>by rw [d] at z;cases z⟩
  keep:=λ i h h' st kp=>by
    obtain ⟨⟨old,he⟩,hi⟩:=st;exact ⟨⟨old,kp e (by simp) _ he⟩,Ay hi λ o z=>kp it (by simp) o z⟩
  item:=by
    intro X hP hw hK hc i pins s σ H E I hf st hg;subst hP hw hK;obtain ⟨xs,x,hq,hx⟩:=hg;obtain ⟨its,rv,p⟩:=BF I hq;obtain ⟨u,hu,ru⟩:=rv.get hx;obtain ⟨⟨old,he⟩,hi⟩:=st;obtain ⟨oi,ei,di⟩:=A4 hi;obtain ⟨oa,na,ea,da⟩:=De p;have hel:e<s.heap.objs.size:=Heap.lt_size he;have hil:it<s.heap.objs.size:=Heap.lt_size ei;have nia:a≠it:=λ z=>by
      subst z;rw [ei] at ea;cases ea;rw [di] at da;cases da
    have nea:e≠a:=λ z=>by
      subst z;rw [show s.heap.get? e=_ from he] at ea;cases ea;cases (show Data.fields _=Data.seq _ _ from da)
    have hlt:i<its.toArray.size:=by
      have:=(List.getElem?_eq_some_iff.mp hu).1;simpa using this
    have D:=N9 1 (OC (prog:=X.prog) (w:=X.w) (A:=X.A.in1) (I.ok.hd hc) tp it a nia its.toArray);refine wpAny_pyNext_enum_itemD (i:=i+1) D he ⟨i,rfl,hi,p⟩ (by omega) hne (by simp [hne,nea]) λ v h' tk pv ho st' hT hsz hk=> ?_;obtain ⟨j,ej,ev⟩:=pv;obtain ⟨j2,ej2,hi',p'⟩:=st';have ej:j=i:=by omega
    have ej2:j2=i+1:=by omega
    subst ej ej2;have ev:v=u:=by
      rw [show its.toArray[j]?=some u by simpa using hu] at ev;exact (Option.some.inj ev).symm
    subst ev;have I0:=I.laid (h':=s.heap.push { cls:= .type "tuple",data:= .seq #[.int ((j+1:Nat):Int) tk,v] }) (a:=s.heap.objs.size) (o:= .tup [.int ((j+1:Nat):Int),x]) (t':=tk+1) (λ _ _ q=>Heap.get?_push_of_some _ q) (Nat.le_refl _)
      ⟨(by show 2<=sizeLine;decide),[.int ((j+1:Nat):Int) tk,v], .cons ⟨_,rfl⟩ (.cons ru .nil),⟨_,Heap.get?_push_size _ rfl,rfl,_,rfl⟩⟩
    have f0:∀ b∈[e,it],BV X pins (upd H s.heap.objs.size (.tup [.int ((j+1:Nat):Int),x])) b:=λ b hb=>Iv (hf b hb) (by
      rcases List.mem_cons.mp hb with z | z
      · rw [z];exact Nat.ne_of_lt hel
      · rw [show b=it by simpa using z];exact Nat.ne_of_lt hil)
    have I1:=Inv.turnedL (t':=tk+1) (h':=h') [e,it] I0 f0 (λ b o hb z=>by
      have hb1:b≠e:=λ q=>hb (by simp [q]);have hb2:b≠it:=λ q=>hb (by simp [q]);rcases Heap.get?_push_cases (show (s.heap.push { cls:= .type "tuple",data:= .seq #[.int ((j+1:Nat):Int) tk,v] }).get? b=some o from z) with ⟨q1,q2⟩ | q
      · rw [q1,q2];exact hT
      · exact hk b o hb1 hb2 q)
    refine ⟨.ref s.heap.objs.size,rfl,wpAny_letOwnedTupleGo_enum (s:={ s with heap:=h',toks:=tk+1 }) ho λ h2 he2 sb=> ?_⟩;exact ⟨.ref s.heap.objs.size,_,Inv.turnedL (t':=tk+1) (h':=h2) [e,it] I1 f0 (λ b o hb z=>(sb.2 b λ q=>hb (by simp [q])).trans z),rfl,⟨_,x,I.fresh,rfl,rfl,λ ys hy=>by rw [GH I hy hq];exact hx⟩,
      ⟨⟨v,by simpa using he2⟩,Ay hi' λ o z=>(sb.2 it hne.symm).trans z⟩,λ b hb=>(f0 b hb).1⟩
  done:=by
    intro X hP hw hK hc i pins s σ H E I hf st hg;subst hP hw hK;obtain ⟨xs,hq,hx⟩:=hg;obtain ⟨its,rv,p⟩:=BF I hq;obtain ⟨⟨old,he⟩,hi⟩:=st;obtain ⟨oi,ei,di⟩:=A4 hi;obtain ⟨oa,na,ea,da⟩:=De p;have hT:s.TypeIs (.ref e) "enumerate":=⟨_,he,rfl⟩;have hl:=rv.length;unfold pyNext;refine wpAny_bind (wpAny_attempt (wpAny_callSpecial?_slot (name:=Str.ofString "__next__") hT F.slot_enumerate_next (wpAny_call_entry F.slot_enumerate_next hT F.entry_enumerate_next ?_ (F.args_enumerate_next_1 _))));show wpAny _ _ (field (.ref e) 2 >>= _) _ _ _;refine wpAny_bind (wpAny_field he rfl (x:= .ref it) rfl ?_);refine wpAny_bind (E5 (A:=X.A.in1) (I.ok.hd hc) hi p (by simp;omega) λ h' x eb hx'=> ?_);obtain ⟨o,ho,hc2⟩:=hx';exact wpAny_bind (wpAny_isInstance (T:="StopIteration") (b:=true) ⟨o,ho,hc2⟩ isSubtype_stop (wpAny_pure ⟨rfl,I.turnedL (t':=s.toks) [e,it] hf λ b o hb z=>eb b o (λ q=>hb (by simp [q])) z⟩))
  self:=λ _ _ _ _ _ st h=>by
    obtain ⟨⟨old,he⟩,_⟩:=st;exact wpAny_pyIter_enum he h
section
variable {X:Cx} {elts:List Expr} {k:Nat} {tpos:Pos} {K:PySem.W.Frag}
def Ln (K:PySem.W.Frag) (ta:TA):TI:=λ σ H R=>ta σ H λ vs H1=>∃ tp a,vs=[.ref a]/\(∃ xs,SqS tp K H1 a xs)/\R (Kx tp K a) H1
theorem Ky {l:Expr} {ta:TA} {p pos kp cp:Pos} {cj:Nat} (hg:Gl X "enumerate") (hm:X.mg "enumerate"=none) (ha:PA X [l] ta) (hK:X.K=K:=by rfl) (hs:starEach [l] X.env=[(false,eval l X.env)]:=by rfl):
    PI X (.Tuple elts k tpos) (.Call (.Name "enumerate" p) [l] [⟨some "start", .Constant (.int 1) cj cp,kp⟩] pos) (Ln K ta):=by
  subst hK;intro pins s σ H R I h;refine wpAny_Call_Name_kw (Cb I hg hm Gb (HQ (by rw [hs];rfl) rfl (PyProof.Rows.evalArgs_kw2 rfl ?_ (by rw [hs];rfl))));refine thn (ha pos pins s σ H _ I h) λ us s1 ⟨vs,H1,I1,r1,q1⟩=>PyProof.Rows.kwAll_cons ?_;refine Ac pins s1 σ H1 (λ v H2=>v= .int 1/\H2=H1) I1 ⟨rfl,rfl⟩ |> λ z=>thn z λ u s2 ⟨v,H2,I2,r2,ev,eh⟩=> ?_
  subst ev eh;obtain ⟨t,rfl⟩:=r2;refine PyProof.Rows.kwAll_nil ?_;obtain ⟨tp,a,e,⟨xs,hq⟩,q⟩:=q1;subst e;cases r1 with
  | cons r rr=>
    cases rr;cases r;obtain ⟨its,rv,pl⟩:=BF I2 hq;refine Im ?_;refine Fj pl ⟨_,rfl,λ h' he hk hsz=> ?_⟩;refine wpAny_pyIter_enum he ?_;have hz:(s2.heap.push { cls:= .type (F6 tp),data:= .fields #[.ref a, .int 0 0] }).objs.size=s2.heap.objs.size+1:=Heap.size_push ..;have hk2:∀ b o,s2.heap.get? b=some o->h'.get? b=some o:=λ b o z=>hk b o (Heap.get?_push_of_some _ z);have I3:=I2.kept (t':=s2.toks) hk2;have st:Be tp h' s2.heap.objs.size a 0:=Ay Ep λ o z=>hk _ o z;refine ⟨_,[_,s2.heap.objs.size],_,_,H2,rfl,I3,Iu tp a _ _ (by rw [hz];exact Nat.succ_ne_self _),⟨⟨_,he⟩,st⟩,λ b hb=> ?_,q⟩;have hb':s2.heap.objs.size<=b:=by
      rcases List.mem_cons.mp hb with z | z
      · rw [z,hz];exact Nat.le_succ _
      · have z:b=s2.heap.objs.size:=by simpa using z
        rw [z];exact Nat.le_refl _
    exact I2.fpOk hb' (I2.hok.fresh hb')
end
def Isq (tp:Bool) (K:PySem.W.Frag) (a:Addr):It:=if tp=true then Itt K a else Itl K a
section
variable {X:Cx} {tg:Expr} {K:PySem.W.Frag}
def iSq (K:PySem.W.Frag) (tl:TE):TI:=λ σ H R=>tl σ H λ x H1=>∃ tp a,x= .ref a/\(∃ xs,SqS tp K H1 a xs)/\R (Isq tp K a) H1
theorem Nf {l:Expr} {tl:TE} (hl:PE X l tl) (hK:X.K=K:=by rfl):PI X tg l (iSq K tl):=by
  subst hK;intro pins s σ H R I h;refine thn (hl pins s σ H _ I h) λ v s1 ⟨x,H1,I1,r1,q1⟩=> ?_;obtain ⟨tp,a,e,⟨xs,hq⟩,q⟩:=q1;subst e;cases r1;cases tp with
  | false=>
    obtain ⟨its,rv,p,hz⟩:=I1.list (show SqL X.K H1 a xs from hq);refine wpAny_pyIter_list p.isList ?_;refine ⟨s1.heap.objs.size,[s1.heap.objs.size],_,_,H1,rfl,I1.kept (t':=s1.toks) λ b o e=>Heap.get?_push_of_some _ e,F9 a _,⟨_,Heap.get?_push_size _ rfl,rfl,rfl⟩,λ b hb=> ?_,q⟩;have e:b=s1.heap.objs.size:=by simpa using hb
    subst e;exact I1.fpOk (Nat.le_refl _) (I1.hok.fresh (Nat.le_refl _))
  | true=>
    obtain ⟨its,rv,p,hz⟩:=I1.tuple (show SqT X.K H1 a xs from hq);refine wpAny_pyIter_tuple (show s1.heap.IsTuple a its.toArray from p) ?_;refine ⟨s1.heap.objs.size,[s1.heap.objs.size],_,_,H1,rfl,I1.kept (t':=s1.toks) λ b o e=>Heap.get?_push_of_some _ e,E6 a _,⟨_,Heap.get?_push_size _ rfl,rfl,rfl⟩,λ b hb=> ?_,q⟩;have e:b=s1.heap.objs.size:=by simpa using hb
    subst e;exact I1.fpOk (Nat.le_refl _) (I1.hok.fresh (Nat.le_refl _))
end
structure FSrc (J:It) (g:TG) (H:Hp) (n:Nat) (set:Nat->St->St):Prop where
  go:∀ i H',i<n->Same H H'->J.go i H'
  stop:∀ H',Same H H'->J.stop n H'
  yld:∀ i σ H' x H'' (R:St->Hp->Prop),i<n->Same H H'->J.yld i H' x H''->(∀ H3,Same H' H3->R (set i σ) H3)->g x σ H'' R
theorem EZ {J:It} {g:TG} {H:Hp} {n:Nat} {set:Nat->St->St} {tb:TS} {D:Ends} {σ:St} (S:FSrc J g H n set) (Pv:Nat->St->Hp->Prop) (h0:Pv 0 σ H) (hk:∀ i σ H',Pv i σ H'->Same H H')
    (hs:∀ i σ H' H3,i<n->Pv i σ H'->Same H' H3->tb { D with nx:=Pv (i+1),ct:=Pv (i+1),bk:=D.nx } (set i σ) H3) (hd:∀ σ H',Pv n σ H'->D.nx σ H'):
    ∃ W:Nat->Nat->St->Hp->Prop,(∃ m,W 0 m σ H)/\∀ i m σ H,W i m σ H->
      (J.stop i H/\D.nx σ H)\/(J.go i H/\∃ N:St->Hp->Prop,(∀ σ' H',N σ' H'->∃ m',m'<m/\W (i+1) m' σ' H')/\∀ x H',J.yld i H x H'->g x σ H' λ σ2 H2=>tb { D with nx:=N,ct:=N,bk:=D.nx } σ2 H2):=by
  refine ⟨λ i m σ H'=>m=n - i/\i<=n/\Pv i σ H',⟨n,by simp,Nat.zero_le _,h0⟩,?_⟩;rintro i m σ H1 ⟨rfl,hi,p⟩;by_cases hlt:i<n
  · exact .inr ⟨S.go i H1 hlt (hk _ _ _ p),Pv (i+1),λ σ' H' p'=>⟨n - (i+1),by omega,rfl,hlt,p'⟩,λ x H' y=>S.yld i σ H1 x H' _ hlt (hk _ _ _ p) y λ H3 s3=>hs i σ H1 H3 hlt p s3⟩
  · have e:i=n:=by omega
    subst e;exact .inl ⟨S.stop H1 (hk _ _ _ p),hd σ H1 p⟩
section
variable {K:PySem.W.Frag} {H:Hp} {a b:Addr} {xs zs:List V} {tp t1 t2:Bool} {i1 i2:Nat}
theorem Jn (h:SqS tp K H a xs):FSrc (Isq tp K a) (AB i1) H xs.length (λ i σ=>σ.set i1 (some (xs.getD i .non))):=by
  cases tp with
  | false=>exact {
      go:=λ i H' hi s=>⟨xs,xs[i],SqS.same (tp:=false) h s,by simp [hi]⟩
      stop:=λ H' s=>⟨xs,SqS.same (tp:=false) h s,Nat.le_refl _⟩
      yld:=λ i σ H' x H'' R hi s y k=>by
        obtain ⟨e,hv⟩:=y;subst e;have e:x=xs.getD i .non:=by
          rw [List.getD_eq_getElem?_getD,hv xs (SqS.same (tp:=false) h s)];rfl
        subst e;exact k _ (Same.refl _) }
  | true=>exact {
      go:=λ i H' hi s=>⟨xs,xs[i],SqS.same (tp:=true) h s,by simp [hi]⟩
      stop:=λ H' s=>⟨xs,SqS.same (tp:=true) h s,Nat.le_refl _⟩
      yld:=λ i σ H' x H'' R hi s y k=>by
        obtain ⟨e,hv⟩:=y;subst e;have e:x=xs.getD i .non:=by
          rw [List.getD_eq_getElem?_getD,hv xs (SqS.same (tp:=true) h s)];rfl
        subst e;exact k _ (Same.refl _) }
theorem CB (h:SqL K H a xs):FSrc (Itl K a) (AB i1) H xs.length (λ i σ=>σ.set i1 (some (xs.getD i .non))):=Jn (tp:=false) h
theorem Lo {lo:Int} {n:Nat}:FSrc (Itr lo n) (AB i1) H n (λ i σ=>σ.set i1 (some (.int (lo+i)))) where
  go:=λ i H' hi s=>hi
  stop:=λ H' s=>Nat.le_refl _
  yld:=λ i σ H' x H'' R hi s y k=>by
    obtain ⟨e,hv⟩:=y;subst e hv;exact k _ (Same.refl _)
theorem KG (h:SqS tp K H a xs):FSrc (Kx tp K a) (FG K 2 (BB (AB i1) (BB (AB i2) GJ))) H xs.length (λ i σ=>(σ.set i1 (some (.int ((i+1:Nat):Int)))).set i2 (some (xs.getD i .non))) where
  go:=λ i H' hi s=>⟨xs,xs[i],h.same s,by simp [hi]⟩
  stop:=λ H' s=>⟨xs,h.same s,Nat.le_refl _⟩
  yld:=λ i σ H' x H'' R hi s y k=>by
    obtain ⟨p,v,hp,rfl,rfl,hv⟩:=y;have e:v=xs.getD i .non:=by
      rw [List.getD_eq_getElem?_getD,hv xs (h.same s)];rfl
    subst e;exact ⟨p,_,rfl,SqT.of Ad,rfl,_,_,rfl,_,_,rfl,rfl,k _ (Ai hp)⟩
theorem FSrc.src {J:It} {g:TG} {n:Nat} {set:Nat->St->St} {σ0:St} (S:FSrc J g H n set) (kp:∀ i,i<n->Kp σ0 (set i σ0)):SrcOk J g σ0 H n (λ i=>set i σ0) where
  go:=S.go
  stop:=S.stop
  yld:=λ i H' x H'' R hi s y k=>S.yld i σ0 H' x H'' R hi s y k
  kp:=kp
theorem JD {σ0:St} (h:SqS tp K H a xs) (h0:σ0[0]?=some none) (h1:σ0[1]?=some none):SrcOk (Kx tp K a) (FG K 2 (BB (AB 0) (BB (AB 1) GJ))) σ0 H xs.length (λ i=>(σ0.set 0 (some (.int ((i+1:Nat):Int)))).set 1 (some (xs.getD i .non))):=
  (KG h).src λ i _=>((Kp.refl _).set h0).set h1
end
theorem bA (a b:Nat):Builtin.bitAnd (a:Int) (b:Int)=((a &&& b:Nat):Int):=by
  rw [PyProof.Rows.bitAnd_pp (by omega) (by omega)];rfl
theorem bO (a b:Nat):Builtin.bitOr (a:Int) (b:Int)=((a ||| b:Nat):Int):=by
  have h:=MM.or_add_and a b;rw [PyProof.Rows.bitOr_and,bA];omega
theorem bX (a b:Nat):Builtin.bitXor (a:Int) (b:Int)=((a ^^^ b:Nat):Int):=by
  have h:=MM.xor_eq a b;show Builtin.bitOr (a:Int) b - Builtin.bitAnd (a:Int) b=_;rw [bO,bA];omega
theorem GW (m:Nat):((Builtin.Int.intBits (m:Int):Nat):Int)=((MM.bits m:Nat):Int):=by
  unfold Builtin.Int.intBits MM.bits;by_cases h:m=0
  · subst h;rfl
  · have e:((m:Int) == 0)=false:=by simp [h]
    rw [e,if_neg h];simp
theorem Hz (n:Nat):(1:Int)*2 ^ n=((2 ^ n:Nat):Int):=by
  rw [Int.one_mul];push_cast;rfl
section
variable {X:Cx}
def rBits:V->List V->Hp->VK->Prop:=λ x vs H Q=>∃ i:Int,x= .int i/\vs=[]/\Q (.int (Builtin.Int.intBits i:Nat)) H
theorem FF:MtM X "int.bit_length" rBits:=by
  intro pins s σ H x vs v us Q I rx rv h;obtain ⟨i,rfl,rfl,q⟩:=h;obtain ⟨t,rfl⟩:=rx;have hus:=rv.zero;subst hus;exact PyProof.Rows.call_int_bit_length ⟨.int _,H,I.tok _,⟨_,rfl⟩,q⟩
end
section
variable {H:Hp} {Q:VK} {σ:St} {D:Ends} {te:TE} {ti:TIp} {i:Nat} {x:V}
theorem MZ {m:Nat} (h:Q (.int (MM.bits m:Nat)) H):rBits (.int (m:Nat)) [] H Q:=⟨m,rfl,rfl,by rw [GW];exact h⟩
theorem Oy (e:σ[i]?=some (some x)) (h:te σ H λ y H1=>ti x y H1 λ z H2=>D.nx (σ.set i (some z)) H2):Pq i te ti D σ H:=⟨x,e,h⟩
end
abbrev nV (n:Nat):V:= .int (n:Nat)
theorem Bs {ns:List Nat} {i:Nat} (h:i<(ns.map nV).length):(ns.map nV).getD i .non= .int (ns.getD i 0:Nat):=by
  have h':i<ns.length:=by simpa using h
  simp [List.getD_eq_getElem?_getD,h']
theorem Li {ns:List Int} {i:Nat} (h:i<(ns.map V.int).length):(ns.map V.int).getD i .non= .int (ns.getD i 0):=by
  have h':i<ns.length:=by simpa using h
  simp [List.getD_eq_getElem?_getD,h']
theorem Dc {ns:List Int} {k:Int} (h0:0<=k) (h1:k<ns.length):atI (ns.map V.int) k=some (.int (ns.getD k.toNat 0)):=by
  obtain ⟨j,rfl⟩:∃ j:Nat,k=j:=⟨k.toNat,by omega⟩;have h':j<ns.length:=by omega
  refine Ax ?_;rw [show ((j:Int)).toNat=j by omega];simp [List.getD_eq_getElem?_getD,h']
theorem Ck {ns:List Nat} {k:Int} (h0:0<=k) (h1:k<ns.length):atI (ns.map nV) k=some (.int (ns.getD k.toNat 0:Nat)):=by
  obtain ⟨j,rfl⟩:∃ j:Nat,k=j:=⟨k.toNat,by omega⟩;have h':j<ns.length:=by omega
  refine Ax ?_;rw [show ((j:Int)).toNat=j by omega];simp [List.getD_eq_getElem?_getD,h']
theorem JG {ns:List Nat} {i:Nat} (h:i<ns.length):ns.take (i+1)=ns.take i++[ns.getD i 0]:=by
  rw [List.take_succ_eq_append_getElem h];simp [List.getD_eq_getElem?_getD,h]
theorem Bk {J:It} {g:TG} {σ0:St} {H:Hp} {n:Nat} {st:Nat->St} {te:TE} {Q:VK} {D:Addr} {G:Nat->Int} (S:SrcOk J g σ0 H n st) (hD:H D=none) (hn:n<=100000)
    (he:∀ i H' (R:VK),i<n->Same H H'->(∀ H3,Same H' H3->R (.int (G i)) H3)->te (st i) H' R)
    (hd:∀ H',Same H H'->H' D=some (.lst (((List.range n).map G).map V.int))->Q (.ref D) H'):Dj J σ0 g K2 te Q H D:=by
  refine Cq (m:=0) (G:=λ i=> .int (G i)) S hD hn (λ i H' R hi s k=>he i H' R hi s λ H3 s3=>k H3 _ s3 (.int _)) λ H' ys s hl r=> ?_;have e:(List.range n).map (λ i=>Dt.int (G i))=((List.range n).map G).map Dt.int:=by rw [List.map_map];rfl
  rw [e] at r;obtain ⟨b,eb,hb,fb⟩:=Jk r;cases eb;exact hd H' s hb
theorem Ff {J:It} {g:TG} {σ0:St} {H:Hp} {n:Nat} {st:Nat->St} {tc:TT} {te:TE} {Q:VK} {D:Addr} {p:Nat->Bool} {G:Nat->Int} (S:SrcOk J g σ0 H n st) (hD:H D=none) (hn:n<=100000)
    (ht:∀ i H' (R:Bool->Hp->Prop),i<n->Same H H'->(∀ H3,Same H' H3->R (p i) H3)->tc (st i) H' R)
    (he:∀ i H' (R:VK),i<n->p i=true->Same H H'->(∀ H3,Same H' H3->R (.int (G i)) H3)->te (st i) H' R)
    (hd:∀ H',Same H H'->H' D=some (.lst ((((List.range n).filter p).map G).map V.int))->Q (.ref D) H'):Dj J σ0 g tc te Q H D:=by
  refine Df (m:=0) (p:=p) (G:=λ i=> .int (G i)) S hD hn ht (λ i H' R hi hp s k=>he i H' R hi hp s λ H3 s3=>k H3 _ s3 (.int _)) λ H' ys s hl r=> ?_;have e:((List.range n).filter p).map (λ i=>Dt.int (G i))=(((List.range n).filter p).map G).map Dt.int:=by rw [List.map_map];rfl
  rw [e] at r;obtain ⟨b,eb,hb,fb⟩:=Jk r;cases eb;exact hd H' s hb
theorem LS {J:It} {g:TG} {σ0:St} {H:Hp} {n:Nat} {st:Nat->St} {te:TE} {Q:VK} {D:Addr} {G:Nat->Bool} (S:SrcOk J g σ0 H n st) (hD:H D=none) (hn:n<=100000)
    (he:∀ i H' (R:VK),i<n->Same H H'->(∀ H3,Same H' H3->R (.bl (G i)) H3)->te (st i) H' R)
    (hd:∀ H',Same H H'->H' D=some (.lst (((List.range n).map G).map V.bl))->Q (.ref D) H'):Dj J σ0 g K2 te Q H D:=by
  refine Cq (m:=0) (G:=λ i=> .bl (G i)) S hD hn (λ i H' R hi s k=>he i H' R hi s λ H3 s3=>k H3 _ s3 (.bl _)) λ H' ys s hl r=> ?_;have e:ys=((List.range n).map G).map V.bl:=by
    cases r with
    | @lst _ _ vs _ q f b l ee=>
      rw [hl] at q;cases q;refine List.ext_getElem (by simpa using l) λ i h1 h2=> ?_;have hi:i<n:=by simpa using h2
      have:=ee i ys[i] (.bl (G i)) (by simp [h1]) (by simp [hi]);cases hv:ys[i] <;> rw [hv] at this <;> cases this;simp
  rw [e] at hl;exact hd H' s hl
def IM (P:Program) (w:World) (K:PySem.W.Frag) (mg:Str->Option Value) (base:Heap) (x:Str) (C:Addr) (k:Nat) (ps:List Str) (sp:Sp):Prop:=
  ∃ f fd,mg x=some (.ref C)/\Mk K C f/\FnOk P w K mg base CX0 k f fd ps sp/\Binds K fd ps []
def BX (P:Program) (w:World) (K:PySem.W.Frag) (mg:Str->Option Value) (base:Heap) (C:Addr) (m:Str) (k:Nat) (ps:List Str) (sp:Sp):Prop:=
  ∃ f fd,Cls K C/\Meth K C m f/\FnOk P w K mg base CX0 k f fd ps sp/\Binds K fd ps []
section
variable {X:Cx} {x m:Str} {C:Addr} {k:Nat} {ps:List Str} {sp:Sp} {o e:Expr} {es:List Expr} {t:TA} {ta:TE} {p pos apos:Pos}
theorem DY (h:IM X.prog X.w X.K X.mg X.base x C k ps sp) (hr:Room (k+1) X.A) (ha:PA X (e::es) t) (hg:Gl X x:=by rfl) (hdb:(x == ("__debug__":Str))=false:=by decide)
    (he:starEach (e::es) X.env=(false,eval e X.env)::starEach es X.env:=by rfl) (hpl:(backTo pos (starEach es X.env)).any (·.1)=false:=by rfl):
    PE X (.Call (.Name x p) (e::es) [] pos) (IS C sp [] E0 t):=by
  obtain ⟨f,fd,hm,M,F,hb⟩:=h;exact L0 M F hr hg hm hb .nil Jj ha hdb he hpl
theorem HK {pl:Sem Bool} (he:PE X o ta) (h:BX X.prog X.w X.K X.mg X.base C m k ps sp) (hr:Room k X.A) (ha:PA X (e::es) t)
    (hst:starEach (e::es) X.env=(false,eval e X.env)::starEach es X.env:=by rfl) (hpl:(backTo pos (starEach es X.env)).any (·.1)=false:=by rfl)
    (ht:eval (.Call (.Attribute o m apos) (e::es) [] pos) X.env=(do
      let ov <-eval o X.env
      standAt apos.atName
      let (f,first) <-holding [ov] (getMethod ov m pl)
      callWith pos f first (backTo pos (starEach (e::es) X.env)) (backToKw pos (keywordEach [] X.env))):=by rfl):
    PE X (.Call (.Attribute o m apos) (e::es) [] pos) (Ga C m sp [] E0 ta t):=by
  obtain ⟨f,fd,c,hm,F,hb⟩:=h;exact Mb (pl:=pl) he c hm F hr hb .nil Jj ha hst hpl ht
theorem Bh {pl:Sem Bool} (he:PE X o ta) (h:BX X.prog X.w X.K X.mg X.base C m k ps sp) (hr:Room k X.A)
    (ht:eval (.Call (.Attribute o m apos) [] [] pos) X.env=(do
      let ov <-eval o X.env
      standAt apos.atName
      let (f,first) <-holding [ov] (getMethod ov m pl)
      callWith pos f first (backTo pos (starEach [] X.env)) (backToKw pos (keywordEach [] X.env))):=by rfl):
    PE X (.Call (.Attribute o m apos) [] [] pos) (Ga C m sp [] E0 ta Kg):=by
  obtain ⟨f,fd,c,hm,F,hb⟩:=h;exact KN (pl:=pl) he c hm F hr hb .nil Jj ht
end
structure Kind (K:PySem.W.Frag) (C:Addr):Prop where
  cl:Cls K C
  ha:PySem.W.findIn K (.ref C) "__class__"=some (some (.builtin "object.__class__"))
  hn:PySem.W.specialIn K (.builtin "object.__class__") "__get__"=some (some (.builtin "getset_descriptor.__get__"))
  htk:PySem.W.takesIn K (.builtin "object.__class__")=some true
  hm:PySem.W.mroIn K C (.type "object")=some true
section
variable {K:PySem.W.Frag} {H:Hp} {Q:VK} {σ:St} {D:Ends} {te tv:TE} {t:TA} {a C dx:Addr} {fs:List (Str × V)} {f:Str} {v:V} {sp:Sp}
theorem NR (h:te σ H λ x H1=>∃ a C dx fs v,x= .ref a/\H1 a=some (.ins C dx fs)/\Cls K C/\NoAttr K C f/\fs.lookup f=some v/\Q v H1):NO K te f σ H Q:=h
theorem NS (h:tv σ H λ y H1=>te σ H1 λ x H2=>∃ a C dx fs,x= .ref a/\H2 a=some (.ins C dx fs)/\Cls K C/\NoAttr K C f/\fs.length<1000/\D.nx σ (upd H2 a (.ins C dx (CH f y fs)))):Px K te tv f D σ H:=h
theorem LB {y:V} (e:H a=some (.ins C dx fs)) (c:Cls K C) (n:NoAttr K C f) (l:fs.length<1000) (h:D.nx σ (upd H a (.ins C dx (CH f y fs)))):∃ a' C' dx' fs',V.ref a= .ref a'/\H a'=some (.ins C' dx' fs')/\Cls K C'/\NoAttr K C' f/\fs'.length<1000/\D.nx σ (upd H a' (.ins C' dx' (CH f y fs'))):=⟨a,C,dx,fs,rfl,e,c,n,l,h⟩
theorem MX (h:t σ H λ vs H1=>∀ x dx,H1 x=none->H1 dx=none->dx≠x->sp (.ref x::vs) (upd (upd H1 dx (.own x)) x (.ins C dx [])) (λ v H2=>v= .non/\Q (.ref x) H2) E0):IS C sp [] E0 t σ H Q:=by
  unfold IS;simpa using h
theorem M8 {m:Str} (h:te σ H λ x H1=>∃ a dx fs,x= .ref a/\H1 a=some (.ins C dx fs)/\fs.lookup m=none/\t σ H1 λ vs H2=>sp (x::vs) H2 Q E0):Ga C m sp [] E0 te t σ H Q:=by
  unfold Ga;simpa using h
end
theorem LV {r r':R2} {ta tb tc:TE} {σ:St} {H:Hp} {Q:VK} (h:ta σ H λ x H1=>tb σ H1 λ y H2=>r x y H2 λ z H3=>∃ k,z= .bl k/\(if k=true then tc σ H3 λ w' H4=>r' y w' H4 Q else Q (.bl false) H3)):KI r r' ta tb tc σ H Q:=h
def G0 (x:V) (a b:Int):Bool:=match x with | .int i=>decide (a<=i)&&decide (i<=b) | _=>false
theorem HI {b b':Bool} {Q:VK} {H:Hp} (e:b=b') (h:Q (.bl b') H):Q (.bl b) H:=e▸h
theorem JO {b:Bool} {A B:Prop} (h1:b=true->A) (h2:b=false->B):if b=true then A else B:=by
  cases b with
  | true=>exact h1 rfl
  | false=>exact h2 rfl
theorem Ha {H:Hp} {x dx:Addr} {o:HO} {u:HO} (h1:H x=none) (h2:H dx=none):Same H (upd (upd H dx u) x o):=λ b q e=>by
  rw [Al (Ao e h1),Al (Ao e h2)];exact e
mutual
def eqD:Dt->Dt->Bool
  | .non, .non=>true
  | .bl a, .bl b=>a == b
  | .int a, .int b=>a == b
  | .str a, .str b=>a == b
  | .bl a, .int b=>(if a then 1 else 0) == b
  | .int a, .bl b=>a == (if b then 1 else 0)
  | .lst xs, .lst ys=>CO xs ys
  | .tup xs, .tup ys=>CO xs ys
  | _,_=>false
def CO:List Dt->List Dt->Bool
  | [],[]=>true
  | x::xs,y::ys=>eqD x y&&CO xs ys
  | _,_=>false
end
theorem BM:∀ {xs ys:List Dt},xs.length≠ys.length->CO xs ys=false
  | [],[],h=>absurd rfl h
  | [],_::_,_=>by unfold CO;rfl
  | _::_,[],_=>by unfold CO;rfl
  | x::xs,y::ys,h=>by
    unfold CO;rw [BM (xs:=xs) (ys:=ys) (λ e=>h (by simp [e])),Bool.and_false]
theorem BS:∀ {xs ys:List Dt},xs.length=ys.length->CO xs ys=(List.range xs.length).all λ i=>eqD (xs.getD i .non) (ys.getD i .non)
  | [],[],_=>by unfold CO;rfl
  | [],_::_,h=>by simp at h
  | _::_,[],h=>by simp at h
  | x::xs,y::ys,h=>by
    unfold CO;rw [BS (xs:=xs) (ys:=ys) (by simpa using h),List.length_cons,List.range_succ_eq_map,List.all_cons,List.all_map];rfl
mutual
theorem Fi:∀ d:Dt,eqD d d=true
  | .non=>by unfold eqD;rfl
  | .bl a=>by unfold eqD;simp
  | .int a=>by unfold eqD;simp
  | .str a=>by unfold eqD;simp
  | .lst xs=>by unfold eqD;exact Ej xs
  | .tup xs=>by unfold eqD;exact Ej xs
theorem Ej:∀ d:List Dt,CO d d=true
  | []=>by unfold CO;rfl
  | x::xs=>by unfold CO;rw [Fi x,Ej xs];rfl
end
theorem Rp.inj {H:Hp} {F G:Addr->Prop} {n m:Nat} {v:V} {d e:Dt} (r:Rp H F n v d) (r2:Rp H G m v e):d=e:=by
  induction r generalizing m e with
  | non=>cases r2;rfl
  | bl b=>cases r2;rfl
  | int i=>cases r2;rfl
  | str z=>cases r2;rfl
  | @lst n a vs ds h f b l el ih=>
    cases r2 with
    | @lst m _ vs2 ds2 h2 f2 b2 l2 el2=>
      rw [h] at h2;cases h2;congr 1;refine List.ext_getElem (by omega) λ i h1 h3=> ?_;have hv:i<vs.length:=by omega
      exact ih i vs[i] ds[i] (by simp [hv]) (by simp [h1]) (el2 i vs[i] ds2[i] (by simp [hv]) (by simp [h3]))
    | tup h2 _ _ _=>rw [h] at h2;cases h2
  | @tup n a vs ds h b l el ih=>
    cases r2 with
    | @tup m _ vs2 ds2 h2 b2 l2 el2=>
      rw [h] at h2;cases h2;congr 1;refine List.ext_getElem (by omega) λ i h1 h3=> ?_;have hv:i<vs.length:=by omega
      exact ih i vs[i] ds[i] (by simp [hv]) (by simp [h1]) (el2 i vs[i] ds2[i] (by simp [hv]) (by simp [h3]))
    | lst h2 _ _ _ _=>rw [h] at h2;cases h2
section
variable {X:Cx} {pins:List (Addr × Obj)} {σ:St} {H:Hp} {s:Shared}
theorem Dh {F G:Addr->Prop} {n:Nat} {xs ys:List V} {ds es:List Dt} {its its2:List Value} {A:Around} (r:Vals xs its) (r2:Vals ys its2) (l1:xs.length=ds.length) (l2:ys.length=es.length)
    (el:∀ (i:Nat) (v:V) (d:Dt),xs[i]?=some v->ds[i]?=some d->Rp H F n v d) (el2:∀ (i:Nat) (v:V) (d:Dt),ys[i]?=some v->es[i]?=some d->Rp H G n v d)
    (ih:∀ {v u:V} {d e:Dt} {rv ru:Value},Rp H F n v d->Rp H G n u e->RelV v rv->RelV u ru->SeqAt.EqAt A s rv ru (eqD d e)):
    ∀ j (h1:j<its.toArray.size) (h2:j<its2.toArray.size),SeqAt.EqAt A s its.toArray[j] its2.toArray[j] (eqD (ds.getD j .non) (es.getD j .non)):=λ j h1 h2=>by
  have k1:=r.length;have k2:=r2.length;have h1':j<its.length:=by simpa using h1
  have h2':j<its2.length:=by simpa using h2
  have g1:xs[j]?=some (xs.getD j .non):=by rw [List.getD_eq_getElem?_getD,List.getElem?_eq_getElem (by omega)];rfl
  have g2:ys[j]?=some (ys.getD j .non):=by rw [List.getD_eq_getElem?_getD,List.getElem?_eq_getElem (by omega)];rfl
  have d1:ds[j]?=some (ds.getD j .non):=by rw [List.getD_eq_getElem?_getD,List.getElem?_eq_getElem (by omega)];rfl
  have d2:es[j]?=some (es.getD j .non):=by rw [List.getD_eq_getElem?_getD,List.getElem?_eq_getElem (by omega)];rfl
  obtain ⟨u,e1,ru⟩:=r.get g1;obtain ⟨u2,e2,ru2⟩:=r2.get g2;have q1:its.toArray[j]=u:=by rw [List.getElem?_eq_getElem h1'] at e1;simpa using Option.some.inj e1
  have q2:its2.toArray[j]=u2:=by rw [List.getElem?_eq_getElem h2'] at e2;simpa using Option.some.inj e2
  rw [q1,q2];exact ih (el j _ _ g1 d1) (el2 j _ _ g2 d2) ru ru2
theorem BG (A:Around):A.in1.units=A.units+1:=rfl
theorem GN (I:Inv X pins σ H s) {F G:Addr->Prop}:∀ {n:Nat} {A:Around} {v u:V} {d e:Dt} {rv ru:Value},Rp H F n v d->Rp H G n u e->RelV v rv->RelV u ru->A.units+n<cLine->SeqAt.EqAt A s rv ru (eqD d e):=by
  intro n;have sc:∀ {n m:Nat} {A:Around} {v u:V} {d e:Dt} {rv ru:Value},Rp H F n v d->Rp H G m u e->(BW d||BA d)=false->(BW e||BA e)=false->RelV v rv->RelV u ru->SeqAt.EqAt A s rv ru (eqD d e):=by
    intro n m A v u d e rv ru r r2 n1 n2 rr rr2;cases r with
    | non=>
      cases rr;cases r2 with
      | non=>
        cases rr2;simp only [eqD];exact (show SeqAt.EqAt A s Value.none Value.none true from SeqAt.EqAt.same _)
      | bl x2=>
        cases rr2;simp only [eqD];exact SeqAt.EqAt.none_bool _
      | int x2=>
        obtain ⟨t2,rfl⟩:=rr2;simp only [eqD];exact SeqAt.EqAt.none_int _ _
      | str x2=>
        obtain ⟨t2,rfl⟩:=rr2;simp only [eqD];exact SeqAt.EqAt.none_str _ _
      | lst _ _ _ _ _=>cases n2
      | tup _ _ _ _=>cases n2
    | bl x1=>
      cases rr;cases r2 with
      | non=>
        cases rr2;simp only [eqD];exact SeqAt.EqAt.bool_none _
      | bl x2=>
        cases rr2;simp only [eqD];exact SeqAt.EqAt.bool_bool _ _
      | int x2=>
        obtain ⟨t2,rfl⟩:=rr2;simp only [eqD];exact SeqAt.EqAt.bool_int _ _ _
      | str x2=>
        obtain ⟨t2,rfl⟩:=rr2;simp only [eqD];exact SeqAt.EqAt.bool_str _ _ _
      | lst _ _ _ _ _=>cases n2
      | tup _ _ _ _=>cases n2
    | int x1=>
      obtain ⟨t1,rfl⟩:=rr;cases r2 with
      | non=>
        cases rr2;simp only [eqD];exact SeqAt.EqAt.int_none _ _
      | bl x2=>
        cases rr2;simp only [eqD];exact SeqAt.EqAt.int_bool _ _ _
      | int x2=>
        obtain ⟨t2,rfl⟩:=rr2;simp only [eqD];exact SeqAt.EqAt.int_int _ _ _ _
      | str x2=>
        obtain ⟨t2,rfl⟩:=rr2;simp only [eqD];exact SeqAt.EqAt.int_str _ _ _ _
      | lst _ _ _ _ _=>cases n2
      | tup _ _ _ _=>cases n2
    | str x1=>
      obtain ⟨t1,rfl⟩:=rr;cases r2 with
      | non=>
        cases rr2;simp only [eqD];exact SeqAt.EqAt.str_none _ _
      | bl x2=>
        cases rr2;simp only [eqD];exact SeqAt.EqAt.str_bool _ _ _
      | int x2=>
        obtain ⟨t2,rfl⟩:=rr2;simp only [eqD];exact SeqAt.EqAt.str_int _ _ _ _
      | str x2=>
        obtain ⟨t2,rfl⟩:=rr2;simp only [eqD];exact SeqAt.EqAt.str_str _ _ _ _
      | lst _ _ _ _ _=>cases n2
      | tup _ _ _ _=>cases n2
    | lst _ _ _ _ _=>cases n1
    | tup _ _ _ _=>cases n1
  induction n with
  | zero=>
    intro A v u d e rv ru r r2 rr rr2 hu;exact sc r r2 (by cases r <;> rfl) (by cases r2 <;> rfl) rr rr2
  | succ n ih=>
    intro A v u d e rv ru r r2 rr rr2 hu;have hu':A.units<cLine:=by omega
    cases h1:(BW d||BA d) with
    | false=>
      cases h2:(BW e||BA e) with
      | false=>exact sc r r2 h1 h2 rr rr2
      | true=>
        cases r2 with
        | @lst _ b ys es q2 f2 b2 l2 el2=>
          obtain rfl:ru=Value.ref b:=rr2;obtain ⟨its2,rv2,pl2,_⟩:=I.list (SqL.of q2);cases r with
          | non=>cases rr;simp only [eqD];exact SeqAt.EqAt.none_list pl2.isList hu'
          | bl x1=>cases rr;simp only [eqD];exact SeqAt.EqAt.bool_list _ pl2.isList hu'
          | int x1=>obtain ⟨t,rfl⟩:=rr;simp only [eqD];exact SeqAt.EqAt.int_list _ _ pl2.isList hu'
          | str x1=>obtain ⟨t,rfl⟩:=rr;simp only [eqD];exact SeqAt.EqAt.str_list _ _ pl2.isList hu'
          | lst _ _ _ _ _=>cases h1
          | tup _ _ _ _=>cases h1
        | @tup _ b ys es q2 b2 l2 el2=>
          obtain rfl:ru=Value.ref b:=rr2;obtain ⟨its2,rv2,pl2,_⟩:=I.tuple (SqT.of q2);have pl2:s.heap.IsTuple b its2.toArray:=pl2;cases r with
          | non=>cases rr;simp only [eqD];exact SeqAt.EqAt.none_tuple pl2 hu'
          | bl x1=>cases rr;simp only [eqD];exact SeqAt.EqAt.bool_tuple _ pl2 hu'
          | int x1=>obtain ⟨t,rfl⟩:=rr;simp only [eqD];exact SeqAt.EqAt.int_tuple _ _ pl2 hu'
          | str x1=>obtain ⟨t,rfl⟩:=rr;simp only [eqD];exact SeqAt.EqAt.str_tuple _ _ pl2 hu'
          | lst _ _ _ _ _=>cases h1
          | tup _ _ _ _=>cases h1
        | _=>cases h2
    | true=>
      cases r with
      | @lst _ a xs ds q1 f1 b1 l1 el1=>
        obtain rfl:rv=Value.ref a:=rr;obtain ⟨its,rv1,pl,_⟩:=I.list (SqL.of q1);have k1:=rv1.length;cases r2 with
        | @lst _ b ys es q2 f2 b2 l2 el2=>
          obtain rfl:ru=Value.ref b:=rr2;obtain ⟨its2,rv2,pl2,_⟩:=I.list (SqL.of q2);have k2:=rv2.length;by_cases hab:a=b
          · subst hab;have e:=(Rp.lst (n:=n) q1 f1 b1 l1 el1).inj (Rp.lst (n:=n) q2 f2 b2 l2 el2);rw [e,Fi];exact SeqAt.EqAt.same _
          · refine SeqAt.EqAt.of_refs hab ?_;simp only [eqD];by_cases hl:ds.length=es.length
            · rw [BS hl];have q:=SeqAt.RcAt.lists (A:=A) (e:=λ i=>eqD (ds.getD i .non) (es.getD i .non)) pl.isList pl2.isList (by simp;omega) hu' (Dh rv1 rv2 l1 l2 el1 el2 λ r r2 rr rr2=>ih r r2 rr rr2 (by rw [BG];omega));rw [show its.toArray.size=ds.length by simp;omega] at q;exact q
            · rw [BM hl];exact SeqAt.RcAt.lists_lengths pl.isList pl2.isList (by simp;omega) hu'
        | @tup _ b ys es q2 b2 l2 el2=>
          obtain rfl:ru=Value.ref b:=rr2;obtain ⟨its2,rv2,pl2,_⟩:=I.tuple (SqT.of q2);simp only [eqD];exact SeqAt.EqAt.list_tuple pl.isList (show s.heap.IsTuple b its2.toArray from pl2) hu'
        | non=>cases rr2;simp only [eqD];exact SeqAt.EqAt.list_none pl.isList hu'
        | bl x1=>cases rr2;simp only [eqD];exact SeqAt.EqAt.list_bool _ pl.isList hu'
        | int x1=>obtain ⟨t,rfl⟩:=rr2;simp only [eqD];exact SeqAt.EqAt.list_int _ _ pl.isList hu'
        | str x1=>obtain ⟨t,rfl⟩:=rr2;simp only [eqD];exact SeqAt.EqAt.list_str _ _ pl.isList hu'
      | @tup _ a xs ds q1 b1 l1 el1=>
        obtain rfl:rv=Value.ref a:=rr;obtain ⟨its,rv1,pl,_⟩:=I.tuple (SqT.of q1);have pl:s.heap.IsTuple a its.toArray:=pl;have k1:=rv1.length;cases r2 with
        | @tup _ b ys es q2 b2 l2 el2=>
          obtain rfl:ru=Value.ref b:=rr2;obtain ⟨its2,rv2,pl2,_⟩:=I.tuple (SqT.of q2);have pl2:s.heap.IsTuple b its2.toArray:=pl2;have k2:=rv2.length;by_cases hab:a=b
          · subst hab;have e:=(Rp.tup (n:=n) (F:=F) q1 b1 l1 el1).inj (Rp.tup (n:=n) (F:=G) q2 b2 l2 el2);rw [e,Fi];exact SeqAt.EqAt.same _
          · refine SeqAt.EqAt.of_refs hab ?_;simp only [eqD];have q:=SeqAt.RcAt.tuples (A:=A) (e:=λ i=>eqD (ds.getD i .non) (es.getD i .non)) pl pl2 hu' (Dh rv1 rv2 l1 l2 el1 el2 λ r r2 rr rr2=>ih r r2 rr rr2 (by rw [BG];omega));have e1:its.toArray.size=ds.length:=by simp;omega
            have e2:its2.toArray.size=es.length:=by simp;omega
            rw [e1,e2] at q;by_cases hl:ds.length=es.length
            · rw [BS hl];rw [<-hl,Nat.min_self,beq_self_eq_true,Bool.and_true] at q;exact q
            · rw [BM hl];rw [beq_eq_false_iff_ne.mpr hl,Bool.and_false] at q;exact q
        | @lst _ b ys es q2 f2 b2 l2 el2=>
          obtain rfl:ru=Value.ref b:=rr2;obtain ⟨its2,rv2,pl2,_⟩:=I.list (SqL.of q2);simp only [eqD];exact SeqAt.EqAt.tuple_list pl pl2.isList hu'
        | non=>cases rr2;simp only [eqD];exact SeqAt.EqAt.tuple_none pl hu'
        | bl x1=>cases rr2;simp only [eqD];exact SeqAt.EqAt.tuple_bool _ pl hu'
        | int x1=>obtain ⟨t,rfl⟩:=rr2;simp only [eqD];exact SeqAt.EqAt.tuple_int _ _ pl hu'
        | str x1=>obtain ⟨t,rfl⟩:=rr2;simp only [eqD];exact SeqAt.EqAt.tuple_str _ _ pl hu'
      | _=>cases h1
def Pz (neg:Bool):R2:=λ x y H Q=>∃ (n:Nat) (d e:Dt),n<=30/\Rp H FT n x d/\Rp H FT n y e/\(BW d&&BW e||BA d&&BA e)=true/\Q (.bl (if neg then !eqD d e else eqD d e)) H
theorem PR (hu:X.A.units+64<cLine):OpR X (compareOp .Eq) (Pz false):=by
  intro pins s σ H x y v u Q I rx ry h;obtain ⟨n,d,e,hn,r,r2,hs,q⟩:=h;cases r with
  | @lst m a xs ds q1 f1 b1 l1 el1=>
    cases r2 with
    | @lst _ b ys es q2 f2 b2 l2 el2=>
      obtain rfl:v=Value.ref a:=rx;obtain rfl:u=Value.ref b:=ry;obtain ⟨its,rv1,pl,_⟩:=I.list (SqL.of q1);obtain ⟨its2,rv2,pl2,_⟩:=I.list (SqL.of q2);have k1:=rv1.length;have k2:=rv2.length;have q:Q (.bl (CO ds es)) H:=by
        have q:=q;unfold eqD at q;exact q
      by_cases hl:ds.length=es.length
      · refine SeqAt.eq_listAt (e:=λ i=>eqD (ds.getD i .non) (es.getD i .non)) pl.isList pl2.isList (by simp;omega) (by omega) (Dh rv1 rv2 l1 l2 el1 el2 λ r r2 rr rr2=>GN I r r2 rr rr2 (by rw [BG];omega)) ⟨.bl _,H,I,rfl,?_⟩;rw [show its.toArray.size=ds.length by simp;omega, <-BS hl];exact q
      · refine SeqAt.eq_list_lengthsAt pl.isList pl2.isList (by simp;omega) (by omega) ⟨.bl _,H,I,rfl,?_⟩;rw [<-BM hl];exact q
    | _=>cases hs
  | @tup m a xs ds q1 b1 l1 el1=>
    cases r2 with
    | @tup _ b ys es q2 b2 l2 el2=>
      obtain rfl:v=Value.ref a:=rx;obtain rfl:u=Value.ref b:=ry;obtain ⟨its,rv1,pl,_⟩:=I.tuple (SqT.of q1);obtain ⟨its2,rv2,pl2,_⟩:=I.tuple (SqT.of q2);have k1:=rv1.length;have k2:=rv2.length;have q:Q (.bl (CO ds es)) H:=by
        have q:=q;unfold eqD at q;exact q
      refine SeqAt.eq_tupleAt (e:=λ i=>eqD (ds.getD i .non) (es.getD i .non)) (show s.heap.IsTuple a its.toArray from pl) (show s.heap.IsTuple b its2.toArray from pl2) (by omega) (Dh rv1 rv2 l1 l2 el1 el2 λ r r2 rr rr2=>GN I r r2 rr rr2 (by rw [BG];omega)) ⟨.bl _,H,I,rfl,?_⟩;have e1:its.toArray.size=ds.length:=by simp;omega
      have e2:its2.toArray.size=es.length:=by simp;omega
      rw [e1,e2];by_cases hl:ds.length=es.length
      · rw [<-hl,Nat.min_self,beq_self_eq_true,Bool.and_true, <-BS hl];exact q
      · rw [beq_eq_false_iff_ne.mpr hl,Bool.and_false, <-BM hl];exact q
    | _=>cases hs
  | _=>cases hs
theorem OJ (hu:X.A.units+64<cLine):OpR X (compareOp .NotEq) (Pz true):=by
  intro pins s σ H x y v u Q I rx ry h;obtain ⟨n,d,e,hn,r,r2,hs,q⟩:=h;cases r with
  | @lst m a xs ds q1 f1 b1 l1 el1=>
    cases r2 with
    | @lst _ b ys es q2 f2 b2 l2 el2=>
      obtain rfl:v=Value.ref a:=rx;obtain rfl:u=Value.ref b:=ry;obtain ⟨its,rv1,pl,_⟩:=I.list (SqL.of q1);obtain ⟨its2,rv2,pl2,_⟩:=I.list (SqL.of q2);have k1:=rv1.length;have k2:=rv2.length;have q:Q (.bl (!CO ds es)) H:=by
        have q:=q;unfold eqD at q;exact q
      by_cases hl:ds.length=es.length
      · refine SeqAt.RcNeAt.lists (e:=λ i=>eqD (ds.getD i .non) (es.getD i .non)) pl.isList pl2.isList (by simp;omega) (by omega) (Dh rv1 rv2 l1 l2 el1 el2 λ r r2 rr rr2=>GN I r r2 rr rr2 (by rw [BG];omega)) _ _ _ _ ⟨.bl _,H,I,rfl,?_⟩;rw [show its.toArray.size=ds.length by simp;omega, <-BS hl];exact q
      · refine SeqAt.RcNeAt.lists_lengths pl.isList pl2.isList (by simp;omega) (by omega) _ _ _ _ ⟨.bl _,H,I,rfl,?_⟩;rw [BM hl] at q;exact q
    | _=>cases hs
  | @tup m a xs ds q1 b1 l1 el1=>
    cases r2 with
    | @tup _ b ys es q2 b2 l2 el2=>
      obtain rfl:v=Value.ref a:=rx;obtain rfl:u=Value.ref b:=ry;obtain ⟨its,rv1,pl,_⟩:=I.tuple (SqT.of q1);obtain ⟨its2,rv2,pl2,_⟩:=I.tuple (SqT.of q2);have k1:=rv1.length;have k2:=rv2.length;have q:Q (.bl (!CO ds es)) H:=by
        have q:=q;unfold eqD at q;exact q
      refine SeqAt.RcNeAt.tuples (e:=λ i=>eqD (ds.getD i .non) (es.getD i .non)) (show s.heap.IsTuple a its.toArray from pl) (show s.heap.IsTuple b its2.toArray from pl2) (by omega) (Dh rv1 rv2 l1 l2 el1 el2 λ r r2 rr rr2=>GN I r r2 rr rr2 (by rw [BG];omega)) _ _ _ _ ⟨.bl _,H,I,rfl,?_⟩;have e1:its.toArray.size=ds.length:=by simp;omega
      have e2:its2.toArray.size=es.length:=by simp;omega
      rw [e1,e2];by_cases hl:ds.length=es.length
      · rw [<-hl,Nat.min_self,beq_self_eq_true,Bool.and_true, <-BS hl];exact q
      · rw [beq_eq_false_iff_ne.mpr hl,Bool.and_false, <-BM hl];exact q
    | _=>cases hs
  | _=>cases hs
end
end L2
namespace L2
open PySem PySem.Spec PyProof.Rows
abbrev dN (n:Nat):Dt:= .int (n:Nat)
def dT (ns:List Nat):Dt:= .tup (ns.map dN)
section
variable {H:Hp} {F:Addr->Prop} {n:Nat} {v:V}
theorem Kz {ds:List Dt} (r:Rp H F n v (.lst ds)):∃ m a vs,n=m+1/\v= .ref a/\H a=some (.lst vs)/\F a/\vs.length=ds.length/\vs.length<=100000/\∀ i,i<ds.length->Rp H F m (vs.getD i .non) (ds.getD i .non):=by
  cases r with
  | @lst m a vs _ h f b l e=>
    refine ⟨m,a,vs,rfl,rfl,h,f,l,b,λ i hi=>e i _ _ ?_ ?_⟩
    · rw [List.getD_eq_getElem?_getD,List.getElem?_eq_getElem (by omega)];rfl
    · rw [List.getD_eq_getElem?_getD,List.getElem?_eq_getElem hi];rfl
theorem N0 {ds:List Dt} (r:Rp H F n v (.tup ds)):∃ m a vs,n=m+1/\v= .ref a/\H a=some (.tup vs)/\vs.length=ds.length/\vs.length<=100000/\∀ i,i<ds.length->Rp H F m (vs.getD i .non) (ds.getD i .non):=by
  cases r with
  | @tup m a vs _ h b l e=>
    refine ⟨m,a,vs,rfl,rfl,h,l,b,λ i hi=>e i _ _ ?_ ?_⟩
    · rw [List.getD_eq_getElem?_getD,List.getElem?_eq_getElem (by omega)];rfl
    · rw [List.getD_eq_getElem?_getD,List.getElem?_eq_getElem hi];rfl
theorem KY {α β:Type} (f:α->β) (as:List α) (i:Nat) (x:β) (y:α) (h:i<as.length):(as.map f).getD i x=f (as.getD i y):=by simp [List.getD_eq_getElem?_getD,h]
theorem getD_mem {α:Type} {as:List α} {i:Nat} {y:α} (h:i<as.length):as.getD i y∈as:=by
  rw [List.getD_eq_getElem?_getD,List.getElem?_eq_getElem h];exact List.getElem_mem h
end
section
variable {H:Hp} {a:Addr} {kvs:List (Key × V)}
end
theorem LN {xs:List V} {k:Int} (h:0<=k):FA xs (some k) none=xs.drop k.toNat:=by
  unfold FA;have e2:HT.sIx xs.length xs.length none=xs.length:=rfl;rw [e2];have e1:HT.sIx xs.length 0 (some k)=min k.toNat xs.length:=by
    unfold HT.sIx;simp only;split <;> omega
  rw [e1];by_cases q:k.toNat<=xs.length
  · rw [Nat.min_eq_left q,List.take_of_length_le (by simp)]
  · rw [Nat.min_eq_right (by omega),List.drop_of_length_le (Nat.le_refl _),List.drop_of_length_le (by omega)];simp
theorem K3 {xs:List V} {k:Int} (h:0<=k):FA xs none (some k)=xs.take k.toNat:=by
  unfold FA;have e2:HT.sIx xs.length 0 none=0:=rfl;rw [e2,List.drop_zero];have e1:HT.sIx xs.length xs.length (some k)=min k.toNat xs.length:=by
    unfold HT.sIx;simp only;split <;> omega
  rw [e1,Nat.sub_zero];by_cases q:k.toNat<=xs.length
  · rw [Nat.min_eq_left q]
  · rw [Nat.min_eq_right (by omega),List.take_of_length_le (Nat.le_refl _),List.take_of_length_le (by omega)]
section
variable {K:PySem.W.Frag} {wi:TI} {own:List Str} {fr:List (Str × Nat)} {g:TG} {tc:TT} {te tl:TE} {tb:TS} {D:Ends} {σ:St} {H:Hp} {Q:VK} {R:It->Hp->Prop} {ta:TA}
theorem LZ (h:wi σ H λ J H1=>∀ D,H1 D=none->Dj J (Bz own fr σ) g tc te Q H1 D):Du wi own fr g tc te σ H Q:=h
theorem OQ (h:wi σ H λ J H1=>∃ W:Nat->Nat->St->Hp->Prop,(∃ m,W 0 m σ H1)/\∀ i m σ H,W i m σ H->
  (J.stop i H/\D.nx σ H)\/(J.go i H/\∃ N:St->Hp->Prop,(∀ σ' H',N σ' H'->∃ m',m'<m/\W (i+1) m' σ' H')/\∀ x H',J.yld i H x H'->g x σ H' λ σ2 H2=>tb { D with nx:=N,ct:=N,bk:=D.nx } σ2 H2)):OW wi g tb D σ H:=h
theorem OX (h:tl σ H λ x H1=>∃ a,x= .ref a/\(∃ xs,SqL K H1 a xs)/\R (Itl K a) H1):Ll K tl σ H R:=h
theorem OY (h:tl σ H λ x H1=>∃ a,x= .ref a/\(∃ xs,SqT K H1 a xs)/\R (Itt K a) H1):NT K tl σ H R:=h
theorem PB (h:tl σ H λ x H1=>∃ tp a,x= .ref a/\(∃ xs,SqS tp K H1 a xs)/\R (Isq tp K a) H1):iSq K tl σ H R:=h
theorem Pt (h:ta σ H λ vs H1=>∃ a,vs=[.ref a]/\(∃ xs,SqL K H1 a xs)/\R (Ite K a) H1):Nc K ta σ H R:=h
theorem PP (h:ta σ H λ vs H1=>∃ tp a,vs=[.ref a]/\(∃ xs,SqS tp K H1 a xs)/\R (Kx tp K a) H1):Ln K ta σ H R:=h
theorem O6 (h:ta σ H λ vs H1=>∃ t1 t2 a b,vs=[.ref a, .ref b]/\(∃ xs,SqS t1 K H1 a xs)/\(∃ ys,SqS t2 K H1 b ys)/\R (Izs t1 t2 K a b) H1):iZs K ta σ H R:=h
theorem Pe (h:ta σ H λ vs H1=>∃ j:Int,vs=[.int j]/\ -(2 ^ 62)<=j/\j<2 ^ 62/\R (Itr 0 j.toNat) H1):Nr ta σ H R:=h
theorem PF (h:ta σ H λ vs H1=>∃ i j:Int,vs=[.int i, .int j]/\(-(2 ^ 62)<=i/\i<2 ^ 62/\ -(2 ^ 62)<=j/\j<2 ^ 62)/\R (Itr i (j - i).toNat) H1):Nl ta σ H R:=h
end
theorem GG {K:PySem.W.Frag} {n:Nat} {t:TGs} {a:Addr} {xs:List V} {σ:St} {H:Hp} {QS:St->Hp->Prop} (h:SqT K H a xs) (l:xs.length=n) (k:t xs σ H QS):FG K n t (.ref a) σ H QS:=⟨a,xs,rfl,h,l,k⟩
theorem Lj {t:TG} {u:TGs} {v:V} {vs:List V} {σ:St} {H:Hp} {QS:St->Hp->Prop} (k:t v σ H λ σ' H'=>u vs σ' H' QS):BB t u (v::vs) σ H QS:=⟨v,vs,rfl,k⟩
theorem Ml {σ:St} {H:Hp} {QS:St->Hp->Prop} (k:QS σ H):GJ [] σ H QS:=⟨rfl,k⟩
theorem Bb {J:It} {g:TG} {H0 H:Hp} {n:Nat} {set:Nat->St->St} {tb:TS} {D:Ends} {σ:St} (S:FSrc J g H0 n set) (Pv:Nat->St->Hp->Prop) (h0:Pv 0 σ H) (hk:∀ i σ H',Pv i σ H'->Same H0 H')
    (hs:∀ i σ H' H3,i<n->Pv i σ H'->Same H' H3->tb { D with nx:=Pv (i+1),ct:=Pv (i+1),bk:=D.nx } (set i σ) H3) (hd:∀ σ H',Pv n σ H'->D.nx σ H'):
    ∃ W:Nat->Nat->St->Hp->Prop,(∃ m,W 0 m σ H)/\∀ i m σ H,W i m σ H->
      (J.stop i H/\D.nx σ H)\/(J.go i H/\∃ N:St->Hp->Prop,(∀ σ' H',N σ' H'->∃ m',m'<m/\W (i+1) m' σ' H')/\∀ x H',J.yld i H x H'->g x σ H' λ σ2 H2=>tb { D with nx:=N,ct:=N,bk:=D.nx } σ2 H2):=by
  refine ⟨λ i m σ H'=>m=n - i/\i<=n/\Pv i σ H',⟨n,by simp,Nat.zero_le _,h0⟩,?_⟩;rintro i m σ H1 ⟨rfl,hi,p⟩;by_cases hlt:i<n
  · exact .inr ⟨S.go i H1 hlt (hk _ _ _ p),Pv (i+1),λ σ' H' p'=>⟨n - (i+1),by omega,rfl,hlt,p'⟩,λ x H' y=>S.yld i σ H1 x H' _ hlt (hk _ _ _ p) y λ H3 s3=>hs i σ H1 H3 hlt p s3⟩
  · have e:i=n:=by omega
    subst e;exact .inl ⟨S.stop H1 (hk _ _ _ p),hd σ H1 p⟩
theorem Es {H:Hp} {i1 n:Nat}:FSrc (Itr 0 n) (AB i1) H n (λ i σ=>σ.set i1 (some (.int (i:Nat)))):=by
  have:=Lo (H:=H) (i1:=i1) (lo:=0) (n:=n);simpa using this
theorem BO {n:Nat} {σ0:St} {H:Hp} (h0:σ0[0]?=some none):SrcOk (Itr 0 n) (AB 0) σ0 H n (λ i=>σ0.set 0 (some (.int (i:Nat)))):=by
  have:=F7 (H:=H) (lo:=0) (n:=n) h0;simpa using this
theorem QL {H:Hp} {F:Addr->Prop} {n:Nat} {a:Addr} {x y:V} {d e:Dt} (h:H a=some (.lst [x,y])) (f:F a) (r1:Rp H F n x d) (r2:Rp H F n y e):Rp H F (n+1) (.ref a) (.lst [d,e]):=by
  refine .lst h f (by simp) rfl λ i v u h1 h2=> ?_
  match i with
  | 0=>cases h1;cases h2;exact r1
  | 1=>cases h1;cases h2;exact r2
  | i+2=>cases h1
theorem DT {H:Hp} {F:Addr->Prop} {n:Nat} {a:Addr} {x y:V} {d e:Dt} (h:H a=some (.tup [x,y])) (r1:Rp H F n x d) (r2:Rp H F n y e):Rp H F (n+1) (.ref a) (.tup [d,e]):=by
  refine .tup h (by simp) rfl λ i v u h1 h2=> ?_
  match i with
  | 0=>cases h1;cases h2;exact r1
  | 1=>cases h1;cases h2;exact r2
  | i+2=>cases h1
theorem Pc {A B:Prop} (h:B):if (!true)=true then A else B:=by simpa using h
theorem L6 {n:Nat} (G:Nat->Nat):(((List.range n).map λ i=>((G i:Nat):Int))).sum=(((List.range n).map G).sum:Nat):=by
  induction n with
  | zero=>rfl
  | succ n ih=>rw [List.range_succ,List.map_append,List.map_append,List.sum_append,List.sum_append,ih];simp
end L2
namespace L2
theorem getD_el {α:Type} {as:List α} {i:Nat} {y:α} (h:i<as.length):as.getD i y=as[i]:=by
  rw [List.getD_eq_getElem?_getD,List.getElem?_eq_getElem h];rfl
end L2
namespace L2
open PySem PySem.Spec PyProof.Rows
def Pk (i j:Int):Prop:=0<j/\j<2 ^ 200
theorem JI {j:Int} (h0:0<j) (h:j<2 ^ 200):j.natAbs.log2<9000:=by
  have h1:j.natAbs<2 ^ 200:=by omega
  have:=(Nat.log2_lt (show j.natAbs≠0 by omega)).mpr h1;omega
theorem Au {X:Cx}:OpR X (binaryOp .FloorDiv) (rI Pk λ i j=> .int (i / j)):=opI λ i j _ _ _ _ _ hc q=>by
  rw [<-Int.fdiv_eq_ediv_of_nonneg i (by have:=hc.1;omega)] at q;exact floordiv_int (by have:=hc.1;omega) q (.inl (PyProof.noPylong_of_log2 (JI hc.1 hc.2)))
section
variable {prog:Program} {w:World} {A:Around} {E:Value->Shared->Prop} {s:Shared} {T:String} {r d:Addr} {n:Nat} {P:Nat->Value->Prop} {St:Nat->Heap->Prop}
end
section
variable {prog:Program} {w:World} {A:Around} {E:Value->Shared->Prop} {s:Shared}
end
section
variable {X:Cx} {K:PySem.W.Frag} {e o:Expr} {ta:TA} {to:TE} {p p2 pos pos2 apos cpos:Pos}
end
section
variable {X:Cx} {K:PySem.W.Frag} {e o:Expr} {es:List Expr} {ta to:TE} {t:TA} {f name:Str} {pos apos cpos:Pos} {T id:String} {r:V->List V->Hp->VK->Prop}
theorem Ia (he:PE X e ta) (hb:attributeBase e f X.env (eval e X.env)=eval e X.env) (hK:X.K=K:=by rfl):PE X (.Attribute e f pos) (NO K ta f):=by
  subst hK;exact NH he hb
theorem Oi (pa:PlainAttrs T) (slot:Slot T name id) (hty:typeOf (.builtin id)=pure (.type "method_descriptor")) (hm:MtR X id r) (ho:PE X o to) (hK:X.K=K:=by rfl)
    (hbase:attributeBase o name X.env (eval o X.env)=eval o X.env:=by rfl) (hline:(apos.endLine == cpos.line)=true:=by rfl):PE X (.Call (.Attribute o name apos) [] [] cpos) (Of K T r to):=by
  subst hK;exact NJ pa slot hty hm ho hbase hline
theorem Ht (pa:PlainAttrs T) (slot:Slot T name id) (hty:typeOf (.builtin id)=pure (.type "method_descriptor")) (hm:MtR X id r) (ho:PE X o to) (ha:PA X (e::es) t) (hK:X.K=K:=by rfl)
    (hbase:attributeBase o name X.env (eval o X.env)=eval o X.env:=by rfl)
    (hfew:((backTo cpos (starEach (e::es) X.env)).all (λ x=> !x.1)&&(backToKw cpos (keywordEach [] X.env)).all (λ x=>x.1.isSome)
      && decide ((e::es).length+([]:List Keyword).length+(if ([]:List Keyword).isEmpty then 0 else 1)<30))=true:=by rfl)
    (hline:(apos.endLine == cpos.line)=true:=by rfl) (hs:starEach (e::es) X.env=(false,eval e X.env)::starEach es X.env:=by rfl) (hplain:(backTo cpos (starEach es X.env)).any (·.1)=false:=by rfl):
    PE X (.Call (.Attribute o name apos) (e::es) [] cpos) (tBM K T r to t):=by
  subst hK;exact PQ pa slot hty hm ho ha hbase hfew hline hs hplain
end
section
variable {prog:Program} {w:World} {A:Around} {E:Value->Shared->Prop} {s:Shared}
end
section
variable {X:Cx} {K:PySem.W.Frag} {e o:Expr} {ta:TA} {to:TE} {p p2 pos pos2 apos cpos:Pos}
end
section
variable {X:Cx} {k:Nat} {e o:Expr} {es:List Expr} {t:TA} {to:TE} {pos:Pos} {S:Addr->Sp->Prop}
end
theorem arg1 {α:Type} {P:List α->Prop} (h:∀ a0,P [a0]):∀ us:List α,us.length=1->P us:=λ us hl=>match us,hl with | [a0],_=>h a0
theorem arg2 {α:Type} {P:List α->Prop} (h:∀ a0 a1,P [a0,a1]):∀ us:List α,us.length=2->P us:=λ us hl=>match us,hl with | [a0,a1],_=>h a0 a1
theorem arg3 {α:Type} {P:List α->Prop} (h:∀ a0 a1 a2,P [a0,a1,a2]):∀ us:List α,us.length=3->P us:=λ us hl=>match us,hl with | [a0,a1,a2],_=>h a0 a1 a2
theorem arg4 {α:Type} {P:List α->Prop} (h:∀ a0 a1 a2 a3,P [a0,a1,a2,a3]):∀ us:List α,us.length=4->P us:=λ us hl=>match us,hl with | [a0,a1,a2,a3],_=>h a0 a1 a2 a3
theorem arg5 {α:Type} {P:List α->Prop} (h:∀ a0 a1 a2 a3 a4,P [a0,a1,a2,a3,a4]):∀ us:List α,us.length=5->P us:=λ us hl=>match us,hl with | [a0,a1,a2,a3,a4],_=>h a0 a1 a2 a3 a4
theorem arg6 {α:Type} {P:List α->Prop} (h:∀ a0 a1 a2 a3 a4 a5,P [a0,a1,a2,a3,a4,a5]):∀ us:List α,us.length=6->P us:=λ us hl=>match us,hl with | [a0,a1,a2,a3,a4,a5],_=>h a0 a1 a2 a3 a4 a5
theorem arg7 {α:Type} {P:List α->Prop} (h:∀ a0 a1 a2 a3 a4 a5 a6,P [a0,a1,a2,a3,a4,a5,a6]):∀ us:List α,us.length=7->P us:=λ us hl=>match us,hl with | [a0,a1,a2,a3,a4,a5,a6],_=>h a0 a1 a2 a3 a4 a5 a6
theorem arg8 {α:Type} {P:List α->Prop} (h:∀ a0 a1 a2 a3 a4 a5 a6 a7,P [a0,a1,a2,a3,a4,a5,a6,a7]):∀ us:List α,us.length=8->P us:=λ us hl=>match us,hl with | [a0,a1,a2,a3,a4,a5,a6,a7],_=>h a0 a1 a2 a3 a4 a5 a6 a7
theorem arg9 {α:Type} {P:List α->Prop} (h:∀ a0 a1 a2 a3 a4 a5 a6 a7 a8,P [a0,a1,a2,a3,a4,a5,a6,a7,a8]):∀ us:List α,us.length=9->P us:=λ us hl=>match us,hl with | [a0,a1,a2,a3,a4,a5,a6,a7,a8],_=>h a0 a1 a2 a3 a4 a5 a6 a7 a8
theorem G9 {M:Model} {A:Around} {E:Value->Shared->Prop} {s:Shared} {scope:Scope} {globals:Addr} {closure:List (Str × Addr)} {qual:Str} {outer:Env} {cx:Str} {Q:Env->Shared->Prop}
    (hc1:∀ n cl,cellsFrom n scope.names cl=(cx,n)::cl) (hc2:∀ h:Heap,pushCells h scope.names=h.push { cls:= .type "cell",data:= .cell none })
    (hQ:Q (newEnv scope s.heap.objs.size globals ((cx,s.heap.objs.size+1)::closure) qual none .none (some outer) builtinsNs) { s with heap:=(s.heap.push { cls:= .type "dict",data:= .dict #[] }).push { cls:= .type "cell",data:= .cell none } }):
    wpAny M A (newFunctionEnv scope globals closure [] qual none .none (some outer)) Q E s:=by
  simp only [newFunctionEnv,Option.isSome_some,if_true];refine wpAny_bind (wpAny_alloc ?_);refine wpAny_bind (wpAny_layCells _ (λ name kind cells=>by cases hkc:kind == NameKind.cell <;> simp [hkc]) _ _ _ _ ?_);rw [hc1,hc2];have e:(s.heap.push { cls:= .type "dict",data:= .dict #[] }).objs.size=s.heap.objs.size+1:=Heap.size_push ..;simp only [e];refine wpAny_bind ?_;rw [List.forIn_nil];exact wpAny_pure (wpAny_pure hQ)
structure BlkScopeC (X:Cx) (scope:Scope) (cx:Str) (own:List Str) (fr:List (Str × Nat)):Prop where
  kind:scope.kind= .function
  onec:∀ y∈scope.names,y.2= .cell->y.1=cx
  isc:scope.names.lookup cx=some .cell
  lay:∀ n cl,cellsFrom n scope.names cl=(cx,n)::cl
  push:∀ h:Heap,pushCells h scope.names=h.push { cls:= .type "cell",data:= .cell none }
  loc:∀ y∈scope.names,y.2= .local->scope.names.lookup y.1=some .local
  free:∀ y∈scope.names,y.2= .free->(X.env.scope.names.lookup y.1=some .cell\/X.env.scope.names.lookup y.1=some .free)
  fr:∀ p∈fr,X.N[p.2]?=some p.1/\(p.1,NameKind.free)∈scope.names
  only:∀ x,(x,NameKind.free)∈scope.names->scope.names.lookup x=some .free
def AW (X:Cx) (scope:Scope) (cx:Str) (own:List Str) (fr:List (Str × Nat)) (C:Addr) (ex:List Addr) (s:Shared) (H:Hp):Cx where
  prog:=X.prog
  w:=X.w
  K:=X.K
  mg:=X.mg
  base:=X.base
  A:=X.A
  N:=own++fr.map (·.1)
  s₀:=s
  H₀:=H
  env:=compEnvC scope ((cx,C+1)::As X.env.cells scope.names []) C X.env
  outer:=X.stack
  stack:=X.stack
  ex:=ex
  fn:=λ y=>y == cx
  calm:=X.calm
  pn:=[]
  xe:=λ _ _=>False
section
variable {X:Cx} {pins:List (Addr × Obj)} {σ:St} {H:Hp} {s:Shared} {scope:Scope} {cx:Str} {own:List Str} {fr:List (Str × Nat)} {fp:List Addr}
theorem BlkScopeC.cells (S:BlkScopeC X scope cx own fr) (ok:X.Ok):∀ y∈scope.names,y.2= .free->∃ c,X.env.cells.lookup y.1=some c:=λ y hy e=>ok.has y.1 (S.free y hy e)
theorem Eg {α:Type} {x y:Str} {a:α} {l:List (Str × α)} (h:y≠x):((x,a)::l).lookup y=l.lookup y:=by
  have:(y == x)=false:=by simpa using h
  rw [List.lookup_cons,this]
theorem Gg {α:Type} {x:Str} {a:α} {l:List (Str × α)}:((x,a)::l).lookup x=some a:=by rw [List.lookup_cons,beq_self_eq_true]
theorem Inv.blockC {h':Heap} {t':Nat} {m:Str->Option Value} (I:Inv X pins σ H s) (S:BlkScopeC X scope cx own fr) (hf:∀ b∈fp,BV X pins H b) (hlt:∀ b∈fp,b<s.heap.objs.size)
    (hns:h'.Ns s.heap.objs.size m) (hce:h'.IsCell (s.heap.objs.size+1) none) (k:∀ b o,s.heap.get? b=some o->h'.get? b=some o):
    Inv (AW X scope cx own fr s.heap.objs.size fp s H) [] (Bz own fr σ) H { s with heap:=h',toks:=t' }:=by
  have cs:∀ x c,(As X.env.cells scope.names []).lookup x=some c->X.env.cells.lookup x=some c:=DG _ _ (λ _ _ e=>by simp at e);have ck:∀ c v,s.heap.IsCell c v->h'.IsCell c v:=λ c v ⟨o,ho,hd⟩=>⟨o,k _ _ ho,hd⟩;have kf:∀ x,(x,NameKind.free)∈scope.names->∃ c,X.env.cells.lookup x=some c/\(As X.env.cells scope.names []).lookup x=some c:=λ x hx=>by
    obtain ⟨c0,e0⟩:=S.cells I.ok (x, .free) hx rfl;obtain ⟨c,e⟩:=DK (cells:=X.env.cells) scope.names [] x (.inl ⟨hx,c0,e0⟩);exact ⟨c,cs _ _ e,e⟩
  have rel:∀ x,(compEnvC scope ((cx,s.heap.objs.size+1)::As X.env.cells scope.names []) s.heap.objs.size X.env).kindOf x=(scope.names.lookup x).map λ k=>if (k == NameKind.free&&X.env.scope.kind == .function&&X.env.kindOf x == some .cell)=true then NameKind.cell else k:=λ x=>CI X.env x scope.names
  have nx:∀ y,(y,NameKind.free)∈scope.names->y≠cx:=λ y hy z=>by
    subst z;have:=S.only y hy;rw [S.isc] at this;cases this
  have old:∀ y c,X.env.cells.lookup y=some c->c<s.heap.objs.size:=λ y c e=>by
    obtain ⟨v,o,ho,_⟩:=I.cell y c e;exact Heap.lt_size ho
  have ct:∀ y c,(((cx,s.heap.objs.size+1)::As X.env.cells scope.names [])).lookup y=some c->(y=cx/\c=s.heap.objs.size+1)\/(y≠cx/\X.env.cells.lookup y=some c):=λ y c e=>by
    by_cases hy:y=cx
    · subst hy;rw [Gg] at e;exact .inl ⟨rfl,(Option.some.inj e).symm⟩
    · rw [Eg hy] at e;exact .inr ⟨hy,cs _ _ e⟩
  have nc:∀ y,scope.names.lookup y=some .cell->y=cx:=λ y e=>S.onec _ (PySem.mem_of_lookup e) rfl;refine ⟨⟨I.ok.mod,S.kind,I.ok.glob,I.ok.blt,Nat.le_refl _,λ x y c e1 e2=> ?inj,λ x hx=> ?_,λ x c e q=> ?cab,I.ok.hd,I.ok.frames, .inl rfl,
    λ b hb=>⟨Nat.ne_of_lt (hlt b hb),λ x c e=> ?exf⟩,I.bs,Nat.le_trans I.ok.bsz I.sz,λ b o e hb=> ?_,λ b hb z=>(List.mem_cons.mp (I.stkSub b z)).elim (hf b hb).2.1 (hf b hb).2.2.1,I.stack,I.stkFree⟩,
    rfl,I.bare,Un.kept k,⟨m,hns,λ i x v e1 e2 e3=> ?_⟩,λ x c e=> ?_,I.hok.fresh (Nat.le_refl _),λ x c e=> ?freeC,λ p hp=>absurd (show p∈([]:List (Addr × Obj)) from hp) (by simp),I.hok.kept k,?_⟩
  case inj=>
    rcases ct x c e1 with ⟨h1,h2⟩ | ⟨h1,h2⟩
    · rcases ct y c e2 with ⟨h3,h4⟩ | ⟨h3,h4⟩
      · rw [h1,h3]
      · have:=old y c h4;rw [h2] at this;exact absurd this (Nat.not_lt.mpr (Nat.le_succ _))
    · rcases ct y c e2 with ⟨h3,h4⟩ | ⟨h3,h4⟩
      · have:=old x c h2;rw [h4] at this;exact absurd this (Nat.not_lt.mpr (Nat.le_succ _))
      · exact I.ok.inj x y c h2 h4
  case cab=>
    have e:(x == cx)=true:=e;have ex:x=cx:=eq_of_beq e;rcases ct x c q with ⟨_,h2⟩ | ⟨h1,_⟩
    · rw [h2];exact Nat.le_succ _
    · exact absurd ex h1
  case exf=>
    rcases ct x c e with ⟨_,h2⟩ | ⟨_,h2⟩
    · have:=hlt b hb;intro z;rw [<-z,h2] at this;exact absurd this (Nat.not_lt.mpr (Nat.le_succ _))
    · exact (hf b hb).2.2.2.2.1 x c h2
  case freeC=>
    rcases ct x c e with ⟨_,h2⟩ | ⟨_,h2⟩
    · rw [h2];exact I.hok.fresh (Nat.le_succ _)
    · exact I.freeC x c h2
  · have hx:(compEnvC scope ((cx,s.heap.objs.size+1)::As X.env.cells scope.names []) s.heap.objs.size X.env).kindOf x=some .cell\/(compEnvC scope ((cx,s.heap.objs.size+1)::As X.env.cells scope.names []) s.heap.objs.size X.env).kindOf x=some .free:=hx;rw [rel x] at hx;by_cases hxc:x=cx
    · subst hxc;exact ⟨_,Gg⟩
    have q:scope.names.lookup x=some .free:=by
      cases e:scope.names.lookup x with
      | none=>rw [e] at hx;simp at hx
      | some kk=>
        rw [e] at hx;simp only [Option.map_some,Option.some.injEq] at hx;by_cases hk:kk= .free
        · rw [hk]
        · have hb:(kk == NameKind.free)=false:=by simpa using hk
          simp only [hb,Bool.false_and,Bool.false_eq_true,if_false] at hx;rcases hx with hx | hx
          · rw [hx] at e;exact absurd (nc x e) hxc
          · exact absurd hx hk
    obtain ⟨c,_,e⟩:=kf x (PySem.mem_of_lookup q);exact ⟨c,(Eg hxc).trans e⟩
  · rcases (hf b hb).2.2.2.1 with z | z
    · exact I.ok.noex b o e z
    · exact absurd (Nat.lt_of_lt_of_le (Heap.lt_size (I.ok.bs b o e).1) z) (Nat.lt_irrefl _)
  · have e1:(own++fr.map (·.1))[i]?=some x:=e1;have e2:(Bz own fr σ)[i]?=some (some v):=e2;unfold Bz at e2;by_cases hi:i<own.length
    · rw [List.getElem?_append_left (by simpa using hi),List.getElem?_map] at e2;rw [List.getElem?_eq_getElem hi] at e2;simp at e2
    · rw [List.getElem?_append_right (by simpa using hi),List.getElem?_map,List.length_map] at e2;rw [List.getElem?_append_right (by omega),List.getElem?_map] at e1;cases ep:fr[i - own.length]? with
      | none=>rw [ep] at e1;simp at e1
      | some p=>
        rw [ep] at e1 e2;simp only [Option.map_some,Option.some.injEq] at e1 e2;subst e1;obtain ⟨h1,h2⟩:=S.fr p (List.mem_of_getElem? ep);have e4:σ[p.2]?=some (some v):=by
          cases q:σ[p.2]? with
          | none=>rw [q] at e2;simp at e2
          | some z=>rw [q] at e2;simp at e2;rw [e2]
        have kx:=S.free _ h2 rfl;obtain ⟨m0,hn0,hl0⟩:=I.loc;obtain ⟨u,r,l⟩:=hl0 p.2 p.1 v h1 e4 (kx.elim (λ z=> .inr (.inl z)) λ z=> .inr (.inr z));refine ⟨u,r,?_⟩;rcases l with ⟨z,_⟩ | ⟨_,c,hc,hcell⟩
        · have z:X.env.scope.names.lookup p.1=some .local:=z;rcases kx with y | y <;> (rw [y] at z;cases z)
        · obtain ⟨c',q1,q2⟩:=kf p.1 h2;rw [hc] at q1;cases q1;refine .inr ⟨?_,c,(Eg (nx _ h2)).trans q2,ck _ _ hcell⟩;show (compEnvC scope ((cx,s.heap.objs.size+1)::As X.env.cells scope.names []) s.heap.objs.size X.env).kindOf p.1=some .cell\/(compEnvC scope ((cx,s.heap.objs.size+1)::As X.env.cells scope.names []) s.heap.objs.size X.env).kindOf p.1=some .free;have e3:(compEnvC scope ((cx,s.heap.objs.size+1)::As X.env.cells scope.names []) s.heap.objs.size X.env).kindOf p.1=some .local\/(compEnvC scope ((cx,s.heap.objs.size+1)::As X.env.cells scope.names []) s.heap.objs.size X.env).kindOf p.1=some .cell\/(compEnvC scope ((cx,s.heap.objs.size+1)::As X.env.cells scope.names []) s.heap.objs.size X.env).kindOf p.1=some .free:=e3;rcases e3 with e3 | e3
          · exfalso;rw [rel] at e3;cases e:scope.names.lookup p.1 with
            | none=>rw [e] at e3;cases e3
            | some kk=>
              rw [e] at e3;simp only [Option.map_some,Option.some.injEq] at e3;by_cases hk:kk= .free
              · subst hk;split at e3 <;> cases e3
              · have hb:(kk == NameKind.free)=false:=by simpa using hk
                simp only [hb,Bool.false_and,Bool.false_eq_true,if_false] at e3;subst e3;have:=S.only p.1 h2;rw [this] at e;cases e
          · exact e3
  · rcases ct x c e with ⟨_,h2⟩ | ⟨_,h2⟩
    · rw [h2];exact ⟨none,hce⟩
    · obtain ⟨v,z⟩:=I.cell x c h2;exact ⟨v,ck _ _ z⟩
  · unfold Bz;show _=(own++fr.map (·.1)).length;simp
end
section
variable {X:Cx}
theorem Km {cx:Str} {elt tg iter:Expr} {ifs:List Expr} {scope:Scope} {pos:Pos} {own:List Str} {fr:List (Str × Nat)} {g:TG} {tc:TT} {te:TE} (hc:X.calm=true) (S:BlkScopeC X scope cx own fr)
    (hg:∀ C ex s H,PG (AW X scope cx own fr C ex s H) tg g) (ht:∀ C ex s H,PTs (AW X scope cx own fr C ex s H) ifs tc) (he:∀ C ex s H,PE (AW X scope cx own fr C ex s H) elt te)
    {pins:List (Addr × Obj)} {σ:St} {H:Hp} {s:Shared} {it:Addr} {fp:List Addr} {tn:Nat->Heap->Prop} {J:It} {E:Value->Shared->Prop}
    (I:Inv X pins σ H s) (T:Turn X.prog X.w X.K tg J fp it tn) (st:tn 0 s.heap) (hf:∀ b∈fp,BV X pins H b) {Q:VK}
    (h:∀ D,H D=none->Dj J (Bz own fr σ) g tc te Q H D)
    {RR:Value->Addr->Result->Shared->Prop}
    (hR:∀ D C H' s',Inv X pins σ H' s'->(∃ m,s'.heap.Ns C m)->BV X pins H' C->Q (.ref D) H'->RR (.ref D) C (.ok .next) s'):
    wpAny (model X.prog X.w) X.A (newList []) (λ acc s₃=>wpAny (model X.prog X.w) X.A (newFunctionEnv scope X.env.globals (As X.env.cells scope.names []) [] X.env.qual none .none (some X.env)) (λ cenv s₄=>
      codeAny (model X.prog X.w) X.A (.compStart (.ListComp elt [⟨tg,iter,ifs,0⟩] scope pos) 0 (.ref it) acc { cenv with scope:=relabel scope X.env }) (RR acc cenv.locals) s₄) E s₃) E s:=by
  have hDn:H s.heap.objs.size=none:=I.fresh;obtain ⟨W,⟨m0,w0⟩,turn⟩:=h s.heap.objs.size hDn;have I3:Inv X pins σ (upd H s.heap.objs.size (.lst [])) { s with heap:=s.heap.push { cls:= .type "list",data:= .seq ([]:List Value).toArray },toks:=s.toks }:=I.lnew .nil (Nat.zero_le _);refine wpAny_newObj_type ?_;generalize hs3:({ s with heap:=s.heap.push { cls:= .type "list",data:= .seq ([]:List Value).toArray } }:Shared)=s3 at I3 ⊢;have I3:Inv X pins σ (upd H s.heap.objs.size (.lst [])) s3:=I3;have old3:∀ b o,s.heap.get? b=some o->s3.heap.get? b=some o:=λ b o e=>by rw [<-hs3];exact Heap.get?_push_of_some _ e
  have hobj:∀ b∈fp,∃ o,s.heap.get? b=some o/\∀ v,o.data≠ .cell v:=T.obj 0 _ st;have hne:∀ b∈fp,b≠s.heap.objs.size:=λ b hb=>by obtain ⟨o,e,_⟩:=hobj b hb;exact Nat.ne_of_lt (Heap.lt_size e)
  have hf3:∀ b∈fp,BV X pins (upd H s.heap.objs.size (.lst [])) b:=λ b hb=>⟨by rw [Al (hne b hb)];exact (hf b hb).1,(hf b hb).2⟩;have hlt3:∀ b∈fp,b<s3.heap.objs.size:=λ b hb=>by obtain ⟨o,e,_⟩:=hobj b hb;exact Heap.lt_size (old3 b o e)
  refine G9 S.lay S.push ?_;generalize hh1:((s3.heap.push { cls:= .type "dict",data:= .dict #[] }).push { cls:= .type "cell",data:= .cell none }:Heap)=h₁;have keep:∀ b o,s3.heap.get? b=some o->h₁.get? b=some o:=λ b o e=>by rw [<-hh1];exact Heap.get?_push_of_some _ (Heap.get?_push_of_some _ e)
  have hns:h₁.Ns s3.heap.objs.size (λ _=>none):=by rw [<-hh1];exact (Heap.Ns.new ..).push _
  have hce:h₁.IsCell (s3.heap.objs.size+1) none:=by
    rw [<-hh1];refine ⟨{ cls:= .type "cell",data:= .cell none },?_,rfl⟩;have:=Heap.get?_push_size (s3.heap.push { cls:= .type "dict",data:= .dict #[] }) (o:={ cls:= .type "cell",data:= .cell none }) rfl;rw [Heap.size_push] at this;exact this
  have J0:=I3.blockC (t':=s3.toks) S hf3 hlt3 hns hce keep;have st3:tn 0 h₁:=T.keep 0 _ _ st λ b hb o e=>keep b o (old3 b o e);have loop:codeAny (model X.prog X.w) X.A (.compLoop (.ListComp elt [⟨tg,iter,ifs,0⟩] scope pos) 0 (.ref it) (.ref s.heap.objs.size) (compEnvC scope ((cx,s3.heap.objs.size+1)::As X.env.cells scope.names []) s3.heap.objs.size X.env))
      (RR (.ref s.heap.objs.size) s3.heap.objs.size) { s3 with heap:=h₁ }:=by
    have stat:∀ {H':Hp},(∀ b∈fp,H' b=none)->∀ b∈fp,BV (AW X scope cx own fr s3.heap.objs.size fp s3 (upd H s.heap.objs.size (.lst []))) [] H' b:=λ {H'} hn b hb=>
      ⟨hn b hb,Nat.ne_of_lt (hlt3 b hb),J0.ok.exfs b hb, .inl hb,(J0.ok.exf b hb).2,λ p hp=>absurd (show p∈([]:List (Addr × Obj)) from hp) (by simp)⟩
    refine EB (λ n s'=>∃ i ys H',Inv (AW X scope cx own fr s3.heap.objs.size fp s3 (upd H s.heap.objs.size (.lst []))) [] (Bz own fr σ) H' s'/\tn i s'.heap/\(∀ b∈fp,H' b=none)/\W i n ys H') ?_ m0
      ⟨0,[],_,J0,st3,λ b hb=>(hf3 b hb).1,w0⟩
    rintro n s4 ⟨i,ys,H4,I4,st4,fr4,w4⟩;rcases turn i n ys H4 w4 with ⟨stop,q⟩ | ⟨go,N,hN,step⟩
    · refine thn (T.done (AW X scope cx own fr s3.heap.objs.size fp s3 (upd H s.heap.objs.size (.lst []))) rfl rfl rfl hc i [] s4 _ H4 (λ _ _=>False) I4 (stat fr4) st4 stop) λ r s5 ⟨hr,I5⟩=> ?_;subst hr;obtain ⟨m,hn,_⟩:=id I5.loc;exact hR _ _ H4 s5 (I3.call' I5.os I5.base I5.hok I5.bare λ b hb=>⟨(hf3 b hb).2.2.2.1,(hf3 b hb).2.1,(hf3 b hb).2.2.2.2.1,(hf3 b hb).2.2.2.2.2⟩) ⟨m,hn⟩ (I3.fpOk (Nat.le_refl _) I5.free) q
    · refine thn (T.item (AW X scope cx own fr s3.heap.objs.size fp s3 (upd H s.heap.objs.size (.lst []))) rfl rfl rfl hc i [] s4 _ H4 (λ _ _=>False) I4 (stat fr4) st4 go) λ r s5 ⟨u,hr,h5⟩=> ?_;subst hr;refine thn h5 λ _ s6 ⟨x,H6,I6,r6,y6,st6,fr6⟩=> ?_;have I6':=I6.pinned (stat fr6) (T.obj _ _ st6);refine thn (hg _ _ _ _ _ s6 _ H6 x u _ I6' r6 (step x H6 y6)) λ _ s7 ⟨σ7,H7,I7,kp,q7⟩=> ?_;refine thn (ht _ _ _ _ _ s7 σ7 H7 _ I7 q7) λ b s8 ⟨H8,I8,q8⟩=> ?_;have again:∀ {s9:Shared} {H9:Hp} {ys':List V},Inv (AW X scope cx own fr s3.heap.objs.size fp s3 (upd H s.heap.objs.size (.lst []))) ([]++Ex fp s6.heap) σ7 H9 s9->N ys' H9->
          ∃ m,m<n/\∃ i ys H',Inv (AW X scope cx own fr s3.heap.objs.size fp s3 (upd H s.heap.objs.size (.lst []))) [] (Bz own fr σ) H' s9/\tn i s9.heap/\(∀ b∈fp,H' b=none)/\W i m ys H':=λ {s9 H9 ys'} I9 n9=>by
        obtain ⟨m',hm,w9⟩:=hN ys' H9 n9;refine ⟨m',hm,i+1,ys',H9,I9.unpinned.weak kp.1.symm kp.2,T.keep _ _ _ st6 λ b hb o e=>(I9.pin (b,o) (List.mem_append_right _ (List.mem_append_right _ (Bg hb e)))).1,λ b hb=> ?_,w9⟩;obtain ⟨o,e,d⟩:=T.obj _ _ st6 b hb;exact (I9.pin (b,o) (List.mem_append_right _ (List.mem_append_right _ (Bg hb e)))).2.1
      cases b with
      | false=>
        rw [if_neg Bool.false_ne_true] at q8 ⊢;exact again I8 q8
      | true=>
        rw [if_pos rfl] at q8 ⊢;refine thn (he _ _ _ _ _ s8 σ7 H8 _ I8 q8) λ xv s9 ⟨y,H9,I9,r9,hD,hl,n9⟩=> ?_;refine thn (Bl _ s9 σ7 H9 (.ref s.heap.objs.size) [y] (.ref s.heap.objs.size) [xv] (λ _ H'=>H'=upd H9 s.heap.objs.size (.lst (ys++[y]))) I9 rfl (.cons r9 .nil) ⟨_,ys,y,rfl,rfl,hD,hl,rfl⟩) λ _ s10 ⟨_,H10,I10,_,q10⟩=> ?_;subst q10;exact again I10 n9
  exact codeAny_compStart_list loop (T.self _ 0 _ _ _ st3 loop)
theorem Lz {cx:Str} {elt tg iter:Expr} {ifs:List Expr} {scope:Scope} {pos:Pos} {own:List Str} {fr:List (Str × Nat)} {wi:TI} {g:TG} {tc:TT} {te:TE} (hc:X.calm=true) (S:BlkScopeC X scope cx own fr) (hi:PI X tg iter wi)
    (hg:∀ C ex s H,PG (AW X scope cx own fr C ex s H) tg g) (ht:∀ C ex s H,PTs (AW X scope cx own fr C ex s H) ifs tc) (he:∀ C ex s H,PE (AW X scope cx own fr C ex s H) elt te)
    (hs:∀ x,foldedSetIterable iter X.env x=pure x:=by intro _;rfl):PE X (.ListComp elt [⟨tg,iter,ifs,0⟩] scope pos) (Du wi own fr g tc te):=by
  intro pins s σ H Q I h;rw [eval_ListComp];refine wpAny_comprehension_free (use:=none) rfl hs (Ca (S.cells I.ok)) S.kind S.loc (thn (hi pins s σ H _ I h) λ xv s₁ h₁=>thn h₁ λ itv s₂ h₂=> ?_);obtain ⟨it,fp,tn,J,H2,rfl,I2,T,st2,f2,h2⟩:=h₂;refine Km (RR:=λ acc C=>compPost (model X.prog X.w) X.A X.xe none (EP X pins σ Q) acc C) hc S hg ht he I2 T st2 f2 h2 ?_;rintro D C H' s' I' ⟨m,hn⟩ f q;exact ⟨m,hn,λ h' sb=>⟨.ref D,H',I'.turned (t':=s'.toks) (it:=C) (λ b o hb e=>(sb.2 b hb).trans e) f.1 f.2.1 f.2.2.2.1 f.2.2.2.2.1 f.2.2.2.2.2,rfl,q⟩⟩
end
def FC (sc:Scope) (N:List Str) (scope:Scope) (cx:Str) (own:List Str) (fr:List (Str × Nat)):Bool:=
  decide (scope.kind= .function)&&
  (scope.names.all λ y=>(decide (y.2≠ .cell)||decide (y.1=cx))&&(decide (y.2≠ .local)||decide (scope.names.lookup y.1=some .local))&&
    (decide (y.2≠ .free)||((decide (sc.names.lookup y.1=some .cell)||decide (sc.names.lookup y.1=some .free))&&decide (scope.names.lookup y.1=some .free))))&&
  (fr.all λ p=>decide (N[p.2]?=some p.1)&&decide ((p.1,NameKind.free)∈scope.names))&&
  decide (scope.names.lookup cx=some .cell)&&decide ((own++fr.map (·.1)).Nodup)
section
variable {X:Cx} {scope:Scope} {cx:Str} {own:List Str} {fr:List (Str × Nat)}
theorem BlkScopeC.of (h:FC X.env.scope X.N scope cx own fr=true) (lay:∀ n cl,cellsFrom n scope.names cl=(cx,n)::cl) (push:∀ h:Heap,pushCells h scope.names=h.push { cls:= .type "cell",data:= .cell none }):BlkScopeC X scope cx own fr:=by
  unfold FC at h;simp only [Bool.and_eq_true,List.all_eq_true,decide_eq_true_iff,Bool.or_eq_true] at h;obtain ⟨⟨⟨⟨h1,h2⟩,h3⟩,h4⟩,h5⟩:=h;exact ⟨h1,λ y hy e=>(h2 y hy).1.1.resolve_left (λ z=>z e),h4,lay,push,λ y hy e=>(h2 y hy).1.2.resolve_left (λ z=>z e),λ y hy e=>((h2 y hy).2.resolve_left (λ z=>z e)).1,λ p hp=>h3 p hp,λ x hx=>((h2 _ hx).2.resolve_left (λ z=>z rfl)).2⟩
theorem MK {px:Pos} (h:FC X.env.scope X.N scope cx [cx] fr=true) (C:Addr) (ex:List Addr) (s:Shared) (H:Hp):PG (AW X scope cx [cx] fr C ex s H) (.Name cx px) (AB 0):=by
  unfold FC at h;simp only [Bool.and_eq_true,List.all_eq_true,decide_eq_true_iff,Bool.or_eq_true] at h;have hl:(relabel scope X.env).names.lookup cx=some .cell:=by
    have:=CI X.env cx scope.names;rw [h.1.2] at this;exact this
  exact AD h.2 rfl (.inr hl) (.inl (beq_self_eq_true cx))
theorem Ki {elt iter:Expr} {px:Pos} {ifs:List Expr} {pos:Pos} {wi:TI} {tc:TT} {te:TE} (hi:PI X (.Name cx px) iter wi)
    (ht:∀ C ex s H,PTs (AW X scope cx [cx] (Cm X.N scope) C ex s H) ifs tc) (he:∀ C ex s H,PE (AW X scope cx [cx] (Cm X.N scope) C ex s H) elt te)
    (hb:FC X.env.scope X.N scope cx [cx] (Cm X.N scope)=true:=by with_unfolding_all rfl) (hc:X.calm=true:=by rfl)
    (lay:∀ n cl,cellsFrom n scope.names cl=(cx,n)::cl:=by intro _ _;rfl) (push:∀ h:Heap,pushCells h scope.names=h.push { cls:= .type "cell",data:= .cell none }:=by intro _;rfl)
    (hs:∀ x,foldedSetIterable iter X.env x=pure x:=by intro _;rfl):PE X (.ListComp elt [⟨.Name cx px,iter,ifs,0⟩] scope pos) (Du wi [cx] (Cm X.N scope) (AB 0) tc te):=
  Lz hc (.of hb lay push) hi (λ C ex s H=>MK hb C ex s H) ht he hs
end
section
variable {X:Cx} {K:PySem.W.Frag} {scope:Scope} {fr:List (Str × Nat)}
theorem Kk {elt iter:Expr} {x:Str} {px:Pos} {ifs:List Expr} {pos:Pos} {wi:TI} {tc:TT} {te:TE} (hi:PI X (.Name x px) iter wi)
    (ht:∀ C ex s H,PTs (AG X scope [x] fr C ex s H) ifs tc) (he:∀ C ex s H,PE (AG X scope [x] fr C ex s H) elt te)
    (hb:CZ X.env.scope X.N scope [x] fr=true:=by with_unfolding_all rfl) (hc:X.calm=true:=by rfl)
    (hs:∀ x,foldedSetIterable iter X.env x=pure x:=by intro _;rfl):PE X (.ListComp elt [⟨.Name x px,iter,ifs,0⟩] scope pos) (Du wi [x] fr (AB 0) tc te):=
  GO hc (.of hb) hi (λ C ex s H=>Fc hb rfl C ex s H) ht he hs
end
section
variable {X:Cx} {e o:Expr} {es:List Expr} {t:TA} {to:TE} {pos:Pos} {S:Addr->Sp->Prop}
end
def CMulN (i j:Int):Prop:=∃ m n:Nat,i=m/\j=n/\m<2 ^ 900/\n<2 ^ 900
theorem CMulN.ok {i j:Int} (h:CMulN i j):IntMulOk i j:=by
  obtain ⟨m,n,rfl,rfl,h1,h2⟩:=h;have b1:=GW m;have b2:=GW n;have c1:=MM.bits_le h1;have c2:=MM.bits_le h2;unfold IntMulOk;have e:Builtin.Int.intTooBig (((Builtin.Int.intBits (m:Int):Nat):Int)+((Builtin.Int.intBits (n:Int):Nat):Int))=false:=by
    unfold Builtin.Int.intTooBig;rw [b1,b2];refine decide_eq_false (λ z=> ?_);have:(1800:Int)<=(bitsLine:Nat):=by decide
    omega
  rw [e];simp
theorem MB {X:Cx}:OpR X (binaryOp .Mult) (rI CMulN λ i j=> .int (i*j)):=opI λ _ _ _ _ _ _ _ hc q=>mul_int q hc.ok
def Nj:List V->Hp->VK->Prop:=λ xs H Q=>∃ i j,xs=[.int i, .int j]/\Q (.int (if j>i then j else i)) H
def Nm:List V->Hp->VK->Prop:=λ xs H Q=>∃ i j,xs=[.int i, .int j]/\Q (.int (if j<i then j else i)) H
section
variable {X:Cx} {K:PySem.W.Frag}
theorem KD (hc:X.calm=true:=by rfl):AV X (.builtin "max") Nj:=Kc hc
theorem N6 (hc:X.calm=true:=by rfl):AV X (.builtin "min") Nm:=J6 hc
end
theorem Me {H:Hp} {Q:VK} {i j:Int} (h:Q (.int (if j>i then j else i)) H):Nj [.int i, .int j] H Q:=⟨i,j,rfl,h⟩
theorem Mj {H:Hp} {Q:VK} {i j:Int} (h:Q (.int (if j<i then j else i)) H):Nm [.int i, .int j] H Q:=⟨i,j,rfl,h⟩
theorem L7 {xs:List V} {k l:Int} (h:0<=k) (h2:k<=l):FA xs (some k) (some l)=(xs.take l.toNat).drop k.toNat:=by
  unfold FA;have e1:HT.sIx xs.length 0 (some k)=min k.toNat xs.length:=by
    unfold HT.sIx;simp only;split <;> omega
  have e2:HT.sIx xs.length xs.length (some l)=min l.toNat xs.length:=by
    unfold HT.sIx;simp only;split <;> omega
  rw [e1,e2];by_cases q:k.toNat<=xs.length
  · rw [Nat.min_eq_left q];by_cases q2:l.toNat<=xs.length
    · rw [Nat.min_eq_left q2,List.drop_take]
    · rw [Nat.min_eq_right (by omega),List.take_of_length_le (l:=xs) (by omega),List.take_of_length_le (by simp)]
  · rw [List.drop_of_length_le (by omega),List.drop_of_length_le (by simp;omega)];simp
end L2
namespace HT
open PySem PySem.Spec PyProof.Rows
variable {prog:Program} {w:World} {A:Around} {E:Value->Shared->Prop} {s:Shared}
end HT
namespace L2
open PySem PySem.Spec PyProof.Rows
theorem GS:checkCount "sorted" 1 1 1=pure ():=rfl
def LK (tk tv:TE):TE:=λ σ H Q=>∀ p,H p=none->DH [(tk,tv)] σ (upd H p (.dT [])) λ ps H2=>∃ x y,ps=[(x,y)]/\∃ b ks,x= .ref b/\H2 b=some (.tup (List.map kV ks))/\H2 p=some (.dT [])/\Q (.ref p) (upd H2 p (.dT [(ks,y)]))
theorem Le {tk tv:TE} {σ:St} {H:Hp} {Q:VK} (h:∀ p,H p=none->DH [(tk,tv)] σ (upd H p (.dT [])) λ ps H2=>∃ x y,ps=[(x,y)]/\∃ b ks,x= .ref b/\H2 b=some (.tup (List.map kV ks))/\H2 p=some (.dT [])/\Q (.ref p) (upd H2 p (.dT [(ks,y)]))):LK tk tv σ H Q:=h
theorem Ib {X:Cx} {pos:Pos} {k v:Expr} {tk tv:TE} (hu:X.A.units+1<cLine) (hk:PE X k tk) (hv:PE X v tv):PE X (.Dict [some k] [v] pos) (LK tk tv):=by
  intro pins s σ H Q I q;have hn:=I.hok.fresh (Nat.le_refl s.heap.objs.size);have I1:=I.laid (a:=s.heap.objs.size) (o:= .dT []) (h':=s.heap.push { cls:= .type "dict",data:= .dict #[] }) (t':=s.toks) (λ _ _ q=>Heap.get?_push_of_some _ q) (Nat.le_refl _) (HP s.heap I.big);have hp:=KU (pos:=pos) hk hv (Mg (X:=X) (pos:=pos));refine wpAny_Dict_any rfl rfl (by simp) (by simp) (thn (hp pins _ σ _ _ I1 (q _ hn)) λ ws s2 ⟨ps,H2,I2,rel,x,y,ep,b,ks,ex,eb,e,q2⟩=> ?_)
  · subst ep ex;cases rel with
    | @cons _ w _ _ rw rr=>
      cases rr;obtain ⟨u,r⟩:=w;obtain ⟨ru,rv⟩:=rw;cases (show u=Value.ref b from ru);obtain ⟨z,hd,xs,rel,dd⟩:=KH I2.hok e;cases rel;show wpAny _ _ (forIn [(Value.ref b,r)] PUnit.unit _) _ _ _;rw [List.forIn_cons];refine wpAny_bind (wpAny_bind (wpAny_dictSet_heap (hsz:=by simp) ?_ (Eh I2.hok eb) dd λ h' dd' hs=>wpAny_pure ?_))
      · show X.A.units<cLine;omega
      · show wpAny _ _ (pure PUnit.unit) _ _ _;refine wpAny_pure ?_;refine ⟨.ref s.heap.objs.size,_,?_,rfl,q2⟩;obtain ⟨q',es,ep,hq,h2,h3,h4,_,h5⟩:=dd';refine GQ I2 (by rw [e];exact True.intro) hs ⟨q',hq⟩ ⟨by show 1<=sizeLine;decide,hd,_,?_,q',es,ep,hq,h2,h3,h4,h5⟩;exact .cons ⟨rfl,(Al (CT eb e (λ z=>nomatch z))).trans eb,rv⟩ .nil
def Hm (ta:TA):TE:=λ σ H Q=>ta σ H λ vs H1=>∃ i j:Int,vs=[.int i, .int j]/\(-(2 ^ 40)<=i/\i<2 ^ 40/\ -(2 ^ 40)<=j/\j<2 ^ 40)/\j - i<=100000/\∀ l,H1 l=none->Q (.ref l) (upd H1 l (.lst (((List.range (j - i).toNat).map λ k:Nat=>i+(k:Int)).map V.int)))
theorem IC {ta:TA} {σ:St} {H:Hp} {Q:VK} (h:ta σ H λ vs H1=>∃ i j:Int,vs=[.int i, .int j]/\(-(2 ^ 40)<=i/\i<2 ^ 40/\ -(2 ^ 40)<=j/\j<2 ^ 40)/\j - i<=100000/\∀ l,H1 l=none->Q (.ref l) (upd H1 l (.lst (((List.range (j - i).toNat).map λ k:Nat=>i+(k:Int)).map V.int)))):Hm ta σ H Q:=h
theorem J7 (i j:Int):Builtin.Range.rangeSize i j 1=(((j - i).toNat:Nat):Int):=by
  unfold Builtin.Range.rangeSize;rw [if_pos (by decide)];split <;> omega
theorem Fe {X:Cx} {a b:Expr} {ta:TA} {p p2 pos pos2:Pos} (hgl:Gl X "list") (hml:X.mg "list"=none) (hg:Gl X "range") (hm:X.mg "range"=none) (ha:PA X [a,b] ta) (hc:X.calm=true:=by rfl)
    (hs:starEach [a,b] X.env=[(false,eval a X.env),(false,eval b X.env)]:=by rfl) (hs2:starEach [b] X.env=[(false,eval b X.env)]:=by rfl)
    (hs1:starEach [Expr.Call (.Name "range" p2) [a,b] [] pos2] X.env=[(false,eval (.Call (.Name "range" p2) [a,b] [] pos2) X.env)]:=by rfl):
    PE X (.Call (.Name "list" p) [.Call (.Name "range" p2) [a,b] [] pos2] [] pos) (Hm ta):=by
  intro pins s σ H Q I h;have hmid:wpAny (model X.prog X.w) X.A (eval (.Call (.Name "range" p2) [a,b] [] pos2) X.env) (λ v s1=>∃ r i j t u w H1,v=Value.ref r/\Inv X pins σ H1 s1/\IsRange s1.heap r i j 1 t u w/\(-(2 ^ 40)<=i/\i<2 ^ 40/\ -(2 ^ 40)<=j/\j<2 ^ 40)/\j - i<=100000/\∀ l,H1 l=none->Q (.ref l) (upd H1 l (.lst (((List.range (j - i).toNat).map λ k:Nat=>i+(k:Int)).map V.int)))) X.xe s:=by
    refine Call_ (Cb I hg hm boot_range (PyProof.Rows.callWith_type1 (thn (ha pos2 pins s σ H _ I h) λ us s1 ⟨vs,H1,I1,r1,q1⟩=> ?_) (by rw [hs,hs2]) (by rw [hs2];rfl)));obtain ⟨i,j,e,bd,sm,q⟩:=q1;subst e;cases r1 with
    | cons r rr=>
      cases rr with
      | cons r' rr=>
        cases rr;obtain ⟨t,rfl⟩:=r;obtain ⟨t',rfl⟩:=r';refine call_range_2 ?_;exact ⟨_,i,j,t,t',_,H1,rfl,I1.kept λ b o e=>Heap.get?_push_of_some _ e,IsRange.new ..,bd,sm,q⟩
  refine wpAny_Call_Name_kw (Cb I hgl hml AJ (PyProof.Rows.callWith_type1 ?_ hs1 rfl));rw [hs1];refine Calls.spliced_cons (thn hmid λ v s1 ⟨r,i,j,t,u,w,H1,ev,I1,hr,bd,sm,q⟩=>Calls.spliced_nil ?_)
  · subst ev;obtain ⟨b1,b2,b3,b4⟩:=bd;refine call_list_range (I1.ok.hd hc) hr (small_one (by omega) (by omega) (by omega) (by omega)) (J7 i j) (by omega) λ h' tk acc c keep hg it=> ?_;have hv:Vals (((List.range (j - i).toNat).map λ k:Nat=>i+(k:Int)).map V.int) acc.toList:=by
      refine IK (by rw [Array.length_toList,it.1];simp) λ k u hu=> ?_;have hk:k<(j - i).toNat:=by
        have:=(List.getElem?_eq_some_iff.mp hu).1;rw [Array.length_toList,it.1] at this;exact this
      obtain ⟨t,rfl⟩:=it.2 k u (by rw [<-Array.getElem?_toList];exact hu);refine ⟨.int (i+(k:Int)),by simp [hk],?_⟩;rw [Int.mul_one];exact ⟨t,rfl⟩
    refine ⟨.ref s1.heap.objs.size,_,I1.laid (t':=tk) (o:= .lst (((List.range (j - i).toNat).map λ k:Nat=>i+(k:Int)).map V.int)) keep (Nat.le_refl _) ⟨?_,acc.toList,c,hv,?_⟩,rfl,q _ (I1.hok.fresh (Nat.le_refl _))⟩
    · rw [List.length_map,List.length_map,List.length_range];exact Nat.le_trans (show _<=100000 by omega) (by decide)
    · rw [hg]
def f2 (o:Obj):Option Value:=match o.data with
  | .fields vs=>vs[2]?
  | _=>none
section
variable {M:Model} {A:Around} {E:Value->Shared->Prop} {s:Shared}
end
end L2
namespace MSort
open PySem.W PyProof.Rows
def KP (lt:Nat->Nat->Bool) (n:Nat) {α:Type}:KasT α->(α->Prop)->Prop
  | .ret a,Q=>Q a
  | .ask i j k,Q=>i<n/\j<n/\KP lt n (k (lt i j)) Q
theorem Dd {lt:Nat->Nat->Bool} {n:Nat} {α β:Type} {f:α->KasT β} {Q:β->Prop}:∀ (t:KasT α),KP lt n t (λ a=>KP lt n (f a) Q)->KP lt n (t.bind f) Q
  | .ret _,h=>h
  | .ask i j k,h=>⟨h.1,h.2.1,Dd (k (lt i j)) h.2.2⟩
theorem B5 {lt:Nat->Nat->Bool} {n:Nat} {α:Type} {Q Q':α->Prop} (hq:∀ a,Q a->Q' a):∀ (t:KasT α),KP lt n t Q->KP lt n t Q'
  | .ret a,h=>hq a h
  | .ask i j k,h=>⟨h.1,h.2.1,B5 hq (k (lt i j)) h.2.2⟩
structure Ok (n:Nat) (p:Array Nat):Prop where
  size:p.size=n
  perm:p.toList.Perm (List.range n)
theorem Ok.lt {n:Nat} {p:Array Nat} (h:Ok n p) {i:Nat} (hi:i<n):p.getD i 0<n:=by
  have hi':i<p.size:=by rw [h.size];exact hi
  have e:p.getD i 0=p[i]:=by simp [Array.getD,hi']
  rw [e];have:=h.perm.mem_iff.mp (Array.mem_toList_iff.mpr (Array.getElem_mem hi'));exact List.mem_range.mp this
theorem Ok.inj {n:Nat} {p:Array Nat} (h:Ok n p) {i j:Nat} (hi:i<n) (hj:j<n) (e:p.getD i 0=p.getD j 0):i=j:=by
  have hi':i<p.size:=by rw [h.size];exact hi
  have hj':j<p.size:=by rw [h.size];exact hj
  have e1:p.getD i 0=p.toList[i]'(by simpa using hi'):=by simp [Array.getD,hi']
  have e2:p.getD j 0=p.toList[j]'(by simpa using hj'):=by simp [Array.getD,hj']
  rw [e1,e2] at e;have nd:p.toList.Nodup:=h.perm.symm.nodup List.nodup_range;exact (List.getElem_inj nd).mp e
theorem Ok.to {n:Nat} {p q:Array Nat} (h:Ok n p) (hq:q.Perm p):Ok n q:=
  ⟨hq.size_eq.trans h.size,(Array.perm_iff_toList_perm.mp hq).trans h.perm⟩
variable {r:Nat->Nat} {n:Nat} {p:Array Nat}
def K (r:Nat->Nat) (p:Array Nat) (i:Nat):Nat:=r (p.getD i 0)
def Inj (r:Nat->Nat) (n:Nat):Prop:=∀ i j,i<n->j<n->r i=r j->i=j
def L (r:Nat->Nat):Nat->Nat->Bool:=λ i j=>decide (r i<r j)
def Up (r:Nat->Nat) (p:Array Nat) (k:Nat):Prop:=∀ i j,i<j->j<k->K r p i<K r p j
def Dn (r:Nat->Nat) (p:Array Nat) (k:Nat):Prop:=∀ i j,i<j->j<k->K r p j<K r p i
theorem NE (hr:Inj r n) (o:Ok n p) {i j:Nat} (hi:i<n) (hj:j<n) (hij:i≠j):K r p i≠K r p j:=
  λ e=>hij (o.inj hi hj (hr _ _ (o.lt hi) (o.lt hj) e))
theorem DQ {p q:Array Nat} {i j:Nat} (h:p[i]?=q[j]?):p.getD i 0=q.getD j 0:=by
  have e:∀ (a:Array Nat) k,a.getD k 0=(a[k]?).getD 0:=λ a k=>by simp
  rw [e,e,h]
theorem Hl {src d:Nat} (hs:src<p.size) (hd:d<=src) (k:Nat):K r (bubble p src d) k=if k=src - d then K r p src else if src - d<k/\k<=src then K r p (k - 1) else K r p k:=by
  have e:=getElem?_bubble hs d hd k;unfold K;by_cases h1:k=src - d
  · rw [if_pos h1] at e ⊢;rw [DQ e]
  · rw [if_neg h1] at e ⊢;by_cases h2:src - d<k/\k<=src
    · rw [if_pos h2] at e ⊢;rw [DQ e]
    · rw [if_neg h2] at e ⊢;rw [DQ e]
theorem NB {j:Nat} (hj:j<=p.size) (k:Nat):K r (kas_rev p 0 j) k=if k<j then K r p (j - 1 - k) else K r p k:=by
  have e:=getElem?_mirror_all (i:=0) hj k;unfold K kas_rev;by_cases h1:k<j
  · rw [if_pos ⟨Nat.zero_le _,h1⟩] at e;rw [if_pos h1,DQ e,show 0+j - 1 - k=j - 1 - k by omega]
  · rw [if_neg (by omega)] at e;rw [if_neg h1,DQ e]
theorem asc (hr:Inj r n) (o:Ok n p):∀ (f m:Nat),m+f<=n->1<=m->Up r p m->KP (L r) n (kas_asc p f m) (λ m'=>m<=m'/\m'<=m+f/\Up r p m'/\(m'<m+f->K r p m'<K r p (m' - 1)))
  | 0,m,hm,h1,u=>⟨Nat.le_refl _,Nat.le_refl _,u,λ h=>absurd h (by omega)⟩
  | f+1,m,hm,h1,u=>by
    refine ⟨o.lt (by omega),o.lt (by omega),?_⟩;show KP (L r) n (if L r (p.getD m 0) (p.getD (m - 1) 0)=true then _ else _) _;by_cases c:K r p m<K r p (m - 1)
    · rw [if_pos (show L r (p.getD m 0) (p.getD (m - 1) 0)=true from decide_eq_true c)];exact ⟨Nat.le_refl _,by omega,u,λ _=>c⟩
    · rw [if_neg (show ¬ L r (p.getD m 0) (p.getD (m - 1) 0)=true from λ z=>c (of_decide_eq_true z))];have ne:=NE hr o (i:=m) (j:=m - 1) (by omega) (by omega) (by omega);refine B5 (λ m' h=> ?_) _ (asc hr o f (m+1) (by omega) (by omega) ?_)
      · obtain ⟨h1,h2,h3,h4⟩:=h;exact ⟨by omega,by omega,h3,λ z=>h4 (by omega)⟩
      · intro i j hij hj;by_cases e:j=m
        · subst e;by_cases e':i=j - 1
          · subst e';omega
          · have:=u i (j - 1) (by omega) (by omega);omega
        · exact u i j hij (by omega)
theorem OS (hr:Inj r n) (o:Ok n p):∀ (f m:Nat),m+f<=n->1<=m->Dn r p m->KP (L r) n (kas_desc f p m 0) (λ x=>x.1=p/\x.2.2=0/\m<=x.2.1/\x.2.1<=m+f/\Dn r p x.2.1)
  | 0,m,hm,h1,u=>⟨rfl,rfl,Nat.le_refl _,Nat.le_refl _,u⟩
  | f+1,m,hm,h1,u=>by
    refine ⟨o.lt (by omega),o.lt (by omega),?_⟩;show KP (L r) n (if L r (p.getD m 0) (p.getD (m - 1) 0)=true then _ else _) _;by_cases c:K r p m<K r p (m - 1)
    · rw [if_pos (show L r (p.getD m 0) (p.getD (m - 1) 0)=true from decide_eq_true c),if_neg (by omega)];refine B5 (λ m' h=> ?_) _ (OS hr o f (m+1) (by omega) (by omega) ?_)
      · obtain ⟨h1,h2,h3,h4,h5⟩:=h;exact ⟨h1,h2,by omega,by omega,h5⟩
      · intro i j hij hj;by_cases e:j=m
        · subst e;by_cases e':i=j - 1
          · subst e';omega
          · have:=u i (j - 1) (by omega) (by omega);omega
        · exact u i j hij (by omega)
    · rw [if_neg (show ¬ L r (p.getD m 0) (p.getD (m - 1) 0)=true from λ z=>c (of_decide_eq_true z))];have ne:=NE hr o (i:=m) (j:=m - 1) (by omega) (by omega) (by omega);refine ⟨o.lt (by omega),o.lt (by omega),?_⟩;show KP (L r) n (if L r (p.getD (m - 1) 0) (p.getD m 0)=true then _ else _) _;rw [if_pos (show L r (p.getD (m - 1) 0) (p.getD m 0)=true from decide_eq_true (show K r p (m - 1)<K r p m by omega))];exact ⟨rfl,rfl,Nat.le_refl _,Nat.le_add_right _ _,u⟩
theorem Ox:Up r p 1:=λ i j a b=>by omega
theorem PL (hr:Inj r n) (o:Ok n p) {m:Nat} (h1:1<=m) (hm:m<=n) (d:Dn r p m):KP (L r) n (kas_tail3 m n p) (λ x=>Ok n x.2/\1<=x.1/\x.1<=n/\Up r x.2 x.1):=by
  unfold kas_tail3;have o':Ok n (kas_rev p 0 m):=o.to (mirror_perm _ _ _ _);have u:Up r (kas_rev p 0 m) m:=by
    intro i j hij hj;rw [NB (by rw [o.size];exact hm),NB (by rw [o.size];exact hm),if_pos (by omega),if_pos hj];exact d _ _ (by omega) (by omega)
  refine Dd _ (B5 (λ m' h=> ?_) _ (asc hr o' (n - m) m (by omega) h1 u));exact ⟨o',by omega,by omega,h.2.2.1⟩
theorem count (hr:Inj r n) (o:Ok n p) (h0:1<=n):KP (L r) n (kas_count n p) (λ x=>Ok n x.2/\1<=x.1/\x.1<=n/\Up r x.2 x.1):=by
  unfold kas_count;refine Dd _ (B5 (λ m h=> ?_) _ (asc hr o (n - 1) 1 (by omega) (by omega) Ox));obtain ⟨a1,a2,a3,a4⟩:=h;by_cases e:m=n
  · rw [if_pos (by simp [e])];exact ⟨o,a1,by omega,a3⟩
  · rw [if_neg (by simpa using e)];have c:=a4 (by omega);by_cases g:m>1
    · rw [if_pos g];refine ⟨o.lt (by omega),o.lt (by omega),?_⟩;show KP (L r) n (if L r (p.getD 0 0) (p.getD (m - 1) 0)=true then _ else _) _;rw [if_pos (show L r (p.getD 0 0) (p.getD (m - 1) 0)=true from decide_eq_true (show K r p 0<K r p (m - 1) from a3 0 (m - 1) (by omega) (by omega)))];exact ⟨o,a1,by omega,a3⟩
    · rw [if_neg g];have e1:m=1:=by omega
      subst e1;unfold kas_descPart;refine Dd _ (B5 (λ x h=> ?_) _ (OS hr o (n - (1+1)) (1+1) (by omega) (by omega) ?_))
      · obtain ⟨b1,b2,b3,b4,b5⟩:=h;rw [if_neg (by omega),b1];exact PL hr o (by omega) (by omega) b5
      · intro i j hij hj;have:i=0/\j=1:=by omega
        obtain ⟨rfl,rfl⟩:=this;exact c
theorem Ku (hr:Inj r n) (o:Ok n p) {k:Nat} (hk:k<n):∀ (f l h:Nat),h - l<=f->l<=h->h<=k->(∀ i,i<l->K r p i<K r p k)->(∀ i,h<=i->i<k->K r p k<K r p i)->Up r p k->
    KP (L r) n (kas_place p k f l h) (λ x=>x<=k/\(∀ i,i<x->K r p i<K r p k)/\(∀ i,x<=i->i<k->K r p k<K r p i))
  | 0,l,h,e,a,b,c,d,u=>⟨by omega,c,λ i h1 h2=>d i (by omega) h2⟩
  | f+1,l,h,e,a,b,c,d,u=>by
    show KP (L r) n (if l>=h then _ else _) _;by_cases g:l>=h
    · rw [if_pos g];exact ⟨by omega,c,λ i h1 h2=>d i (by omega) h2⟩
    · rw [if_neg g];have hmk:(l+h) / 2<k:=by omega
      refine ⟨o.lt hk,o.lt (by omega),?_⟩;show KP (L r) n (if L r (p.getD k 0) (p.getD ((l+h) / 2) 0)=true then _ else _) _;by_cases z:K r p k<K r p ((l+h) / 2)
      · rw [if_pos (show L r (p.getD k 0) (p.getD ((l+h) / 2) 0)=true from decide_eq_true z)];refine Ku hr o hk f l _ (by omega) (by omega) (by omega) c (λ i h1 h2=> ?_) u;by_cases e':i=(l+h) / 2
        · rw [e'];exact z
        · have:=u _ i (show (l+h) / 2<i by omega) h2;omega
      · rw [if_neg (show ¬ L r (p.getD k 0) (p.getD ((l+h) / 2) 0)=true from λ y=>z (of_decide_eq_true y))];have ne:=NE hr o hk (show (l+h) / 2<n by omega) (by omega);refine Ku hr o hk f _ h (by omega) (by omega) (by omega) (λ i h1=> ?_) d u;by_cases e':i=(l+h) / 2
        · rw [e'];omega
        · have:=u i _ (show i<(l+h) / 2 by omega) hmk;omega
theorem bin (hr:Inj r n):∀ (f k:Nat) (p:Array Nat),Ok n p->k+f=n->Up r p k->KP (L r) n (kas_bin f p k) (λ x=>Ok n x/\Up r x n)
  | 0,k,p,o,e,u=>⟨o,(show k=n by omega)▸u⟩
  | f+1,k,p,o,e,u=>by
    refine Dd _ (B5 (λ l h=> ?_) _ (Ku hr o (k:=k) (by omega) k 0 k (by omega) (by omega) (Nat.le_refl _) (λ i h=>by omega) (λ i h1 h2=>by omega) u));obtain ⟨h1,h2,h3⟩:=h;have hs:k<p.size:=by rw [o.size];omega
    refine bin hr f (k+1) _ (o.to (bubble_perm _ _ _)) (by omega) ?_;intro i j hij hj;rw [Hl hs (by omega),Hl hs (by omega),show k - (k - l)=l by omega];by_cases a:i=l
    · rw [if_pos a,if_neg (by omega),if_pos (by omega)];exact h3 _ (by omega) (by omega)
    · rw [if_neg a];by_cases b:j=l
      · rw [if_pos b,if_neg (by omega)];exact h2 _ (by omega)
      · rw [if_neg b];by_cases c:l<i/\i<=k
        · rw [if_pos c,if_pos (by omega)];exact u _ _ (by omega) (by omega)
        · rw [if_neg c];by_cases d:l<j/\j<=k
          · rw [if_pos d];by_cases e:i<j - 1
            · exact u _ _ e (by omega)
            · omega
          · rw [if_neg d];exact u _ _ hij (by omega)
theorem sort (hr:Inj r n) (h0:1<=n):KP (L r) n (kas_sort n) (λ x=>Ok n x/\Up r x n):=by
  unfold kas_sort;refine Dd _ (B5 (λ x h=> ?_) _ (count hr (p:=List.toArray (List.range n)) ⟨by simp,by simp⟩ h0));obtain ⟨a,b,c,d⟩:=h;by_cases g:x.1<n
  · rw [if_pos g];have e:max x.1 1=x.1:=by omega
    rw [e];exact bin hr _ _ _ a (by omega) d
  · rw [if_neg g];have e:x.1=n:=by omega
    exact ⟨a,e▸d⟩
end MSort
namespace HT
open PySem PySem.Spec PyProof.Rows PySem.W
variable {prog:Program} {w:World} {A:Around} {E:Value->Shared->Prop} {s:Shared}
def RawD (d:Addr) (es:Array DictEntry) (ep:Nat) (h:Heap):Prop:=∃ o,h.get? d=some o/\o.ExactDict/\o.data= .dict es ep
theorem RawD.type {d:Addr} {es:Array DictEntry} {ep:Nat} (x:RawD d es ep s.heap):s.TypeIs (.ref d) "dict":=⟨_,x.choose_spec.1,x.choose_spec.2.1.1⟩
theorem RawD.to {d:Addr} {es:Array DictEntry} {ep:Nat} {h h':Heap} (x:RawD d es ep h) (k:∀ o,h.get? d=some o->h'.get? d=some o):RawD d es ep h':=⟨_,k _ x.choose_spec.1,x.choose_spec.2⟩
theorem Kq {d:Addr} {es:Array DictEntry} {ep:Nat} {Q:Value->Shared->Prop} (hd:(d == sysModules)=false) (hm:RawD d es ep s.heap)
    (hQ:Q (.ref s.heap.objs.size) { s with heap:=s.heap.push { cls:= .type "dict_keyiterator",data:= .fields #[.ref d, .int 0 0, .int es.size 0, .int ep 0] } }):wpAny (model prog w) A (pyIter (.ref d)) Q E s:=by
  have hT:=hm.type;obtain ⟨o,ho, -,hdat⟩:=hm;refine wpAny_pyIter_slot hT PySem.F.slot_dict_iter (wpAny_call_entry PySem.F.slot_dict_iter hT PySem.F.entry_dict_iter ?_ (PySem.F.args_dict_iter_1 _));unfold Builtin.«dict.__iter__» Builtin.Dict.dictSlotNone;refine wpAny_bind (wpAny_bind (wpAny_notOrdered_dict hT (wpAny_pure ?_)));show wpAny _ _ (Builtin.Dict.showsAll d >>= _) _ _ s;unfold Builtin.Dict.showsAll;rw [if_neg (by simp [hd])];refine wpAny_bind (wpAny_pure (wpAny_bind (wpAny_dictEntries ho hdat (wpAny_bind (wpAny_dictEpoch ho hdat ?_)))));refine wpAny_bind (wpAny_newObj_type (wpAny_pure ⟨_,rfl,"dict_keyiterator",_,⟨_,Heap.get?_push_size _ rfl,rfl⟩,PySem.F.slot_dict_keyiterator_next.lookup,?_⟩));simpa [rawInt] using hQ
theorem LP {it d:Addr} {i ep:Nat} {es:Array DictEntry} {e:DictEntry} {Q:Option Value->Shared->Prop} (hit:s.heap.IsKeyIter it d i es.size ep) (hm:RawD d es ep s.heap) (hx:es[i]?=some e)
    (hQ:∀ h',h'.IsKeyIter it d (i+1) es.size ep->Heap.SameBut it s.heap h'->Q (some e.key) { s with heap:=h' }):wpAny (model prog w) A (pyNext (.ref it)) Q E s:=by
  obtain ⟨o,ho,hc,hd⟩:=id hit;obtain ⟨od,hod, -,hdd⟩:=hm;have hno:Builtin.Dict_items.ownsTuple "dict_keyiterator"=false:=by decide
  unfold pyNext;refine wpAny_bind (wpAny_attempt (wpAny_callSpecial?_slot (name:=Str.ofString "__next__") hit.typeIs PySem.F.slot_dict_keyiterator_next (wpAny_call_entry PySem.F.slot_dict_keyiterator_next hit.typeIs PySem.F.entry_dict_keyiterator_next ?_ (PySem.F.args_dict_keyiterator_next_1 _))));refine wpAny_bind (wpAny_pure (wpAny_bind (wpAny_bind ?_)));refine wpAny_bind (wpAny_typeNameOfWhole_keyiter hit.typeIs (wpAny_pure ?_));refine wpAny_bind (wpAny_fieldsOf ho hd ?_);simp only [hno,Bool.false_eq_true,if_false];show wpAny _ _ (if (Value.ref d == Value.none)=true then _ else _) _ _ s;rw [if_neg (show ¬ ((Value.ref d == Value.none)=true) from Bool.false_ne_true)];refine wpAny_bind (wpAny_pure (wpAny_bind (wpAny_dictEntries hod hdd ?_)));rw [if_neg (by simp)];refine wpAny_bind (wpAny_pure (wpAny_bind (wpAny_dictEpoch hod hdd ?_)));rw [if_neg (by simp)];refine wpAny_pure ?_;simp only [show ¬ ((i:Int)<0) from by omega,if_false,Int.toNat_natCast,hx];refine wpAny_bind (wpAny_bind (wpAny_typeNameOfWhole_keyiter hit.typeIs (wpAny_pure ?_)));refine wpAny_bind (wpAny_isOneOf_keyiter hit.typeIs ?_);show wpAny _ _ (setField (.ref it) 1 (rawInt ((i:Int)+1)) >>= _) _ _ s;refine wpAny_bind (wpAny_setField ho hd (by simp) ?_);have hit':(s.heap.update it (Obj.mapFields (·.setIfInBounds 1 (rawInt ((i:Int)+1))))).IsKeyIter it d (i+1) es.size ep:=
    ⟨_,Heap.get?_update_self _ ho (Obj.isFreed_of_fields (Obj.data_mapFields hd _)),(Obj.cls_mapFields ..).trans hc,by rw [Obj.data_mapFields hd];simp [rawInt]⟩
  refine wpAny_bind (wpAny_holding (wpAny_bind (wpAny_isOneOf_keyiter (s:={ s with heap:=s.heap.update it (Obj.mapFields (·.setIfInBounds 1 (rawInt ((i:Int)+1)))) }) hit'.typeIs ?_)));show wpAny _ _ (pure e.key) _ _ _;exact wpAny_pure (wpAny_pure ⟨_,rfl,wpAny_pure (hQ _ hit' (Heap.SameBut.update ..))⟩)
theorem Mz {it d:Addr} {i ep:Nat} {es:Array DictEntry} {Q:Option Value->Shared->Prop} (hh:A.handled=none) (hit:s.heap.IsKeyIter it d i es.size ep) (hm:RawD d es ep s.heap) (hx:es[i]?=none)
    (hQ:∀ h',Heap.ExtBut it s.heap h'->Q none { s with heap:=h' }):wpAny (model prog w) A (pyNext (.ref it)) Q E s:=by
  obtain ⟨o,ho,hc,hd⟩:=id hit;obtain ⟨od,hod, -,hdd⟩:=hm;have hno:Builtin.Dict_items.ownsTuple "dict_keyiterator"=false:=by decide
  unfold pyNext;refine wpAny_bind (wpAny_attempt (wpAny_callSpecial?_slot (name:=Str.ofString "__next__") hit.typeIs PySem.F.slot_dict_keyiterator_next (wpAny_call_entry PySem.F.slot_dict_keyiterator_next hit.typeIs PySem.F.entry_dict_keyiterator_next ?_ (PySem.F.args_dict_keyiterator_next_1 _))));refine wpAny_bind (wpAny_pure (wpAny_bind (wpAny_bind ?_)));refine wpAny_bind (wpAny_typeNameOfWhole_keyiter hit.typeIs (wpAny_pure ?_));refine wpAny_bind (wpAny_fieldsOf ho hd ?_);simp only [hno,Bool.false_eq_true,if_false];show wpAny _ _ (if (Value.ref d == Value.none)=true then _ else _) _ _ s;rw [if_neg (show ¬ ((Value.ref d == Value.none)=true) from Bool.false_ne_true)];refine wpAny_bind (wpAny_pure (wpAny_bind (wpAny_dictEntries hod hdd ?_)));rw [if_neg (by simp)];refine wpAny_bind (wpAny_pure (wpAny_bind (wpAny_dictEpoch hod hdd ?_)));rw [if_neg (by simp)];refine wpAny_pure ?_;simp only [show ¬ ((i:Int)<0) from by omega,if_false,Int.toNat_natCast,hx];refine wpAny_bind (wpAny_bind (wpAny_typeNameOfWhole_keyiter hit.typeIs (wpAny_pure ?_)));show wpAny _ _ (setField (.ref it) 0 .none >>= _) _ _ s;refine wpAny_bind (wpAny_setField ho hd (by simp) ?_);show wpAny _ _ (newExc (.type "StopIteration") [] >>= _) _ _ _;refine wpAny_bind ?_;simp only [newExc,newTuple];refine wpAny_bind (wpAny_newObj_type ?_ (by size_fits));refine wpAny_bind (m:=firstArgMember _ _) (wpAny_of_eq (a:=Value.none) (by first | rfl | (simp only [firstArgMember];rfl)) ?_);refine wpAny_newObj_type ?_ (by size_fits);simp only [raiseNew];refine wpAny_bind (wpAny_handled ?_);rw [show A.in1.handled=none from hh];refine wpAny_bind (wpAny_pure (wpAny_throw ?_));refine wpAny_bind (wpAny_isInstance (T:="StopIteration") (b:=true) ⟨_,Heap.get?_push_size _ rfl,rfl⟩ isSubtype_stop ?_);exact wpAny_pure (hQ _ (((Heap.SameBut.update ..).extBut.push _).push _))
theorem J9 (hh:A.handled=none) (I d:Addr) (hne:d≠I) (es:Array DictEntry) (ep:Nat):Walks prog w A I [I,d] [I] es.size (λ i v=>∃ e,es[i]?=some e/\v=e.key) (λ i h=>h.IsKeyIter I d i es.size ep/\RawD d es ep h) where
  sub:=λ b hb=>by simp at hb;simp [hb]
  frame:=λ _ _ _ st hk=>⟨st.1.at λ o e=>hk I (by simp) o e,st.2.to λ o e=>hk d (by simp) o e⟩
  item:=λ i s Q E hi st hQ=>by
    have hx:es[i]?=some es[i]:=by simp [hi]
    exact LP st.1 st.2 hx λ h' hit hs=>hQ _ h' s.toks ⟨_,hx,rfl⟩ ⟨hit,st.2.to λ o e=>hs.extBut d o hne e⟩ λ b o hb e=>hs.extBut b o (λ h=>hb (by simp [h])) e
  done:=λ s Q E st hQ=>Mz hh st.1 st.2 (by simp) λ h' he=>hQ h' s.toks λ b o hb e=>he b o (λ h=>hb (by simp [h])) e
  self:=λ _ _ _ _ st hQ=>wpAny_pyIter_keyiter st.1 hQ
theorem raw_src {d:Addr} {es:Array DictEntry} {ep:Nat} (lo:(d == sysModules)=false):KdlSrc prog w "dict" d d es.size (λ i v=>∃ e,es[i]?=some e/\v=e.key) (RawD d es ep) where
  type:=λ _ hm=>hm.type
  there:=λ _ hm=>⟨Heap.lt_size hm.choose_spec.1,Heap.lt_size hm.choose_spec.1⟩
  keep:=λ _ _ hm hk=>hm.to λ o e=>hk d (.inl rfl) o e
  notList:=by decide
  notTuple:=by decide
  hint:=λ _ _ _ _ hm hq=>kdl_hint_dict hm.type hq
  iter:=λ _ _ hh hm=>⟨_,_,(λ _ _ hq=>Kq lo hm hq),J9 hh _ d (Nat.ne_of_lt (Heap.lt_size hm.choose_spec.1)) es ep,⟨⟨_,Heap.get?_push_size _ rfl,rfl,rfl⟩,hm.to λ o e=>Heap.get?_push_of_some _ e⟩⟩
theorem sort_shell {a:Addr} {vs:List Value} {n:Nat} {P:PySem.Fin->Shared->Prop} (G:List Value->Prop) (ho:s.heap.get? a=some (seqObj "list" vs.toArray n)) (h64:vs.length<64) (h1:vs.length<2->G vs)
    (h2:2<=vs.length->∀ h',(∀ b o,b≠a->s.heap.get? b=some o->h'.get? b=some o)->
      wpAny (model prog w) A (keyKind' vs.toArray) (λ κ s'=>(kas_sort vs.length).kasWp (kas_ask prog w A κ vs) (λ p s''=>s''={ s with heap:=h' }/\G (p.toList.map λ i=>vs.getD i Value.none)) s') (λ _ _=>False) { s with heap:=h' })
    (h:∀ out,G out->out.length=vs.length->P (.done (.ret .none)) { s with heap:=sortedHeap s.heap a vs out.toArray }):wpAny (model prog w) A (Builtin.«list.sort» ⟨[.ref a],[]⟩) P E s:=by
  have ha:a<s.heap.objs.size:=Heap.lt_size ho;obtain ⟨e1,ho1⟩:∃ e1,(s.heap.update a (Obj.mapSeq λ _=>(#[]:Array Value))).get? a=some (seqObj "list" #[] e1):=⟨_,get?_update_seq ho λ _=> #[]⟩;have ho6:(((s.heap.update a (Obj.mapSeq λ _=>(#[]:Array Value))).push (seqObj "tuple" vs.toArray 0)).push (seqObj "list" #[] 0)).get? a=some (seqObj "list" #[] e1):=Heap.get?_push_of_some _ (Heap.get?_push_of_some _ ho1);have line:∀ k,k<64->k<=sizeLine+1:=λ k hk=>by rw [sizeLine_eq];omega
  rw [list_sort_plain];refine wpAny_bind (listItems_at ho rfl (wpAny_bind (listUpdate_at ho rfl ?_ (by rw [List.size_toArray,sizeLine_eq];omega) (Nat.zero_le _))));refine wpAny_bind (seqEpoch_at ho1 rfl (wpAny_bind (wpAny_newTuple ?_ (by show vs.length<=_;rw [sizeLine_eq];omega))));refine wpAny_bind (wpAny_newList (wpAny_holding ?_) (Nat.zero_le _));show wpAny (model prog w) A _ P E { s with heap:=((s.heap.update a (Obj.mapSeq λ _=> #[])).push (seqObj "tuple" vs.toArray 0)).push (seqObj "list" #[] 0) };dsimp only;by_cases c:vs.toArray.size<2
  · have cl:vs.length<2:=by simpa using c
    rw [if_pos c,if_pos c];refine wpAny_bind (wpAny_pure ?_);rw [StateT.run_pure];refine wpAny_bind (wpAny_pure (wpAny_bind (seqEpoch_at ho6 rfl (wpAny_bind (listUpdate_at ho6 rfl ?_ (Nat.zero_le _) ?_)))))
    · simp only [bne_self_eq_false,Bool.false_eq_true,if_false];have e:(vs.toArray.zip vs.toArray).map (·.2)=vs.toArray:=by
        apply Array.toList_inj.mp;rw [Array.toList_map,Array.toList_zip];exact List.map_snd_zip (Nat.le_refl _)
      refine wpAny_pure ?_;show P _ { s with heap:=(((s.heap.update a (Obj.mapSeq λ _=>(#[]:Array Value))).push (seqObj "tuple" vs.toArray 0)).push (seqObj "list" #[] 0)).update a (Obj.mapSeq λ _=>(vs.toArray.zip vs.toArray).map (·.2)) };rw [e];exact h vs (h1 cl) rfl
    · simp only [Array.size_map];show (vs.toArray.zip vs.toArray).size<=_;rw [Array.size_zip,List.size_toArray,Nat.min_self];exact line _ h64
  · have cl:2<=vs.length:=by simpa using c
    rw [if_neg c,if_neg c];have ask:=h2 cl _ (λ b o nb e=>show (((s.heap.update a (Obj.mapSeq λ _=>(#[]:Array Value))).push (seqObj "tuple" vs.toArray 0)).push (seqObj "list" #[] 0)).get? b=some o from
      Heap.get?_push_of_some _ (Heap.get?_push_of_some _ ((Heap.get?_update_other _ _ (Ne.symm nb)).trans e)))
    refine wpAny_bind (wpAny_mono ask (λ κ s0 hk=> ?_) λ _ _ x=>x.elim);refine wpAny_bind (wpAny_mono (kat_run (Q:=λ st' s'=>∃ p:Array Nat,p.size=vs.length/\arrOf st'=p.map (kas_item (vs.toArray.zip vs.toArray))/\failedOf st'=none/\s'={ s with heap:=((s.heap.update a (Obj.mapSeq λ _=>(#[]:Array Value))).push (seqObj "tuple" vs.toArray 0)).push (seqObj "list" #[] 0) }/\G (p.toList.map λ i=>vs.getD i Value.none))
      rfl cl h64 (λ p st' s' a1 a2 a3 a4=>⟨p,a1,a2,a3,a4⟩) hk) ?_ λ _ _ e=>e)
    rintro ⟨⟨⟩,st'⟩ s' ⟨p,hp,har,hf,rfl,g⟩;dsimp only;have hsz:(List.toArray (p.toList.map λ i=>vs.getD i Value.none)).size=vs.length:=by rw [List.size_toArray,List.length_map,Array.length_toList,hp]
    rw [kat_snds rfl har];refine wpAny_bind (seqEpoch_at ho6 rfl (wpAny_bind (listUpdate_at ho6 rfl ?_ (Nat.zero_le _) (by rw [hsz];exact line _ h64))));rw [hf];simp only [bne_self_eq_false,Bool.false_eq_true,if_false];exact wpAny_pure (h _ g (by rw [List.length_map,Array.length_toList,hp]))
theorem kas_pure {vs:List Value} {κ:SortKind} {lt:Nat->Nat->Bool} {n:Nat} (hl:∀ i j,i<n->j<n->∀ C:Bool->Shared->Prop,C (lt i j) s->kas_ask prog w A κ vs i j C s) {α:Type} {Q:α->Prop}:∀ (t:KasT α),MSort.KP lt n t Q->
    t.kasWp (kas_ask prog w A κ vs) (λ a s'=>s'=s/\Q a) s
  | .ret a,h=>⟨rfl,h⟩
  | .ask i j k,h=>hl i j h.1 h.2.1 _ (kas_pure hl (k (lt i j)) h.2.2)
end HT
namespace HT
open PySem PySem.Spec PyProof.Rows PySem.W
variable {prog:Program} {w:World} {A:Around} {E:Value->Shared->Prop} {s:Shared}
def lexB (x:Str) (i:Int) (y:Str) (j:Int):Bool:=if x=y then decide (i<j) else decide (x.cps.toList<y.cps.toList)
theorem lex_lt {x y:Str} {i j:Int} {b c:Addr} {t u t' u':Tok} {C:Bool->Shared->Prop} (hb:IsTup s.heap b #[.str x t, .int i u]) (hc:IsTup s.heap c #[.str y t', .int j u']) (h:C (lexB x i y j) s):
    wpAny (model prog w) A (keyLt' (tuples' true) (.ref b) (.ref c)) C (λ _ _=>False) s:=by
  obtain ⟨o,ho, -,n,hd⟩:=hb;obtain ⟨o',ho', -,n',hd'⟩:=hc;refine kat_lt ho hd ho' hd' ?_;show KatLex prog w A true false C [(.str x t, .str y t'),(.int i u, .int j u')] 0 s;refine kat_cons (wpAny_eqBool_str ?_);unfold lexB at h;by_cases e:x=y
  · rw [if_pos e] at h;rw [decide_eq_true e];refine kat_yes (kat_cons (wpAny_eqBool_int ?_));by_cases f:i=j
    · rw [show (i == j)=true by simp [f]];refine kat_yes (kat_nil ?_)
      rwa [show decide (i<j)=false by simp [f]] at h
    · rw [show (i == j)=false by simp [f]];exact kat_no (kat_one _ _ (lt_int h))
  · rw [if_neg e] at h;rw [decide_eq_false e];exact kat_no (oneLt_str h)
theorem kat_strs {h:Heap}:∀ (vs:List Value),(∀ v∈vs,∃ a x i t u,v= .ref a/\IsTup h a #[.str x t, .int i u])->∃ fs,KatTups h vs fs/\fs.length=vs.length/\∀ f∈fs,∃ x t,f=Value.str x t
  | [],_=>⟨[],KatTups.nil,rfl,λ f hf=>by cases hf⟩
  | v::vs,hv=>by
    obtain ⟨a,x,i,t,u,rfl,o,ho,hc,n,hd⟩:=hv v (List.mem_cons_self ..);obtain ⟨fs,k,l,g⟩:=kat_strs vs λ v' h'=>hv v' (List.mem_cons_of_mem _ h');refine ⟨.str x t::fs,KatTups.cons ho hc hd rfl k,by simp [l],λ f hf=> ?_⟩;rcases List.mem_cons.mp hf with rfl | hf
    · exact ⟨x,t,rfl⟩
    · exact g f hf
theorem kas_mono {κ:SortKind} {vs:List Value} {α:Type} {Q Q':α->Shared->Prop} {t:KasT α} (h:t.kasWp (kas_ask prog w A κ vs) Q s) (hq:∀ a s',Q a s'->Q' a s'):t.kasWp (kas_ask prog w A κ vs) Q' s:=by
  rw [kas_ask_eq] at h ⊢;exact kas_wp_mono h hq
end HT
namespace L2
open PySem PySem.Spec PyProof.Rows PySem.W
structure LexOk (rk:List Key->Nat) (ks:List (List Key)):Prop where
  shp:∀ k∈ks,∃ (x:Str) (i:Int),k=[.inr x, .inl i]
  inj:∀ k∈ks,∀ k'∈ks,rk k=rk k'->k=k'
  ord:∀ (x:Str) (i:Int) (y:Str) (j:Int),([.inr x, .inl i]:List Key)∈ks->([.inr y, .inl j]:List Key)∈ks->HT.lexB x i y j=decide (rk [.inr x, .inl i]<rk [.inr y, .inl j])
def Lm:List V->Hp->VK->Prop:=λ xs H Q=>∃ (p:Addr) (kvs:List (List Key × V)) (rk:List Key->Nat),xs=[.ref p]/\H p=some (.dT kvs)/\kvs.length<64/\LexOk rk (kvs.map (·.1))/\
  ∀ (l:Addr) (bs:List Addr) (ms:List (List Key)),H l=none->ms.Perm (kvs.map (·.1))->ms.Pairwise (λ a b=>rk a<rk b)->bs.length=ms.length->(∀ i,i<ms.length->H (bs.getD i 0)=some (.tup ((ms.getD i []).map kV)))->Q (.ref l) (upd H l (.lst (bs.map V.ref)))
theorem Ed {α β:Type} {F:α->β->Prop}:∀ {l₁:List α} {l₂:List β},Paired F l₁ l₂->∀ (i:Nat) (a:α) (b:β),l₁[i]?=some a->l₂[i]?=some b->F a b
  | _,_, .nil,i,a,b,h,_=>by simp at h
  | _,_, .cons r t,0,a,b,h,h'=>by
    simp only [List.getElem?_cons_zero,Option.some.injEq] at h h';subst h;subst h';exact r
  | _,_, .cons r t,i+1,a,b,h,h'=>by
    rw [List.getElem?_cons_succ] at h h';exact Ed t i a b h h'
theorem Gd:∀ bs:List Addr,Vals (bs.map V.ref) (bs.map Value.ref)
  | []=> .nil
  | b::bs=> .cons rfl (Gd bs)
theorem J3 {X:Cx} (hc:X.calm=true):AV X (.builtin "sorted") Lm:=by
  intro pins s σ H xs us Q I r h;obtain ⟨p,kvs,rk,rfl,hp,hl,lx,q⟩:=h;obtain ⟨u,rfl,rx⟩:=Ey r;cases rx;obtain ⟨hz,hs,ys,kt,o,es,ep,ho,hx,hd,hes, -,hnd⟩:=KH I.hok hp;have hlen:ys.length=kvs.length:=(Paired.length kt).symm;have hsz:es.size=kvs.length:=by rw [<-Array.length_toList,hes,List.length_map,hlen]
  have hkk:ys.map (·.1)=kvs.map (·.1):=by
    apply List.ext_getElem?;intro i;rw [List.getElem?_map,List.getElem?_map];rcases Nat.lt_or_ge i kvs.length with hi | hi
    · rw [List.getElem?_eq_getElem hi,List.getElem?_eq_getElem (hlen▸hi)];have:=Ed kt i _ _ (List.getElem?_eq_getElem hi) (List.getElem?_eq_getElem (hlen▸hi));simp only [Option.map_some];rw [this.1]
    · rw [List.getElem?_eq_none hi,List.getElem?_eq_none (hlen▸hi)];rfl
  refine Calls.call_function_entry kind_sorted plain_sorted entry_sorted (args_sorted1 _) ?_;show wpAny _ _ (checkCount "sorted" 1 1 1 >>= λ _=>collect (.ref p) >>= λ xs=>newList xs >>= λ l=>holding [l] (call (.builtin "list.sort") [l] []) >>= λ _=>ret l) _ _ _;rw [GS];refine wpAny_bind (wpAny_pure ?_);refine wpAny_bind (kdu_collect (A:=X.A.in1) (HT.raw_src (es:=es) (ep:=ep) hs) (I.ok.hd hc) ⟨o,ho,hx,hd⟩ (by rw [hsz,sizeLine_eq];omega) λ h1 tk acc k1 hacc=> ?_);have I1:=I.kept (t':=tk) k1;have hvs:acc.toList=(ys.map (·.2.1)).map Value.ref:=by
    apply List.ext_getElem?;intro i;rw [List.getElem?_map,List.getElem?_map];rcases Nat.lt_or_ge i kvs.length with hi | hi
    · have ha:i<acc.size:=by rw [hacc.1,hsz];exact hi
      obtain ⟨e,he,hv⟩:=hacc.2 i acc[i] (Array.getElem?_eq_getElem ha);rw [<-Array.getElem?_toList,hes,List.getElem?_map,List.getElem?_eq_getElem (hlen▸hi)] at he;have he':=(Option.some.inj he).symm;rw [Array.getElem?_toList,Array.getElem?_eq_getElem ha,hv,List.getElem?_eq_getElem (hlen▸hi),he'];rfl
    · rw [List.getElem?_eq_none (show acc.toList.length<=i by rw [Array.length_toList,hacc.1,hsz];exact hi),List.getElem?_eq_none (show ys.length<=i by omega)];rfl
  rw [hvs];generalize hbs:ys.map (·.2.1)=bs;have hbl:bs.length=kvs.length:=by rw [<-hbs,List.length_map,hlen]
  have hbt:∀ i,i<kvs.length->H (bs.getD i 0)=some (.tup (((kvs.map (·.1)).getD i []).map kV)):=by
    intro i hi;have:=(Ed kt i _ _ (List.getElem?_eq_getElem hi) (List.getElem?_eq_getElem (hlen▸hi))).2.1;rw [<-hbs,List.getD_eq_getElem?_getD,List.getElem?_map,List.getElem?_eq_getElem (hlen▸hi),List.getD_eq_getElem?_getD,List.getElem?_map,List.getElem?_eq_getElem hi];exact this
  have hkl:(kvs.map (·.1)).length=kvs.length:=List.length_map ..;generalize hks:kvs.map (·.1)=ks at*;have hvl:(bs.map Value.ref).length=kvs.length:=by rw [List.length_map,hbl]
  refine wpAny_bind (wpAny_newList ?_ ?_)
  · refine wpAny_bind (wpAny_holding ?_);have hg:(h1.push { cls:=Value.type "list",data:=Data.seq (bs.map Value.ref).toArray }).get? h1.objs.size=some (seqObj "list" (bs.map Value.ref).toArray 0):=Heap.get?_push_size _ rfl;refine wpAny_call_entry slot_list_sort ⟨_,hg,rfl⟩ entry_list_sort ?_ (args_list_sort _);refine HT.sort_shell (λ out=>∃ (cs:List Addr) (ms:List (List Key)),out=cs.map Value.ref/\ms.Perm ks/\ms.Pairwise (λ a b=>rk a<rk b)/\cs.length=ms.length/\∀ i,i<ms.length->H (cs.getD i 0)=some (.tup ((ms.getD i []).map kV))) hg (by rw [hvl];exact hl) (λ c=> ?_) (λ c h' k'=> ?_) λ out g ol=> ?_
    · refine ⟨bs,ks,rfl,List.Perm.refl _,?_,by rw [hbl,hkl],λ i hi=>hbt i (hkl▸hi)⟩
      match ks,hkl,hvl▸c with
      | [],_,_=>exact .nil
      | [_],_,_=>exact List.pairwise_singleton ..
      | _::_::_,e,z=>rw [<-e] at z;simp only [List.length_cons] at z;omega
    · have tp:∀ i,i<kvs.length->∃ x j t u,ks.getD i []=[.inr x, .inl j]/\IsTup h' (bs.getD i 0) #[.str x t, .int j u]:=by
        intro i hi;have hm:ks.getD i []∈ks:=by
          rw [List.getD_eq_getElem?_getD,List.getElem?_eq_getElem (hkl▸hi)];exact List.getElem_mem _
        obtain ⟨x,j,e⟩:=lx.shp _ hm;have hb:=hbt i hi;rw [e] at hb;obtain ⟨its,rv,⟨ob,hob,hcb,n,hdb⟩, -⟩:=I1.tuple (SqT.of (K:=X.K) hb);cases rv with
        | cons r1 rr=>
          cases rr with
          | cons r2 rr2=>
            cases rr2;obtain ⟨t,rfl⟩:=r1;obtain ⟨u,rfl⟩:=r2;exact ⟨x,j,t,u,e,ob,k' _ _ (Nat.ne_of_lt (Heap.lt_size hob)) (Heap.get?_push_of_some _ hob),hcb,n,hdb⟩
      obtain ⟨fs,kf,fl,fst⟩:=HT.kat_strs (h:=h') (bs.map Value.ref) (λ v hv=>by
        obtain ⟨b,hb,rfl⟩:=List.mem_map.mp hv;obtain ⟨i,hi,rfl⟩:=List.mem_iff_getElem.mp hb;obtain ⟨x,j,t,u, -,z⟩:=tp i (hbl▸hi);rw [List.getD_eq_getElem?_getD,List.getElem?_eq_getElem hi] at z;exact ⟨_,x,j,t,u,rfl,z⟩)
      refine kat_kind (T:= .type "str") kf (by omega) (λ v hv=> ?_) (by decide) ?_
      · obtain ⟨x,t,rfl⟩:=fst v hv;exact Looks.now
      · have inj:MSort.Inj (λ i=>rk (ks.getD i [])) kvs.length:=by
          intro i j hi hj e;have mi:ks.getD i []=ks[i]'(hkl▸hi):=by rw [List.getD_eq_getElem?_getD,List.getElem?_eq_getElem (hkl▸hi)];rfl
          have mj:ks.getD j []=ks[j]'(hkl▸hj):=by rw [List.getD_eq_getElem?_getD,List.getElem?_eq_getElem (hkl▸hj)];rfl
          have e:rk (ks.getD i [])=rk (ks.getD j []):=e;rw [mi,mj] at e;have:=lx.inj _ (List.getElem_mem _) _ (List.getElem_mem _) e;exact (List.getElem_inj (hkk▸hnd)).mp this
        have ev:∀ i,i<kvs.length->(bs.map Value.ref).getD i Value.none= .ref (bs.getD i 0):=by
          intro i hi;rw [List.getD_eq_getElem?_getD,List.getElem?_map,List.getD_eq_getElem?_getD,List.getElem?_eq_getElem (hbl▸hi)];rfl
        have run:=HT.kas_pure (prog:=X.prog) (w:=X.w) (A:=X.A.in1.in1) (s:=({ s with heap:=h',toks:=tk }:Shared)) (vs:=bs.map Value.ref) (κ:=tuples' true) (lt:=MSort.L λ i=>rk (ks.getD i [])) (n:=kvs.length)
          (λ i j hi hj C hC=>by
            unfold kas_ask;rw [ev i hi,ev j hj];obtain ⟨x,a,t,u,e1,t1⟩:=tp i hi;obtain ⟨y,b,t',u',e2,t2⟩:=tp j hj;refine HT.lex_lt t1 t2 ?_;have m1:ks.getD i []∈ks:=by
              rw [List.getD_eq_getElem?_getD,List.getElem?_eq_getElem (hkl▸hi)];exact List.getElem_mem _
            have m2:ks.getD j []∈ks:=by
              rw [List.getD_eq_getElem?_getD,List.getElem?_eq_getElem (hkl▸hj)];exact List.getElem_mem _
            have hC:C (decide (rk (ks.getD i [])<rk (ks.getD j []))) _:=hC;rw [e1] at m1 hC;rw [e2] at m2 hC;rw [lx.ord _ _ _ _ m1 m2];exact hC) _ (MSort.sort inj (by omega))
        rw [<-hvl] at run;refine HT.kas_mono run λ p' s' hq=> ?_;obtain ⟨rfl,ok,up⟩:=hq;refine ⟨rfl,p'.toList.map (λ i=>bs.getD i 0),p'.toList.map (λ i=>ks.getD i []),?_,?_,?_,by simp,?_⟩
        · rw [List.map_map];refine List.map_congr_left λ i hi=> ?_;exact ev i (hvl▸List.mem_range.mp (ok.perm.mem_iff.mp hi))
        · refine (ok.perm.map _).trans (List.Perm.of_eq ?_);rw [hvl, <-hkl];exact A8 id ks [] |>.trans (List.map_id _)
        · rw [List.pairwise_iff_getElem];intro i j hi hj hij;rw [List.length_map,Array.length_toList,ok.size] at hi hj;have:=up i j hij hj;unfold MSort.K at this;have hi':i<p'.size:=by rw [ok.size];exact hi
          have hj':j<p'.size:=by rw [ok.size];exact hj
          have gi:p'.getD i 0=p'[i]:=by simp [Array.getD,hi']
          have gj:p'.getD j 0=p'[j]:=by simp [Array.getD,hj']
          rw [gi,gj] at this;simpa using this
        · intro i hi;rw [List.length_map,Array.length_toList,ok.size] at hi;have hi':i<p'.size:=by rw [ok.size];exact hi
          have hl':=ok.lt hi;have gi:p'.getD i 0=p'[i]:=by simp [Array.getD,hi']
          rw [gi] at hl';have z:=hbt p'[i] (hvl▸hl');rw [List.getD_eq_getElem?_getD,List.getElem?_map,List.getD_eq_getElem?_getD (l:=List.map _ _),List.getElem?_map,Array.getElem?_toList,Array.getElem?_eq_getElem hi'];exact z
    · obtain ⟨cs,ms,rfl,pm,pw,cl,at_⟩:=g;refine ⟨_,rfl,?_⟩;refine wpAny_pure ⟨_,rfl,?_⟩;obtain ⟨e,he⟩:=sortedHeap_at (out:=(cs.map Value.ref).toArray) hg;refine ⟨.ref h1.objs.size,_,I1.laid (t':=tk) (o:= .lst (cs.map V.ref)) (λ b ob z=> ?_) (Nat.le_refl _) ?_,rfl,q _ cs ms (I1.hok.fresh (Nat.le_refl _)) pm pw cl at_⟩
      · have hb:=Heap.lt_size z;have hsz:b<(h1.push { cls:=Value.type "list",data:=Data.seq (bs.map Value.ref).toArray }).objs.size:=Nat.lt_trans hb (Heap.lt_size hg);show (sortedHeap _ _ _ _).get? b=_;rw [sortedHeap_old (Nat.ne_of_lt hb) hsz];exact Heap.get?_push_of_some _ z
      · refine ⟨?_,cs.map Value.ref,e,Gd cs,?_⟩
        · rw [List.length_map,cl,pm.length_eq,hkl];exact Nat.le_trans (Nat.le_of_lt hl) (by decide)
        · show (sortedHeap _ _ _ _).get? _=_;rw [he]
  · rw [hvl];exact Nat.le_trans (Nat.le_of_lt hl) (by decide)
theorem Ly {H:Hp} {Q:VK} {p:Addr} {kvs:List (List Key × V)} (rk:List Key->Nat) (hp:H p=some (.dT kvs)) (n:kvs.length<64) (lx:LexOk rk (kvs.map (·.1)))
    (h:∀ (l:Addr) (bs:List Addr) (ms:List (List Key)),H l=none->ms.Perm (kvs.map (·.1))->ms.Pairwise (λ a b=>rk a<rk b)->bs.length=ms.length->(∀ i,i<ms.length->H (bs.getD i 0)=some (.tup ((ms.getD i []).map kV)))->Q (.ref l) (upd H l (.lst (bs.map V.ref)))):Lm [.ref p] H Q:=⟨p,kvs,rk,rfl,hp,n,lx,h⟩
end L2
namespace L2
open PySem PySem.Spec PyProof.Rows
section
variable {P:Program} {w:World} {K:PySem.W.Frag} {mg:Str->Option Value} {base:Heap} {N:List Str} {qual:Str} {scope:Scope} {f:Addr} {cd:Value} {A:Around} {outer:List Env} {s₀:Shared} {H₀:Hp} {E:XK}
end
section
variable {X:Cx} {pins:List (Addr × Obj)} {σ:St} {H:Hp} {s s₁:Shared} {E:XK} {e:Value}
end
section
variable {X:Cx} {pins pins0:List (Addr × Obj)} {σ:St} {H:Hp} {s:Shared} {xe:Value->Shared->Prop}
end
end L2
namespace L2
open PySem PySem.Spec PyProof.Rows PySem.W
end L2
namespace HT
open PySem PySem.Spec PyProof.Rows PySem.W PySem.Calls PySem.Builtin PySem.Builtin.ObjectAttr PySem.Builtin.Getset_descriptor
def ExcAt (a C:Addr) (h:Heap):Prop:=∃ o,h.get? a=some o/\o.cls= .ref C
structure ExcKind (K:Frag) (C:Addr):Prop where
  cl:(clsIn K C).isSome=true
  ga:findIn K (.ref C) "__getattribute__"=some (some (.builtin "BaseException.__getattribute__"))
  ng:findIn K (.ref C) "__getattr__"=some none
  hb:mroIn K C (.type "BaseException")=some true
  ha:findIn K (.ref C) "__class__"=some (some (.builtin "object.__class__"))
  hn:specialIn K (.builtin "object.__class__") "__get__"=some (some (.builtin "getset_descriptor.__get__"))
  htk:takesIn K (.builtin "object.__class__")=some true
  hm:mroIn K C (.type "object")=some true
theorem ExcAt.type {M:Model} {h:Heap} {a C:Addr} (x:ExcAt a C h):Looks M h (typeOf (.ref a)) (.ref C):=by
  obtain ⟨o,e,c⟩:=x;exact c▸(Looks.ld e).andThen .now
section
variable {prog:Program} {w:World} {A:Around} {E:Value->Shared->Prop} {s:Shared} {K:Frag} {a C:Addr}
end
end HT
namespace L2
open PySem PySem.Spec PyProof.Rows
end L2
namespace HT
open PySem PySem.Spec PyProof.Rows PySem.W
end HT
namespace L2
open PySem PySem.Spec PyProof.Rows
section
variable {X:Cx} {x:Str} {C:Addr} {k:Nat} {ps:List Str} {sp:Sp} {E:XK} {e:Expr} {es:List Expr} {t:TA} {p pos:Pos}
end
section
variable {P:Program} {w:World} {K:PySem.W.Frag} {mg:Str->Option Value} {base:Heap}
end
end L2
namespace HT
open PySem PySem.Spec PyProof.Rows PySem.SeqAt
open PySem.AutoSeq1 (wpAny_loadPart')
open PySem.MeetsSeq PySem.MeetsSeq2 PySem.MeetsSeq3
section
variable {A:Around} {s:Shared}
end
end HT
namespace L2
open PySem PySem.Spec PyProof.Rows
inductive DX where
  | d (d:Dt) | dic | tdic (rest:List Dt)
inductive Rx (H:Hp) (n:Nat):V->DX->Prop
  | d {v:V} {d:Dt} (r:Rp H FT n v d):Rx H n v (.d d)
  | dic {a:Addr} (h:H a=some (.dK [])):Rx H n (.ref a) .dic
  | tdic {t a:Addr} {ws:List V} {ds:List Dt} (ht:H t=some (.tup (.ref a::ws))) (h:H a=some (.dK [])) (l:ws.length=ds.length) (e:∀ (i:Nat) (v:V) (d:Dt),ws[i]?=some v->ds[i]?=some d->Rp H FT n v d):Rx H n (.ref t) (.tdic ds)
section
variable {X:Cx} {pins:List (Addr × Obj)} {σ:St} {H:Hp} {s:Shared}
end
end L2
namespace L2
open PySem PySem.Spec PyProof.Rows PySem.W
def exO (a:Addr) (o:Obj):HO:= .ext λ h=>h.get? a=some o
section
variable {P:Program} {w:World} {K:PySem.W.Frag} {mg:Str->Option Value} {base:Heap} {N:List Str} {qual:Str} {scope:Scope} {f:Addr} {cd:Value} {cl:List (Str × Addr)} {A:Around} {outer:List Env} {s:Shared} {H:Hp} {E:XK}
structure ClOkL (N:List Str) (scope:Scope) (cl:List (Str × Addr)) (h:Heap) (H:Hp) (vs:List V):Prop where
  len:vs.length=N.length
  inj:∀ x y c,cl.lookup x=some c->cl.lookup y=some c->x=y
  has:∀ x,(scope.names.lookup x=some .cell\/scope.names.lookup x=some .free)->∃ c,cl.lookup x=some c
  val:∀ (i:Nat) (x:Str) (v:V),N[i]?=some x->vs[i]?=some v->∃ c u,scope.names.lookup x=some .free/\cl.lookup x=some c/\RelV v u/\h.IsCell c (some u)
  cell:∀ x c,cl.lookup x=some c->(∃ v,h.IsCell c v)/\H c=none
end
def Ph (qual:Str) (oc:Obj):Prop:=∃ vs t,oc.data= .fields vs/\vs[1]?=some (.str qual t)
structure LamX (X:Cx) (c P:Addr):Prop where
  code:X.env.code= .ref c
  hd:CodeHd X.base c P
  blt:X.base.BuiltinsAt X.mg P
section
variable {X:Cx} {pins:List (Addr × Obj)} {σ:St} {H:Hp} {s:Shared}
end
structure LamOk (params:Arguments) (scope:Scope):Prop where
  kind:scope.kind= .function
  co:scope.isCoroutine=false
  gen:scope.isGenerator=false
  cell:∀ x∈scope.names,x.2≠ .cell
  bind:∀ (qual:Str) (body:Expr) (cl:List (Str × Addr)) (pm cdv ctv:Value),bindArgs (kla_fn "<lambda>" qual params body scope cl pm cdv ctv) ⟨[],[]⟩=pure []
section
variable {P:Program} {w:World} {K:PySem.W.Frag} {mg:Str->Option Value} {base:Heap}
structure ThAt (s:Shared) (H:Hp) (outer:List Env) (f c':Addr) (oc:Obj) (N:List Str) (qual:Str) (scope:Scope) (cl:List (Str × Addr)) (params:Arguments) (body:Expr) (pm ctv:Value) (vs:List V):Prop where
  hf:s.heap.get? f=some (kla_obj "<lambda>" qual params body scope cl pm c' ctv)
  hf0:H f=none
  nf:f∉frs outer
  hc:H c'=some (exO c' oc)
  hoc:Ph qual oc
  C:ClOkL N scope cl s.heap H vs
  nc:∀ x c,cl.lookup x=some c->c∉frs outer
  lo:LamOk params scope
end
end L2
namespace L2
open PySem PySem.Spec PyProof.Rows
section
variable {X:Cx} {K:PySem.W.Frag} {e lo st:Expr} {te tl ts:TE} {pos p2:Pos}
end
section
variable {J:It} {g:TG} {σ0:St} {H:Hp} {n:Nat} {st:Nat->St} {te:TE} {Q:VK} {D:Addr}
end
end L2
namespace L2
open PySem PySem.Spec PyProof.Rows PySem.W
section
variable {prog:Program} {w:World} {A:Around} {E:Value->Shared->Prop} {s:Shared}
end
section
variable {X:Cx} {pins:List (Addr × Obj)} {σ:St} {H:Hp} {s:Shared} {A:Around} {E:Value->Shared->Prop}
end
section
variable {X:Cx} {K:PySem.W.Frag}
end
end L2
namespace L2
open PySem PySem.Spec PyProof.Rows
section
variable {X:Cx} {e o:Expr} {es:List Expr} {t:TA} {to:TE} {pos:Pos} {S:Addr->Sp->Prop} {E:XK}
end
section
variable {X:Cx} {K:PySem.W.Frag} {tg l:Expr} {ta:TA} {p pos:Pos}
end
section
variable {K:PySem.W.Frag} {σ0:St} {H:Hp} {a:Addr} {xs:List V}
end
section
variable {X:Cx} {scope:Scope} {cx:Str}
end
structure FnA (K:PySem.W.Frag) (m q:Str) (st:Stmt) (ps:List Str) (f:Addr) (fd:FuncData):Prop where
  fn:Fun K m q st f fd
  bi:Binds K fd ps []
section
variable {K:PySem.W.Frag} {mg:Str->Option Value} {m q x:Str} {st:Stmt} {ps:List Str} {f:Addr} {fd:FuncData}
theorem def_mk (a:mg x=some (.ref f)) (F:Fun K x x st f fd) (b:∀ us:List Value,us.length=ps.length->bindArgs fd ⟨us,[]⟩=pure (ps.zip us)):DefAt K mg x st ps f fd:=⟨F,a, .all b⟩
theorem fnA_mk (F:Fun K m q st f fd) (b:∀ us:List Value,us.length=ps.length->bindArgs fd ⟨us,[]⟩=pure (ps.zip us)):FnA K m q st ps f fd:=⟨F, .all b⟩
theorem exc_mk {C:Addr} (a:PySem.W.isClsIn K C=true) (b:PySem.W.findIn K (.ref C) "__getattribute__"=some (some (.builtin "BaseException.__getattribute__"))) (c:PySem.W.findIn K (.ref C) "__getattr__"=some none) (d:PySem.W.mroIn K C (.type "BaseException")=some true) (e:PySem.W.findIn K (.ref C) "__class__"=some (some (.builtin "object.__class__")))
    (f:PySem.W.specialIn K (.builtin "object.__class__") "__get__"=some (some (.builtin "getset_descriptor.__get__"))) (g:PySem.W.takesIn K (.builtin "object.__class__")=some true) (h:PySem.W.mroIn K C (.type "object")=some true):HT.ExcKind K C:=⟨a,b,c,d,e,f,g,h⟩
theorem ci_mk {n:Int} {t:Tok} (h:mg x=some (.int n t)):∃ t,mg x=some (.int n t):=⟨t,h⟩
theorem cs_mk {z:Str} {t:Tok} (h:mg x=some (.str z t)):∃ t,mg x=some (.str z t):=⟨t,h⟩
theorem own_nil:Own mg []:=λ _ h=>by cases h
theorem own_cons {xs:List Str} (a:mg x=none) (h:Own mg xs):Own mg (x::xs):=λ y hy=>by
  rcases List.mem_cons.mp hy with rfl | hy
  · exact a
  · exact h y hy
end
def Nxt (N:St->Hp->Prop):St->Hp->Prop:=N
structure Cut (u:TS) (D:Ends) (N:St->Hp->Prop):Prop where
  go:∀ σ H,u D σ H->N σ H
theorem Mq {t u:TS} {D:Ends} {σ:St} {H:Hp} (h:∀ N,Cut u D N->t { D with nx:=Nxt N } σ H):O0 t u D σ H:=h (u D) ⟨λ _ _ x=>x⟩
theorem NX {u:TS} {D:Ends} {N:St->Hp->Prop} {σ:St} {H:Hp} (k:Cut u D N) (h:u D σ H):Nxt N σ H:=k.go _ _ h
end L2
namespace MG
abbrev Th:=Bool × Nat
abbrev Vis:=List (Th × Option Th)
def has (v:Vis) (x:Th):Bool:=v.any λ p=>decide (p.1=x)
theorem has_iff {v:Vis} {x:Th}:has v x=true↔x∈v.map (·.1):=by
  unfold has;rw [List.any_eq_true,List.mem_map];constructor
  · rintro ⟨p,hp,e⟩;exact ⟨p,hp,of_decide_eq_true e⟩
  · rintro ⟨p,hp,e⟩;exact ⟨p,hp,decide_eq_true e⟩
def AA (u:Th) (acc:Vis × List Th) (x:Th):Vis × List Th:=if has acc.1 x=true then acc else (acc.1++[(x,some u)],acc.2++[x])
def goT (ad:Th->List Th) (acc:Vis × List Th) (u:Th):Vis × List Th:=(ad u).foldl (AA u) acc
def Hv (ad:Th->List Th) (vis:Vis) (met:List Th):Vis × List Th:=met.foldl (goT ad) (vis,[])
def lv (ad:Th->List Th) (one:Th):Nat->Vis × List Th
  | 0=>([(one,none)],[one])
  | k+1=>Hv ad (lv ad one k).1 (lv ad one k).2
def End (ad:Th->List Th) (one:Th) (vis:Vis):Prop:=∃ k,lv ad one k=(vis,[])
theorem Gz {ad:Th->List Th} {one:Th} {vis:Vis} {k:Nat} (h:lv ad one k=(vis,[])):∀ j,lv ad one (k+j)=(vis,[])
  | 0=>h
  | j+1=>by
    show Hv ad (lv ad one (k+j)).1 (lv ad one (k+j)).2=_;rw [Gz h j];rfl
theorem End.uniq {ad:Th->List Th} {one:Th} {v w:Vis} (a:End ad one v) (b:End ad one w):v=w:=by
  obtain ⟨k,hk⟩:=a;obtain ⟨j,hj⟩:=b;have h1:=Gz hk j;have h2:=Gz hj k;rw [Nat.add_comm] at h2;rw [h1] at h2;exact congrArg Prod.fst h2
structure Good (U:List Th) (n0:Nat) (acc:Vis × List Th):Prop where
  nd:(acc.1.map (·.1)).Nodup
  sub:∀ x∈acc.1.map (·.1),x∈U
  sub2:∀ x∈acc.2,x∈U
  len:acc.1.length=n0+acc.2.length
  pre:∀ a b x p,acc.1=a++(x,some p)::b->p∈a.map (·.1)
theorem Good.step {U:List Th} {n0:Nat} {acc:Vis × List Th} {u x:Th} (g:Good U n0 acc) (hx:x∈U) (hu:u∈acc.1.map (·.1)):Good U n0 (AA u acc x):=by
  unfold AA;split
  · exact g
  · rename_i h
    have hn:x∉acc.1.map (·.1):=λ z=>h (has_iff.mpr z);refine ⟨?_,λ y hy=> ?_,λ y hy=> ?_,?_,λ a b y p e=> ?_⟩
    · rw [List.map_append];exact L2.nd_snoc g.nd hn
    · rw [List.map_append] at hy;rcases List.mem_append.mp hy with z | z
      · exact g.sub y z
      · rw [List.mem_singleton.mp z];exact hx
    · rcases List.mem_append.mp hy with z | z
      · exact g.sub2 y z
      · rw [List.mem_singleton.mp z];exact hx
    · have:=g.len;simp;omega
    · rcases List.eq_nil_or_concat b with rfl | ⟨b',z,rfl⟩
      · have e2:acc.1++[(x,some u)]=a++[(y,some p)]:=e;obtain ⟨e3,e4⟩:=List.append_inj' e2 rfl;injection e4 with e5 _;injection e5 with e6 e7;injection e7 with e8;rw [<-e3, <-e8];exact hu
      · have e0:acc.1++[(x,some u)]=a++(y,some p)::b'.concat z:=e;have e2:acc.1++[(x,some u)]=(a++(y,some p)::b')++[z]:=by rw [e0];simp
        obtain ⟨e3,_⟩:=List.append_inj' e2 rfl;exact g.pre a b' y p e3
theorem Fw {u x:Th} {acc:Vis × List Th} {y:Th} (h:y∈acc.1.map (·.1)):y∈(AA u acc x).1.map (·.1):=by
  unfold AA;split
  · exact h
  · rw [List.map_append];exact List.mem_append_left _ h
theorem Good.go {U:List Th} {n0:Nat} {u:Th}:∀ (l:List Th) {acc:Vis × List Th},Good U n0 acc->(∀ x∈l,x∈U)->u∈acc.1.map (·.1)->Good U n0 (l.foldl (AA u) acc)/\u∈(l.foldl (AA u) acc).1.map (·.1)/\∀ y∈acc.1.map (·.1),y∈(l.foldl (AA u) acc).1.map (·.1)
  | [],acc,g,_,hu=>⟨g,hu,λ y hy=>hy⟩
  | x::l,acc,g,hl,hu=>by
    rw [List.foldl_cons];obtain ⟨a,b,c⟩:=Good.go l (g.step (hl x (List.mem_cons_self ..)) hu) (λ y hy=>hl y (List.mem_cons_of_mem _ hy)) (Fw hu);exact ⟨a,b,λ y hy=>c y (Fw hy)⟩
theorem Good.lev {U:List Th} {n0:Nat} {ad:Th->List Th} (cl:∀ t∈U,∀ x∈ad t,x∈U):∀ (met:List Th) {acc:Vis × List Th},Good U n0 acc->(∀ u∈met,u∈acc.1.map (·.1))->Good U n0 (met.foldl (goT ad) acc)
  | [],acc,g,_=>g
  | u::met,acc,g,hm=>by
    rw [List.foldl_cons];have hu:=hm u (List.mem_cons_self ..);obtain ⟨a,b,c⟩:=Good.go (u:=u) (ad u) g (cl u (g.sub u hu)) hu;exact Good.lev cl met a λ v hv=>c v (hm v (List.mem_cons_of_mem _ hv))
theorem IA {u:Th}:∀ (l:List Th) (acc:Vis × List Th) (y:Th),y∈acc.1.map (·.1)->y∈(l.foldl (AA u) acc).1.map (·.1)
  | [],acc,y,h=>h
  | x::l,acc,y,h=>by
    rw [List.foldl_cons];exact IA l _ y (Fw h)
theorem GV {ad:Th->List Th}:∀ (met:List Th) (acc:Vis × List Th) (y:Th),y∈acc.1.map (·.1)->y∈(met.foldl (goT ad) acc).1.map (·.1)
  | [],acc,y,h=>h
  | u::met,acc,y,h=>by
    rw [List.foldl_cons];exact GV met _ y (IA (ad u) acc y h)
theorem Good.bound {U:List Th} {n0:Nat} {acc:Vis × List Th} (g:Good U n0 acc):acc.1.length<=U.length/\acc.2.length<=U.length:=by
  have:=g.nd.length_le_of_subset g.sub;have:=g.len;simp at*;omega
theorem Lw {ad:Th->List Th}:∀ (l:List Th) (u:Th) (acc:Vis × List Th),(∀ x∈acc.2,x∈acc.1.map (·.1))->∀ x∈(l.foldl (AA u) acc).2,x∈(l.foldl (AA u) acc).1.map (·.1)
  | [],u,acc,h=>h
  | y::l,u,acc,h=>by
    rw [List.foldl_cons];refine Lw (ad:=ad) l u _ λ x hx=> ?_;unfold AA at hx ⊢;split
    · rename_i q;rw [if_pos q] at hx;exact h x hx
    · rename_i q
      rw [if_neg q] at hx;rw [List.map_append];rcases List.mem_append.mp hx with z | z
      · exact List.mem_append_left _ (h x z)
      · exact List.mem_append_right _ (by simpa using z)
theorem Gy {ad:Th->List Th}:∀ (met:List Th) (acc:Vis × List Th),(∀ x∈acc.2,x∈acc.1.map (·.1))->∀ x∈(met.foldl (goT ad) acc).2,x∈(met.foldl (goT ad) acc).1.map (·.1)
  | [],acc,h=>h
  | u::met,acc,h=>by
    rw [List.foldl_cons];exact Gy met _ (Lw (ad:=ad) (ad u) u acc h)
structure Lv (U:List Th) (a:Vis × List Th):Prop where
  nd:(a.1.map (·.1)).Nodup
  sub:∀ x∈a.1.map (·.1),x∈U
  sub2:∀ x∈a.2,x∈U
  inn:∀ x∈a.2,x∈a.1.map (·.1)
  pre:∀ p q x r,a.1=p++(x,some r)::q->r∈p.map (·.1)
theorem Lv.next {U:List Th} {ad:Th->List Th} (cl:∀ t∈U,∀ x∈ad t,x∈U) {a:Vis × List Th} (l:Lv U a):Lv U (Hv ad a.1 a.2)/\(Hv ad a.1 a.2).1.length=a.1.length+(Hv ad a.1 a.2).2.length:=by
  have g0:Good U a.1.length (a.1,([]:List Th)):=⟨l.nd,l.sub,λ x hx=>(by cases hx),rfl,l.pre⟩;have g:=Good.lev cl a.2 g0 l.inn;exact ⟨⟨g.nd,g.sub,g.sub2,Gy a.2 _ (λ x hx=>by cases hx),g.pre⟩,g.len⟩
theorem Lv.zero {U:List Th} {one:Th} (h:one∈U):Lv U ([(one,none)],[one]):=by
  refine ⟨by simp,λ x hx=> ?_,λ x hx=> ?_,λ x hx=>by simpa using hx,λ p q x r e=> ?_⟩
  · simp at hx;rw [hx];exact h
  · simp at hx;rw [hx];exact h
  · cases p with
    | nil=>injection e with e1 _;injection e1 with _ e2;cases e2
    | cons y p=>simp at e
theorem Lv.all {U:List Th} {ad:Th->List Th} {one:Th} (cl:∀ t∈U,∀ x∈ad t,x∈U) (h:one∈U):∀ k,Lv U (lv ad one k)
  | 0=>Lv.zero h
  | k+1=>(Lv.next cl (Lv.all cl h k)).1
theorem Lv.len {U:List Th} {a:Vis × List Th} (l:Lv U a):a.1.length<=U.length:=by
  have:=l.nd.length_le_of_subset l.sub;simpa using this
def chR:List (Th × Option Th)->Th->List Th
  | [],_=>[]
  | (y,po)::r,x=>if y=x then (match po with | none=>[x] | some p=>chR r p++[x]) else chR r x
theorem FE (y:Th) (po:Option Th) (r:List (Th × Option Th)) (x:Th):chR ((y,po)::r) x=if y=x then (match po with | none=>[x] | some p=>chR r p++[x]) else chR r x:=by
  cases po <;> rfl
def chn (vis:Vis) (x:Th):List Th:=chR vis.reverse x
theorem GI:∀ (r:List (Th × Option Th)) (x:Th),(chR r x).length<=r.length
  | [],x=>Nat.le_refl _
  | (y,po)::r,x=>by
    rw [FE];split
    · cases po with
      | none=>simp
      | some p=>have:=GI r p;simp;omega
    · have:=GI r x;simp;omega
theorem Mo (vis:Vis) (x:Th):(chn vis x).length<=vis.length:=by
  have:=GI vis.reverse x;unfold chn;simpa using this
theorem L8 {vis:Vis} {x:Th} {po:Option Th}:chn (vis++[(x,po)]) x=(match po with | none=>[x] | some p=>chn vis p++[x]):=by
  unfold chn;rw [List.reverse_append];show chR ((x,po)::vis.reverse) x=_;rw [FE,if_pos rfl]
theorem MU {vis:Vis} {x y:Th} {po:Option Th} (h:x≠y):chn (vis++[(x,po)]) y=chn vis y:=by
  unfold chn;rw [List.reverse_append];show chR ((x,po)::vis.reverse) y=_;rw [FE,if_neg h]
inductive Rch (ad:Th->List Th) (one:Th):Th->Prop where
  | here:Rch ad one one
  | step {t x:Th} (h:Rch ad one t) (m:x∈ad t):Rch ad one x
theorem Rch.trans {ad:Th->List Th} {a b c:Th} (h:Rch ad a b) (k:Rch ad b c):Rch ad a c:=by
  induction k with
  | here=>exact h
  | step _ m ih=>exact .step ih m
theorem Rch.mem {ad:Th->List Th} {U:List Th} {a b:Th} (cl:∀ t∈U,∀ x∈ad t,x∈U) (ha:a∈U) (h:Rch ad a b):b∈U:=by
  induction h with
  | here=>exact ha
  | step _ m ih=>exact cl _ ih _ m
theorem Rch.rev {ad ad':Th->List Th} {U:List Th} {a b:Th} (cl:∀ t∈U,∀ x∈ad t,x∈U) (s:∀ t∈U,∀ x∈ad t,t∈ad' x) (ha:a∈U) (h:Rch ad a b):Rch ad' b a:=by
  induction h with
  | here=>exact .here
  | @step t x h m ih=>exact (Rch.step .here (s _ (h.mem cl ha) _ m)).trans ih
theorem J8 {u x y:Th} {acc:Vis × List Th}:y∈(AA u acc x).1.map (·.1)↔y∈acc.1.map (·.1)\/y=x:=by
  unfold AA;by_cases h:has acc.1 x=true
  · rw [if_pos h];constructor
    · exact .inl
    · rintro (z | rfl)
      · exact z
      · exact has_iff.mp h
  · rw [if_neg h];simp
theorem IY {u y:Th}:∀ (l:List Th) (acc:Vis × List Th),y∈(l.foldl (AA u) acc).1.map (·.1)↔y∈acc.1.map (·.1)\/y∈l
  | [],acc=>by simp
  | x::l,acc=>by
    rw [List.foldl_cons,IY l,J8,List.mem_cons,or_assoc]
theorem CY {ad:Th->List Th} {y:Th}:∀ (met:List Th) (acc:Vis × List Th),y∈(met.foldl (goT ad) acc).1.map (·.1)↔y∈acc.1.map (·.1)\/∃ t∈met,y∈ad t
  | [],acc=>by simp
  | u::met,acc=>by
    rw [List.foldl_cons,CY met];unfold goT;rw [IY];simp only [List.mem_cons,exists_eq_or_imp];rw [or_assoc]
theorem Kr {u x:Th} {K0:List Th} {acc:Vis × List Th} (h:∀ y∈acc.1.map (·.1),y∈K0\/y∈acc.2):∀ y∈(AA u acc x).1.map (·.1),y∈K0\/y∈(AA u acc x).2:=by
  intro y hy;unfold AA at hy ⊢;by_cases q:has acc.1 x=true
  · rw [if_pos q] at hy ⊢;exact h y hy
  · rw [if_neg q] at hy ⊢;rw [List.map_append,List.mem_append] at hy;rcases hy with z | z
    · rcases h y z with w | w
      · exact .inl w
      · exact .inr (List.mem_append_left _ w)
    · exact .inr (List.mem_append_right _ (by simpa using z))
theorem Lf {u:Th} {K0:List Th}:∀ (l:List Th) (acc:Vis × List Th),(∀ y∈acc.1.map (·.1),y∈K0\/y∈acc.2)->∀ y∈(l.foldl (AA u) acc).1.map (·.1),y∈K0\/y∈(l.foldl (AA u) acc).2
  | [],acc,h=>h
  | x::l,acc,h=>by rw [List.foldl_cons];exact Lf l _ (Kr h)
theorem IL {ad:Th->List Th} {K0:List Th}:∀ (met:List Th) (acc:Vis × List Th),(∀ y∈acc.1.map (·.1),y∈K0\/y∈acc.2)->∀ y∈(met.foldl (goT ad) acc).1.map (·.1),y∈K0\/y∈(met.foldl (goT ad) acc).2
  | [],acc,h=>h
  | u::met,acc,h=>by rw [List.foldl_cons];exact IL met _ (Lf _ _ h)
theorem IV (ad:Th->List Th) (one:Th):∀ k,(∀ t∈(lv ad one k).1.map (·.1),t∈(lv ad one k).2\/∀ x∈ad t,x∈(lv ad one k).1.map (·.1))
  | 0=>λ t ht=> .inl (by simpa [lv] using ht)
  | k+1=>λ t ht=>by
    have up:∀ y,y∈(lv ad one k).1.map (·.1)->y∈(lv ad one (k+1)).1.map (·.1):=λ y hy=>(CY (lv ad one k).2 _).mpr (.inl hy);rcases IL (K0:=(lv ad one k).1.map (·.1)) (lv ad one k).2 ((lv ad one k).1,[]) (λ y hy=> .inl hy) t ht with z | z
    · rcases IV ad one k t z with w | w
      · exact .inr λ x hx=>(CY (lv ad one k).2 _).mpr (.inr ⟨t,w,hx⟩)
      · exact .inr λ x hx=>up x (w x hx)
    · exact .inl z
theorem Jl (ad:Th->List Th) (one:Th):∀ k,(∀ t∈(lv ad one k).1.map (·.1),Rch ad one t)/\(∀ x∈(lv ad one k).2,x∈(lv ad one k).1.map (·.1))
  | 0=>⟨λ t ht=>by
      have:t=one:=by simpa [lv] using ht
      subst this;exact .here,λ x hx=>by simpa [lv] using hx⟩
  | k+1=>by
    obtain ⟨a,b⟩:=Jl ad one k;refine ⟨λ t ht=> ?_,Gy (lv ad one k).2 ((lv ad one k).1,[]) (λ x hx=>by cases hx)⟩;rcases (CY (lv ad one k).2 ((lv ad one k).1,[])).mp ht with z | ⟨u,hu,z⟩
    · exact a t z
    · exact .step (a u (b u hu)) z
theorem End.iff {ad:Th->List Th} {one:Th} {vis:Vis} (e:End ad one vis) (x:Th):has vis x=true↔Rch ad one x:=by
  obtain ⟨k,hk⟩:=e;have a:=Jl ad one k;have b:=IV ad one k;rw [hk] at a b;rw [has_iff];refine ⟨a.1 x,λ h=> ?_⟩
  induction h with
  | here=>
    have:∀ j,one∈(lv ad one j).1.map (·.1):=λ j=>by
      induction j with
      | zero=>simp [lv]
      | succ j ih=>exact (CY (lv ad one j).2 _).mpr (.inl ih)
    have:=this k
    rwa [hk] at this
  | step _ m ih=>
    rcases b _ ih with z | z
    · cases z
    · exact z _ m
theorem Lu {U:List Th} {ad ad':Th->List Th} {one:Th} (h1:one∈U) (cl:∀ t∈U,∀ x∈ad t,x∈U) (cl':∀ t∈U,∀ x∈ad' t,x∈U) (s:∀ t∈U,∀ x∈ad t,t∈ad' x) (s':∀ t∈U,∀ x∈ad' t,t∈ad x):
    ((∀ x∈U,Rch ad one x)/\∀ x∈U,Rch ad' one x)↔∀ t∈U,∀ x∈U,Rch ad t x:=
  ⟨λ h t ht x hx=>((h.2 t ht).rev cl' s' h1).trans (h.1 x hx),λ h=>⟨λ x hx=>h one h1 x hx,λ x hx=>(h x hx one h1).rev cl s hx⟩⟩
theorem E7 {α:Type} (p:α->Bool) (l:List α):(l.filter p).length=l.length↔∀ a∈l,p a=true:=List.length_filter_eq_length_iff
theorem Nh {α:Type} (f:α->Nat):∀ {l m:List α},l.Perm m->l.Pairwise (λ a b=>f a<f b)->m.Pairwise (λ a b=>f a<f b)->l=m
  | [],m,p,_,_=>p.nil_eq
  | a::l,[],p,_,_=>absurd p.length_eq (by simp)
  | a::l,b::m,p,h,k=>by
    rw [List.pairwise_cons] at h k;have e:a=b:=by
      have ha:=p.mem_iff.mp (List.mem_cons_self (a:=a) (l:=l));have hb:=p.mem_iff.mpr (List.mem_cons_self (a:=b) (l:=m));rcases List.mem_cons.mp ha with z | z
      · exact z
      · rcases List.mem_cons.mp hb with w | w
        · exact w.symm
        · have h1:=k.1 a z;have h2:=h.1 b w;omega
    subst e;rw [Nh f (List.perm_cons a |>.mp p) h.2 k.2]
end MG
open L2
local macro_rules | `(tactic| walk_at "t") => `(tactic| first | (with_reducible first | refine Mq λ _ _ => ?_ | refine NX (by assumption) ?_ | refine Oc ?_ | refine Mu ?_ | refine Q6 ?_ | refine Pg ?_ | refine PD ?_ | refine Oz ?_ | refine OU ?_ | refine KL ?_ | refine OL ?_ | refine N4 ?_ | refine N7 ?_ | refine OB ?_ | refine NF ?_ | refine Ms ?_ | refine O4 ?_ | refine Pr ?_ | refine PK ?_ | refine Mt ?_ | refine M6 ?_ | refine Pm ?_ | refine NU ?_ | refine Mn ?_ | refine Og ?_ | refine M0 ?_ | refine N2 ?_ | refine Ow ?_ | refine O1 ?_ | refine L1 ?_ | refine Pw ?_ | refine M5 ?_ | refine J5 ?_ | refine OI ?_ | refine Iw ?_ | refine Io ?_ | refine Mf ?_ | refine L9 ?_ | refine Kv ?_ | refine MJ ?_ | refine NN ?_ | refine J1 ?_ | refine MR ?_ | refine OD ?_ | refine Py ?_ | refine Pc ?_ | refine LZ ?_ | refine OQ ?_ | refine OX ?_ | refine OY ?_ | refine PB ?_ | refine Pt ?_ | refine PP ?_ | refine O6 ?_ | refine Pe ?_ | refine PF ?_ | refine Lj ?_ | refine Ml ?_ | refine Me ?_ | refine Mj ?_ | refine Le ?_ | refine IC ?_ | refine LV ?_ | refine NR ?_ | refine NS ?_ | refine MX ?_ | refine M8 ?_) | ((with_reducible apply Oo); exact rfl) | (with_reducible refine OG (by simp only [List.length_cons, List.length_nil]; decide) ?_))
local macro_rules | `(tactic| walk_at "s") => `(tactic| first | walk_at "t" | (with_reducible refine OH ?_))
local macro_rules | `(tactic| walk_at "v") => `(tactic| repeat walk_at "t")
local macro_rules | `(tactic| walk_at "w") => `(tactic| repeat walk_at "s")
local macro_rules | `(tactic| wrow_has $H $n) => do let t := ((n.getId.toString.drop 1).toString); let i := λ (a : String) => Lean.mkIdent (Lean.Name.mkSimple (a ++ t)); `(tactic| (generalize e : upd $H $(i "p") _ = $(i "H"); have $(i "s"):ident : Same $H $(i "H") := (by rw [<-e]; exact Ai $(i "n")); have $(i "g"):ident := (congrFun e $(i "p")).symm.trans Ad; clear e))
local macro_rules | `(tactic| row_lines $H $n) => do let t := ((n.getId.toString.drop 1).toString); let i := λ (a : String) => Lean.mkIdent (Lean.Name.mkSimple (a ++ t)); `(tactic| (intro $(i "p"):ident $(i "n"):ident; wrow_has $H $n))
local macro_rules | `(tactic| walk_at "x") => `(tactic| repeat first | walk_at "s" | (with_reducible refine Ak (by decide) ?_))
namespace K22
open PySem L2 PySem.Spec PyProof.Rows
seal L2.PE L2.PT L2.PW L2.PA L2.PS L2.PSs L2.PI L2.PG L2.PTs L2.PGs
section
variable {P:Program} {w:World} {K:PySem.W.Frag} {mg:Str->Option Value} {base:Heap}
structure Cs where
  Cloth:Addr
structure Txt (K:PySem.W.Frag) (mg:Str->Option Value) (c:Cs):Prop where
  own:Own mg ["isinstance","int","bool","list","tuple","len","all","range","sum","zip","enumerate","min","max","sorted"]
  g_Cloth:mg "Cloth"=some (.ref c.Cloth)
  kd_Cloth:Kind K c.Cloth
  is_Cloth:PySem.W.kitOne K (.ref c.Cloth) (.ref c.Cloth)=some true
  na_Cloth_width:NoAttr K c.Cloth "width"
  na_Cloth_rows:NoAttr K c.Cloth "rows"
  k_MOST_ENDS:∃ t,mg "MOST_ENDS"=some (.int 60 t)
  k_MOST_PICKS:∃ t,mg "MOST_PICKS"=some (.int 60 t)
  k_END:∃ t,mg "END"=some (.str "end" t)
  k_PICK:∃ t,mg "PICK"=some (.str "pick" t)
def IW (K:PySem.W.Frag):Sp:=λ vs H Q _=>∃ (a:Addr) (ns:List Int),vs=[.ref a]/\SqL K H a (ns.map V.int)/\ns.length<=63/\∀ H',Q (.bl true) H'
end
section
variable {P:Program} {w:World} {K:PySem.W.Frag} {mg:Str->Option Value} {base:Heap} {c:Cs}
def Ek:Sp:=λ vs H Q _=>∃ n:Nat,vs=[.int n]/\1<=n/\n<=1000/\Q (.int ((2 ^ (n - 1):Nat):Int)) H
abbrev E8:Stmt:=top 2
theorem JM:FnScope ["number"] ["number"] (Aj E8):=⟨rfl,rfl,rfl,by decide +kernel,rfl,by decide +kernel,by decide +kernel⟩
theorem Kj {f:Addr} {fd:FuncData} (F:Fun K "bit_of" "bit_of" E8 f fd) (T:Txt K mg c):FnOk P w K mg base CX0 1 f fd ["number"] Ek:=by
  refine F.ok JM (λ vs H Q E h=> ?_) (λ cdv A outer s H vs Q E hr h=> ?_)
  · obtain ⟨n,rfl,_⟩:=h;rfl
  · obtain ⟨n,rfl,h1,h2,q⟩:=h;refine ⟨_,(Ah (An (Af A9 Ac (Af BL (pv 0) Ac)))),?_⟩;walk_at "w";refine Ak ⟨by omega,by omega,by decide⟩ ?_;rw [show ((n:Int) - 1).toNat=n - 1 by omega,Hz];exact q
def Fg (K:PySem.W.Frag):Sp:=λ vs H Q _=>∃ tp a,∃ ns:List Nat,vs=[.ref a]/\SqS tp K H a (ns.map nV)/\(∀ n∈ns,1<=n/\n<=1000)/\∀ H',Same H H'->Q (.int ((MM.mOf ns:Nat):Int)) H'
abbrev Ew:Stmt:=top 3
theorem sc_mask_of:FnScope ["numbers","mask","number"] ["numbers"] (Aj Ew):=⟨rfl,rfl,rfl,by decide +kernel,rfl,by decide +kernel,by decide +kernel⟩
theorem Ih {f:Addr} {fd:FuncData} (F:Fun K "mask_of" "mask_of" Ew f fd) (T:Txt K mg c) (c_bit_of:Aq P w K mg base "bit_of" 1 ["number"] Ek):FnOk P w K mg base CX0 2 f fd ["numbers"] (Fg K):=by
  refine F.ok sc_mask_of (λ vs H Q E h=> ?_) (λ cdv A outer s H vs Q E hr h=> ?_)
  · obtain ⟨tp,a,ns,rfl,_⟩:=h;rfl
  · obtain ⟨tp,a,ns,rfl,sa,hn,q⟩:=h;refine ⟨_,(Ae (Ar (i:=1) sc_mask_of.nd rfl (Or.inl rfl) Ac)
      (Ae (Bv PassesOwn.never rfl (Nf (K:=K) (pv 0)) (AD (i:=2) sc_mask_of.nd rfl (Or.inl rfl)) (Ah (OM (i:=1) sc_mask_of.nd rfl (Or.inl rfl) (Ag c_bit_of hr (Aa (pv 2) Ab)) OK)))
      (Ah (An (pv 1))))),?_⟩
    walk_at "w";refine ⟨tp,a,rfl,⟨_,sa⟩,EZ (Jn sa) (λ i σ H3=>∃ x,σ=[some (.ref a),some (.int ((MM.mOf (ns.take i):Nat):Int)),x]/\Same H H3) ⟨_,rfl,Same.refl _⟩ (λ i σ H3 ⟨_,_,s⟩=>s) ?_ ?_⟩
    · rintro i σ H' H3 hi ⟨x,rfl,s'⟩ s3;have hi':i<ns.length:=by simpa using hi
      have hm:ns.getD i 0∈ns:=by rw [List.getD_eq_getElem?_getD,List.getElem?_eq_getElem hi'];exact List.getElem_mem hi'
      rw [Bs hi];walk_at "w";refine Oy rfl ?_;walk_at "w";refine ⟨_,rfl,(hn _ hm).1,(hn _ hm).2,?_⟩;walk_at "w";rw [bO, <-MM.mOf_snoc, <-JG hi'];exact ⟨_,rfl,s'.trans s3⟩
    · rintro σ H3 ⟨x,rfl,s3⟩;walk_at "w";rw [List.length_map,List.take_length];exact q H3 s3
def DC:Sp:=λ vs H Q _=>∃ n:Nat,vs=[.int n]/\n<=1000/\Q (.int ((2 ^ n - 1:Nat):Int)) H
abbrev Eu:Stmt:=top 4
theorem IG:FnScope ["most"] ["most"] (Aj Eu):=⟨rfl,rfl,rfl,by decide +kernel,rfl,by decide +kernel,by decide +kernel⟩
theorem ID {f:Addr} {fd:FuncData} (F:Fun K "mask_to" "mask_to" Eu f fd) (T:Txt K mg c):FnOk P w K mg base CX0 1 f fd ["most"] DC:=by
  refine F.ok IG (λ vs H Q E h=> ?_) (λ cdv A outer s H vs Q E hr h=> ?_)
  · obtain ⟨n,rfl,_⟩:=h;rfl
  · obtain ⟨n,rfl,h1,q⟩:=h;refine ⟨_,(Ah (An (Af BL (Af A9 Ac (pv 0)) Ac))),?_⟩;walk_at "w";refine Ak ⟨by omega,by omega,by decide⟩ ?_;walk_at "w";have hp:0<2 ^ n:=Nat.two_pow_pos n;rw [show ((n:Int)).toNat=n by omega,Hz,show ((2 ^ n:Nat):Int) - 1=((2 ^ n - 1:Nat):Int) by omega];exact q
def B7:Sp:=λ vs H Q _=>∃ m n:Nat,vs=[.int m, .int n]/\1<=n/\n<=1000/\Q (.bl (m.testBit (n - 1))) H
theorem MO (m i:Nat):(!decide (((m &&& 2 ^ i:Nat):Int)=0))=m.testBit i:=by
  have e:(m &&& 2 ^ i)=(m.testBit i).toNat*2 ^ i:=by
    refine Nat.eq_of_testBit_eq λ j=> ?_;rw [Nat.testBit_and,Nat.testBit_two_pow];by_cases h:i=j
    · subst h;cases hb:m.testBit i <;> simp
    · cases hb:m.testBit i <;> simp [h,Nat.testBit_two_pow]
  rw [e];have hp:0<2 ^ i:=Nat.two_pow_pos i;cases m.testBit i with
  | false=>simp
  | true=>
    rw [decide_eq_false (by rw [Bool.toNat_true];omega)];rfl
abbrev CG:Stmt:=top 5
theorem FI:FnScope ["mask","number"] ["mask","number"] (Aj CG):=⟨rfl,rfl,rfl,by decide +kernel,rfl,by decide +kernel,by decide +kernel⟩
theorem FO {f:Addr} {fd:FuncData} (F:Fun K "has_number" "has_number" CG f fd) (T:Txt K mg c) (c_bit_of:Aq P w K mg base "bit_of" 1 ["number"] Ek):FnOk P w K mg base CX0 2 f fd ["mask","number"] B7:=by
  refine F.ok FI (λ vs H Q E h=> ?_) (λ cdv A outer s H vs Q E hr h=> ?_)
  · obtain ⟨m,n,rfl,_⟩:=h;rfl
  · obtain ⟨m,n,rfl,h1,h2,q⟩:=h;refine ⟨_,(Ah (An (Bo LD (Af GY (pv 0) (Ag c_bit_of hr (Aa (pv 1) Ab))) Ac (AF _)))),?_⟩;walk_at "w";refine ⟨n,rfl,h1,h2,?_⟩;walk_at "w";rw [bA,MO];exact q
def Dx:Sp:=λ vs H Q _=>∃ m:Nat,vs=[.int m]/\m<2 ^ 900/\∀ H' p,Same H H'->H p=none->H' p=some (.lst ((MM.nOf m).map nV))->Q (.ref p) H'
abbrev CQ:Stmt:=top 6
theorem F0:FnScope ["mask"] ["mask"] (Aj CQ):=⟨rfl,rfl,rfl,by decide +kernel,rfl,by decide +kernel,by decide +kernel⟩
theorem FZ {f:Addr} {fd:FuncData} (F:Fun K "numbers_of" "numbers_of" CQ f fd) (T:Txt K mg c) (c_has_number:Aq P w K mg base "has_number" 2 ["mask","number"] B7):FnOk P w K mg base CX0 3 f fd ["mask"] Dx:=by
  refine F.ok F0 (λ vs H Q E h=> ?_) (λ cdv A outer s H vs Q E hr h=> ?_)
  · obtain ⟨m,rfl,_⟩:=h;rfl
  · obtain ⟨m,rfl,h1,q⟩:=h;have hb:=MM.bits_le h1;refine ⟨_,(Ah (An (Bu (JU rfl (T.own _ (by decide)) (Aa Ac (Aa (Af Az (Oi (K:=K) PySem.F.plainAttrs_int PySem.F.slot_int_bit_length PySem.F.type_int_bit_length FF (pv 0)) Ac) Ab))) (λ _ _ _ _=>(E3 (A0 (Ag c_has_number hr (Aa (pv 1) (Aa (pv 0) Ab)))))) (λ _ _ _ _=>(pv 0))))),?_⟩;walk_at "w";refine tyI ?_;refine MZ ?_;walk_at "w";refine ⟨_,_,rfl,⟨by decide,by decide,by omega,by omega⟩,λ D hD=> ?_⟩;rw [show ((MM.bits m:Nat)+1 - 1:Int).toNat=MM.bits m by omega];refine Ff (p:=m.testBit) (G:=λ i=>1+(i:Int)) (F7 rfl) hD (by omega) ?_ ?_ ?_
    · intro i H' R hi s k;walk_at "w";refine ⟨m,i+1,by rw [show (1:Int)+(i:Nat)=((i+1:Nat):Int) by omega],by omega,by omega,?_⟩;rw [show i+1 - 1=i by omega];exact ⟨_,rfl,k H' (Same.refl _)⟩
    · intro i H' R hi hp s k;walk_at "w";exact k H' (Same.refl _)
    · intro H' s hl;refine q H' D s hD ?_;rw [hl];unfold MM.nOf;rw [List.map_map,List.map_map];congr 2;refine List.map_congr_left λ i _=> ?_;show V.int (1+(i:Int))=V.int ((i+1:Nat):Int);congr 1;omega
def Cg:Sp:=λ vs H Q _=>∃ m n:Nat,vs=[.int m, .int n]/\n<=1000/\Q (.int (((2 ^ n - 1) ^^^ m:Nat):Int)) H
abbrev CF:Stmt:=top 7
theorem FX:FnScope ["mask","most"] ["mask","most"] (Aj CF):=⟨rfl,rfl,rfl,by decide +kernel,rfl,by decide +kernel,by decide +kernel⟩
theorem FY {f:Addr} {fd:FuncData} (F:Fun K "other_mask" "other_mask" CF f fd) (T:Txt K mg c) (c_mask_to:Aq P w K mg base "mask_to" 1 ["most"] DC):FnOk P w K mg base CX0 2 f fd ["mask","most"] Cg:=by
  refine F.ok FX (λ vs H Q E h=> ?_) (λ cdv A outer s H vs Q E hr h=> ?_)
  · obtain ⟨m,n,rfl,_⟩:=h;rfl
  · obtain ⟨m,n,rfl,h1,q⟩:=h;refine ⟨_,(Ah (An (Af NZ (Ag c_mask_to hr (Aa (pv 1) Ab)) (pv 0)))),?_⟩;walk_at "w";refine ⟨n,rfl,h1,?_⟩;walk_at "w";rw [bX];exact q
def EC (K:PySem.W.Frag):Sp:=λ vs H Q _=>∃ x,vs=[x]/\Ty K H x/\Q (.bl (Ld x)) H
abbrev DB:Stmt:=top 14
theorem G6:FnScope ["thing"] ["thing"] (Aj DB):=⟨rfl,rfl,rfl,by decide +kernel,rfl,by decide +kernel,by decide +kernel⟩
theorem HM {f:Addr} {fd:FuncData} (F:Fun K "is_whole" "is_whole" DB f fd) (T:Txt K mg c):FnOk P w K mg base CX0 1 f fd ["thing"] (EC K):=by
  refine F.ok G6 (λ vs H Q E h=> ?_) (λ cdv A outer s H vs Q E hr h=> ?_)
  · obtain ⟨x,rfl,_⟩:=h;rfl
  · obtain ⟨x,rfl,⟨n,ty⟩,k⟩:=h;refine ⟨_,(Ah (An (El (Am (CW (K:=K)) rfl (T.own _ (by decide)) boot_isinstance (Aa (pv 0) (Aa (B6 rfl (T.own _ (by decide)) boot_int) Ab))) (Et (NQ (Am (CW (K:=K)) rfl (T.own _ (by decide)) boot_isinstance (Aa (pv 0) (Aa (B6 rfl (T.own _ (by decide)) boot_bool) Ab)))))))),?_⟩;walk_at "w";refine BD ty (MS ty) ?_;walk_at "w";refine JO (λ hc=> ?_) (λ hc=> ?_)
    · walk_at "w";refine BD ty (Lg ty) ?_;walk_at "w";exact HI (by cases x <;> first | rfl | exact absurd hc Bool.false_ne_true) k
    · exact HI (by cases x <;> first | rfl | exact absurd hc.symm Bool.false_ne_true) k
def EE (K:PySem.W.Frag):Sp:=λ vs H Q _=>∃ x a b,vs=[x, .int a, .int b]/\Ty K H x/\Q (.bl (G0 x a b)) H
abbrev Dy:Stmt:=top 15
theorem Ho:FnScope ["thing","least","most"] ["thing","least","most"] (Aj Dy):=⟨rfl,rfl,rfl,by decide +kernel,rfl,by decide +kernel,by decide +kernel⟩
theorem Hd {f:Addr} {fd:FuncData} (F:Fun K "is_among" "is_among" Dy f fd) (T:Txt K mg c) (c_is_whole:Aq P w K mg base "is_whole" 1 ["thing"] (EC K)):FnOk P w K mg base CX0 2 f fd ["thing","least","most"] (EE K):=by
  refine F.ok Ho (λ vs H Q E h=> ?_) (λ cdv A outer s H vs Q E hr h=> ?_)
  · obtain ⟨x,a,b,rfl,_⟩:=h;rfl
  · obtain ⟨x,a,b,rfl,ty,k⟩:=h;refine ⟨_,(Ah (An (El (Ag c_is_whole hr (Aa (pv 0) Ab)) (Et (K5 Nx Nx (pv 1) (pv 0) (pv 2)))))),?_⟩;walk_at "w";refine ⟨x,rfl,ty,?_⟩;walk_at "w";refine JO (λ hc=> ?_) (λ hc=> ?_)
    · cases x with
      | int i=>
        walk_at "w";refine JO (λ h1=> ?_) (λ h1=> ?_)
        · walk_at "w";exact HI (by show _=(decide (a<=i)&&decide (i<=b));rw [h1,Bool.true_and]) k
        · walk_at "w";exact HI (by show _=(decide (a<=i)&&decide (i<=b));rw [h1,Bool.false_and]) k
      | _=>exact absurd hc Bool.false_ne_true
    · exact HI (by cases x <;> first | rfl | exact absurd hc.symm Bool.false_ne_true) k
def ClAt (C:Addr) (H:Hp) (x:Addr) (n:Nat) (rs:List Nat):Prop:=∃ dx t,H x=some (.ins C dx [("width",nV n),("rows", .ref t)])/\H t=some (.tup (rs.map nV))
theorem ClAt.same {C:Addr} {H H':Hp} {x:Addr} {n:Nat} {rs:List Nat} (h:ClAt C H x n rs) (s:Same H H'):ClAt C H' x n rs:=by
  obtain ⟨dx,t,h1,h2⟩:=h;exact ⟨dx,t,s _ _ h1,s _ _ h2⟩
structure ClOk (n:Nat) (rs:List Nat):Prop where
  n1:1<=n
  n2:n<=60
  p1:1<=rs.length
  p2:rs.length<=60
  lt:∀ r∈rs,r<2 ^ n
def Dp:Sp:=λ vs H Q _=>∃ (n:Nat) (a:Addr) (rs:List Nat),vs=[.int n, .ref a]/\H a=some (.lst (rs.map nV))/\ClOk n rs/\∀ H',Same H H'->Q .non H'
abbrev Cz:Stmt:=top 17
theorem FJ:FnScope ["ends","rows"] ["ends","rows"] (Aj Cz):=⟨rfl,rfl,rfl,by decide +kernel,rfl,by decide +kernel,by decide +kernel⟩
theorem FM {f:Addr} {fd:FuncData} (F:Fun K "need_cloth" "need_cloth" Cz f fd) (T:Txt K mg c) (c_is_among:Aq P w K mg base "is_among" 2 ["thing","least","most"] (EE K)) (c_mask_to:Aq P w K mg base "mask_to" 1 ["most"] DC):FnOk P w K mg base CX0 3 f fd ["ends","rows"] Dp:=by
  refine F.ok FJ (λ vs H Q E h=> ?_) (λ cdv A outer s H vs Q E hr h=> ?_)
  · obtain ⟨n,a,rs,rfl,_⟩:=h;rfl
  · obtain ⟨n,a,rs,rfl,ha,ok,k⟩:=h;refine ⟨_,(Ae (A5 (CM (A0 (Ag c_is_among hr (Aa (pv 0) (Aa Ac (Aa (Nd T.k_MOST_ENDS) Ab)))))) (Ah Fm) AC)
      (Ae (A5 (PW.pt (Hc (CM (A0 (Am (CW (K:=K)) rfl (T.own _ (by decide)) boot_isinstance (Aa (pv 1) (Aa (B6 rfl (T.own _ (by decide)) AJ) Ab))))) (Fb (CM (A0 (Ag c_is_among hr (Aa (Am (BZ (K:=K)) rfl (T.own _ (by decide)) boot_len (Aa (pv 1) Ab)) (Aa Ac (Aa (Nd T.k_MOST_PICKS) Ab))))))))) (Ah Fm) AC)
      (Ah (A5 (CM (A0 (Am (Nn (K:=K)) rfl (T.own _ (by decide)) Gq (Aa (Bu (Cr (K:=K) (pv 1)) (λ _ _ _ _=>AU) (λ _ _ _ _=>(Ag c_is_among hr (Aa (pv 0) (Aa Ac (Aa (Ag c_mask_to (hr.mono (by decide)) (Aa (pv 1) Ab)) Ab)))))) Ab)))) (Ah Fm) AC)))),?_⟩
    walk_at "w";refine ⟨_,_,_,rfl,⟨_, .int _⟩,?_⟩;walk_at "w";have e1:G0 (.int n) 1 60=true:=by
      have:=ok.n1;have:=ok.n2;show (decide ((1:Int)<=n)&&decide ((n:Int)<=60))=true;simp;omega
    rw [e1];refine Io ?_;walk_at "w";refine BD (.lst ha) (kb (b:=true) (by decide +kernel)) ?_;walk_at "w";refine AT (SqL.of ha) ?_;walk_at "w";refine ⟨_,_,_,rfl,⟨_, .int _⟩,?_⟩;walk_at "w";have e2:G0 (.int ((rs.map nV).length:Nat)) 1 60=true:=by
      have:=ok.p1;have:=ok.p2;rw [List.length_map];show (decide ((1:Int)<=(rs.length:Nat))&&decide (((rs.length:Nat):Int)<=60))=true;simp;omega
    rw [e2];refine Io ?_;walk_at "w";refine ⟨a,rfl,⟨_,SqL.of ha⟩,λ D hD=> ?_⟩;refine LS (G:=λ _=>true) (Cj (SqL.of ha) rfl) hD (by have:=ok.p2;rw [List.length_map];omega) ?_ ?_
    · intro i H' R hi s kk;have hi':i<rs.length:=by simpa using hi
      rw [Bs hi];walk_at "w";refine ⟨n,rfl,by have:=ok.n2;omega,?_⟩;walk_at "w";refine ⟨_,_,_,rfl,⟨_, .int _⟩,?_⟩;have e3:G0 (.int (rs.getD i 0:Nat)) 0 ((2 ^ n - 1:Nat):Int)=true:=by
        have hm:rs.getD i 0∈rs:=by rw [List.getD_eq_getElem?_getD,List.getElem?_eq_getElem hi'];exact List.getElem_mem hi'
        have:=ok.lt _ hm;have hp:0<2 ^ n:=Nat.two_pow_pos n;show (decide ((0:Int)<=(rs.getD i 0:Nat))&&decide (((rs.getD i 0:Nat):Int)<=((2 ^ n - 1:Nat):Int)))=true;simp only [Bool.and_eq_true,decide_eq_true_eq];omega
      rw [e3];exact kk H' (Same.refl _)
    · intro H' s hl;walk_at "w";refine LH (SqL.of hl) ?_;walk_at "w";have e4:((List.range (rs.map nV).length).map λ _=>true).all id=true:=by simp
      rw [e4];refine Io ?_;walk_at "w";exact k H' s
def AI (c:Cs):Sp:=λ vs H Q _=>∃ (x dx:Addr) (n:Nat) (a:Addr) (rs:List Nat),vs=[.ref x, .int n, .ref a]/\H x=some (.ins c.Cloth dx [])/\H a=some (.lst (rs.map nV))/\ClOk n rs/\
  ∀ H',(∀ b o,H b=some o->b≠x->H' b=some o)->ClAt c.Cloth H' x n rs->Q .non H'
abbrev Bi:Stmt:=AS (top 18) 0
theorem DR:FnScope ["self","ends","rows"] ["self","ends","rows"] (Aj Bi):=⟨rfl,rfl,rfl,by decide +kernel,rfl,by decide +kernel,by decide +kernel⟩
theorem DL {f:Addr} {fd:FuncData} (F:Fun K "__init__" "Cloth.__init__" Bi f fd) (T:Txt K mg c) (c_need_cloth:Aq P w K mg base "need_cloth" 3 ["ends","rows"] Dp):FnOk P w K mg base CX0 4 f fd ["self","ends","rows"] (AI c):=by
  refine F.ok DR (λ vs H Q E h=> ?_) (λ cdv A outer s H vs Q E hr h=> ?_)
  · obtain ⟨x,dx,n,a,rs,rfl,_⟩:=h;rfl
  · obtain ⟨x,dx,n,a,rs,rfl,hx,ha,ok,k⟩:=h;refine ⟨_,(Ae (B3 (Ag c_need_cloth hr (Aa (pv 1) (Aa (pv 2) Ab))))
      (Ae (K7 (pv 0) (pv 1) rfl)
      (Ah (K7 (pv 0) (Dg (Mw (K:=K)) rfl (T.own _ (by decide)) B4 (Aa (pv 2) Ab)) rfl)))),?_⟩
    walk_at "w";refine ⟨n,a,rs,rfl,ha,ok,λ H1 s1=> ?_⟩;walk_at "w";refine LB (s1 _ _ hx) T.kd_Cloth.cl T.na_Cloth_width (by decide) ?_;walk_at "w";have nax:a≠x:=CT ha hx (by intro z;cases z);refine KM (SqL.of (by rw [Al nax];exact s1 _ _ ha)) λ t ht=> ?_;walk_at "w";have nxt:x≠t:=Ao Ad ht;refine LB (by rw [Al nxt];exact Ad) T.kd_Cloth.cl T.na_Cloth_rows (by show 1<1000;decide) ?_;walk_at "w";refine k _ (λ b o e hb=> ?_) ⟨dx,t,Ad,by rw [Al (Ne.symm nxt),Ad]⟩;have hbt:b≠t:=λ z=>by
      subst z;rw [Al hb,s1 _ _ e] at ht;cases ht
    rw [Al hb,Al hbt,Al hb];exact s1 _ _ e
theorem MN {c:Cs} {H:Hp} {Q:VK} {n:Nat} {a:Addr} {rs:List Nat} (ha:H a=some (.lst (rs.map nV))) (ok:ClOk n rs) (h:∀ H' x,Same H H'->H x=none->ClAt c.Cloth H' x n rs->Q (.ref x) H'):
    ∀ x dx,H x=none->H dx=none->dx≠x->AI c [.ref x, .int n, .ref a] (upd (upd H dx (.own x)) x (.ins c.Cloth dx [])) (λ v H2=>v= .non/\Q (.ref x) H2) E0:=by
  intro x dx hx hdx ne;have s0:=Ha (o:=HO.ins c.Cloth dx []) (u:= .own x) hx hdx;exact ⟨x,dx,n,a,rs,rfl,Ad,s0 _ _ ha,ok,λ H' kp at'=>⟨rfl,h H' x (λ b o e=>kp b o (s0 b o e) (Ao e hx)) hx at'⟩⟩
theorem LW {c:Cs} {H:Hp} {R:Addr->Hp->Prop} {n:Nat} {a:Addr} {rs:List Nat} (ha:H a=some (.lst (rs.map nV))) (ok:ClOk n rs) (h:∀ H' x,Same H H'->H x=none->ClAt c.Cloth H' x n rs->R x H'):
    ∀ x dx,H x=none->H dx=none->dx≠x->AI c [.ref x, .int n, .ref a] (upd (upd H dx (.own x)) x (.ins c.Cloth dx [])) (λ v H2=>v= .non/\R x H2) E0:=by
  intro x dx hx hdx ne;have s0:=Ha (o:=HO.ins c.Cloth dx []) (u:= .own x) hx hdx;exact ⟨x,dx,n,a,rs,rfl,Ad,s0 _ _ ha,ok,λ H' kp at'=>⟨rfl,h H' x (λ b o e=>kp b o (s0 b o e) (Ao e hx)) hx at'⟩⟩
abbrev GD:Stmt:=AS (top 18) 1
theorem LX:FnScope ["self"] ["self"] (Aj GD):=⟨rfl,rfl,rfl,by decide +kernel,rfl,by decide +kernel,by decide +kernel⟩
def Bp (c:Cs):Sp:=λ vs H Q _=>∃ x n rs,vs=[.ref x]/\ClAt c.Cloth H x n rs/\Q (nV n) H
abbrev CC:Stmt:=AS (top 18) 2
theorem FQ:FnScope ["self"] ["self"] (Aj CC):=⟨rfl,rfl,rfl,by decide +kernel,rfl,by decide +kernel,by decide +kernel⟩
theorem FH {f:Addr} {fd:FuncData} (F:Fun K "ends" "Cloth.ends" CC f fd) (T:Txt K mg c):FnOk P w K mg base CX0 1 f fd ["self"] (Bp c):=by
  refine F.ok FQ (λ vs H Q E h=> ?_) (λ cdv A outer s H vs Q E hr h=> ?_)
  · obtain ⟨x,n,rs,rfl,_⟩:=h;rfl
  · obtain ⟨x,n,rs,rfl,⟨dx,t,h1,h2⟩,k⟩:=h;refine ⟨_,(Ah (An (Ia (K:=K) (pv 0) rfl))),?_⟩;walk_at "w";exact ⟨_,_,_,_,_,rfl,h1,T.kd_Cloth.cl,T.na_Cloth_width,rfl,k⟩
def A7 (c:Cs):Sp:=λ vs H Q _=>∃ x n rs,vs=[.ref x]/\ClAt c.Cloth H x n rs/\Q (nV rs.length) H
abbrev Cd:Stmt:=AS (top 18) 3
theorem Fu:FnScope ["self"] ["self"] (Aj Cd):=⟨rfl,rfl,rfl,by decide +kernel,rfl,by decide +kernel,by decide +kernel⟩
theorem Fd {f:Addr} {fd:FuncData} (F:Fun K "picks" "Cloth.picks" Cd f fd) (T:Txt K mg c):FnOk P w K mg base CX0 1 f fd ["self"] (A7 c):=by
  refine F.ok Fu (λ vs H Q E h=> ?_) (λ cdv A outer s H vs Q E hr h=> ?_)
  · obtain ⟨x,n,rs,rfl,_⟩:=h;rfl
  · obtain ⟨x,n,rs,rfl,⟨dx,t,h1,h2⟩,k⟩:=h;refine ⟨_,(Ah (An (Am (BZ (K:=K)) rfl (T.own _ (by decide)) boot_len (Aa (Ia (K:=K) (pv 0) rfl) Ab)))),?_⟩;walk_at "w";refine ⟨_,_,_,_,_,rfl,h1,T.kd_Cloth.cl,T.na_Cloth_rows,rfl,?_⟩;walk_at "w";refine Ju (SqT.of h2) ?_;rw [List.length_map];exact k
theorem Mc (f:Nat->Bool) (w:Nat):MM.mOf (((List.range w).filter f).map (· + 1))=MM.ofB f w:=by
  refine Nat.eq_of_testBit_eq λ i=> ?_;rw [MM.mOf_bit,MM.ofB_bit,Bool.eq_iff_iff,List.any_eq_true];constructor
  · rintro ⟨n,hn,e⟩;obtain ⟨k,hk,rfl⟩:=List.mem_map.mp hn;obtain ⟨h1,h2⟩:=List.mem_filter.mp hk;have e:k+1 - 1=i:=of_decide_eq_true e;have e:k=i:=by omega
    subst e;simp [List.mem_range.mp h1,h2]
  · intro h;simp only [Bool.and_eq_true,decide_eq_true_eq] at h;exact ⟨i+1,List.mem_map.mpr ⟨i,List.mem_filter.mpr ⟨List.mem_range.mpr h.1,h.2⟩,rfl⟩,by simp⟩
def JB (rs:List Nat) (e:Nat):Nat:=MM.ofB (λ p=>(rs.getD p 0).testBit (e - 1)) rs.length
def BH (c:Cs):Sp:=λ vs H Q _=>∃ x n rs,∃ e:Nat,vs=[.ref x,nV e]/\ClAt c.Cloth H x n rs/\rs.length<=60/\1<=e/\e<=60/\∀ H',Same H H'->Q (nV (JB rs e)) H'
abbrev Bc:Stmt:=AS (top 18) 5
theorem DI:FnScope ["self","end"] ["self","end"] (Aj Bc):=⟨rfl,rfl,rfl,by decide +kernel,rfl,by decide +kernel,by decide +kernel⟩
theorem DA {f:Addr} {fd:FuncData} (F:Fun K "column_at" "Cloth.column_at" Bc f fd) (T:Txt K mg c) (c_mask_of:Aq P w K mg base "mask_of" 2 ["numbers"] (Fg K)) (c_has_number:Aq P w K mg base "has_number" 2 ["mask","number"] B7):FnOk P w K mg base CX0 3 f fd ["self","end"] (BH c):=by
  refine F.ok DI (λ vs H Q E h=> ?_) (λ cdv A outer s H vs Q E hr h=> ?_)
  · obtain ⟨x,n,rs,e,rfl,_⟩:=h;rfl
  · obtain ⟨x,n,rs,e,rfl,⟨dx,t,h1,h2⟩,hl,e1,e2,k⟩:=h;refine ⟨_,(Ah (An (Ag c_mask_of hr (Aa (HV (K:=K) (Ky (K:=K) rfl (T.own _ (by decide)) (Aa (Ia (K:=K) (pv 0) rfl) Ab)) (λ _ _ _ _=>(E3 (A0 (Ag c_has_number hr (Aa (pv 1) (Aa (pv 2) Ab)))))) (λ _ _ _ _=>(pv 0))) Ab)))),?_⟩;walk_at "w";refine ⟨_,_,_,_,_,rfl,h1,T.kd_Cloth.cl,T.na_Cloth_rows,rfl,?_⟩;walk_at "w";refine ⟨true,t,rfl,⟨_,SqT.of h2⟩,λ D hD=> ?_⟩;refine Ff (p:=λ i=>(rs.getD i 0).testBit (e - 1)) (G:=λ i=>((i+1:Nat):Int)) (JD (tp:=true) (SqT.of h2) rfl rfl) hD (by rw [List.length_map];omega) ?_ ?_ ?_
    · intro i H' R hi s kk;rw [Bs hi];walk_at "w";refine ⟨rs.getD i 0,e,rfl,e1,by omega,?_⟩;exact ⟨_,rfl,kk H' (Same.refl _)⟩
    · intro i H' R hi hp s kk;walk_at "w";exact kk H' (Same.refl _)
    · intro H' s hl2;walk_at "w";have e:((((List.range (rs.map nV).length).filter λ i=>(rs.getD i 0).testBit (e - 1)).map λ i=>((i+1:Nat):Int)).map V.int)=(((List.range rs.length).filter λ i=>(rs.getD i 0).testBit (e - 1)).map (· + 1)).map nV:=by
        rw [List.length_map,List.map_map,List.map_map];rfl
      rw [e] at hl2;refine ⟨false,D,_,rfl,SqL.of hl2,λ n hn=> ?_,λ H2 s2=> ?_⟩
      · obtain ⟨j,hj,rfl⟩:=List.mem_map.mp hn;have:=List.mem_range.mp (List.mem_filter.mp hj).1;omega
      · rw [Mc];exact k H2 (s.trans s2)
open MG
def nm (b:Bool):Str:=if b=true then Str.ofString "pick" else Str.ofString "end"
def thV (t:Th):List V:=[.str (nm t.1),nV t.2]
def thK (t:Th):List Key:=[.inr (nm t.1), .inl ((t.2:Nat):Int)]
theorem QE (t:Th):(thK t).map kV=thV t:=rfl
theorem LE {a b:Bool} (h:nm a=nm b):a=b:=by
  cases a <;> cases b <;> first | rfl | (exact absurd h (by decide))
theorem Jg {t u:Th} (h:thK t=thK u):t=u:=by
  obtain ⟨a,k⟩:=t;obtain ⟨b,l⟩:=u;unfold thK at h;injection h with h1 h2;injection h2 with h3 _;injection h1 with h1;injection h3 with h3;have e1:a=b:=LE h1;have h3:((k:Nat):Int)=((l:Nat):Int):=h3;have e2:k=l:=by omega
  rw [e1,e2]
def dTh (t:Th):Dt:= .tup [.str (nm t.1),dN t.2]
def TR (H:Hp) (v:V) (t:Th):Prop:=∃ b,v= .ref b/\H b=some (.tup (thV t))
theorem TR.same {H H':Hp} {v:V} {t:Th} (h:TR H v t) (s:Same H H'):TR H' v t:=by
  obtain ⟨b,e,q⟩:=h;exact ⟨b,e,s _ _ q⟩
structure TL (H:Hp) (vs:List V) (ts:List Th):Prop where
  len:vs.length=ts.length
  at_:∀ i,i<ts.length->TR H (vs.getD i .non) (ts.getD i (false,0))
theorem TL.same {H H':Hp} {vs:List V} {ts:List Th} (h:TL H vs ts) (s:Same H H'):TL H' vs ts:=⟨h.len,λ i hi=>(h.at_ i hi).same s⟩
theorem TL.nil {H:Hp}:TL H [] []:=⟨rfl,λ i hi=>by cases hi⟩
theorem TL.app {H:Hp} {vs ws:List V} {ts us:List Th} (a:TL H vs ts) (b:TL H ws us):TL H (vs++ws) (ts++us):=by
  refine ⟨by rw [List.length_append,List.length_append,a.len,b.len],λ i hi=> ?_⟩;rcases Nat.lt_or_ge i ts.length with z | z
  · have:=a.at_ i z;rw [List.getD_eq_getElem?_getD,List.getElem?_append_left (by rw [a.len];exact z),List.getD_eq_getElem?_getD,List.getElem?_append_left z, <-List.getD_eq_getElem?_getD, <-List.getD_eq_getElem?_getD];exact this
  · have:=b.at_ (i - ts.length) (by rw [List.length_append] at hi;omega);rw [List.getD_eq_getElem?_getD,List.getElem?_append_right (by rw [a.len];exact z),List.getD_eq_getElem?_getD,List.getElem?_append_right z,a.len, <-List.getD_eq_getElem?_getD, <-List.getD_eq_getElem?_getD];exact this
theorem TL.one {H:Hp} {v:V} {t:Th} (h:TR H v t):TL H [v] [t]:=⟨rfl,λ i hi=>by
  have:i=0:=by simpa using hi
  subst this;exact h⟩
theorem LQ {H:Hp} {F:Addr->Prop} {n:Nat} {v:V} {t:Th} (h:TR H v t):Rp H F (n+1) v (dTh t):=by
  obtain ⟨b,rfl,q⟩:=h;exact DT q (.str _) (.int _)
theorem PM {H:Hp} {F:Addr->Prop} {n:Nat} {v:V} {t:Th} (r:Rp H F n v (dTh t)):TR H v t:=by
  obtain ⟨m,a,vs,rfl,rfl,h,l,b,e⟩:=N0 r
  match vs,l,h,e with
  | [x,y],_,h,e=>
    have e0:=e 0 (by show 0<2;decide);have e1:=e 1 (by show 1<2;decide);cases e0;cases e1;exact ⟨a,rfl,h⟩
theorem F3 {H:Hp} {F:Addr->Prop} {a:Addr} {vs:List V} {ts:List Th} (h:H a=some (.lst vs)) (f:F a) (b:ts.length<=100000) (l:TL H vs ts):Rp H F 2 (.ref a) (.lst (ts.map dTh)):=by
  refine .lst h f (by rw [l.len];exact b) (by rw [l.len,List.length_map]) λ i v d hv hd=> ?_;have hi:i<ts.length:=by
    have:=(List.getElem?_eq_some_iff.mp hv).1;rw [l.len] at this;exact this
  have:=l.at_ i hi;rw [List.getD_eq_getElem?_getD,hv] at this;rw [List.getElem?_map,List.getElem?_eq_getElem hi] at hd;have ed:d=dTh ts[i]:=(Option.some.inj hd).symm;rw [L2.getD_el hi] at this;rw [ed];exact LQ this
theorem Dm {H:Hp} {F:Addr->Prop} {n:Nat} {v:V} {ts:List Th} (r:Rp H F n v (.lst (ts.map dTh))):∃ a vs,v= .ref a/\H a=some (.lst vs)/\F a/\TL H vs ts/\ts.length<=100000:=by
  obtain ⟨m,a,vs,rfl,rfl,h,f,l,b,e⟩:=Kz r;rw [List.length_map] at l;refine ⟨a,vs,rfl,h,f,⟨l,λ i hi=> ?_⟩,by omega⟩;have:=e i (by simpa using hi);rw [KY dTh ts i .non (false,0) hi] at this;exact PM this
def Ee (K:PySem.W.Frag) (b:Bool):Sp:=λ vs H Q _=>∃ (a:Addr) (ns:List Nat),vs=[.ref a]/\SqL K H a (ns.map nV)/\ns.length<=1000/\∀ H' p,Same H H'->H p=none->Rp H' (FN H) 2 (.ref p) (.lst ((ns.map λ k=>((b,k):Th)).map dTh))->Q (.ref p) H'
abbrev B9:Stmt:=top 24
theorem Fk:FnScope ["ends"] ["ends"] (Aj B9):=⟨rfl,rfl,rfl,by decide +kernel,rfl,by decide +kernel,by decide +kernel⟩
theorem Fo {f:Addr} {fd:FuncData} (F:Fun K "end_threads" "end_threads" B9 f fd) (T:Txt K mg c):FnOk P w K mg base CX0 1 f fd ["ends"] (Ee K false):=by
  refine F.ok Fk (λ vs H Q E h=> ?_) (λ cdv A outer s H vs Q E hr h=> ?_)
  · obtain ⟨a,ns,rfl,_⟩:=h;rfl
  · obtain ⟨a,ns,rfl,sa,hn,k⟩:=h;refine ⟨_,(Ah (An (Bu (Cr (K:=K) (pv 0)) (λ _ _ _ _=>AU) (λ _ _ _ _=>(A6 (Aa (Jx T.k_END) (Aa (pv 0) Ab))))))),?_⟩;walk_at "w";refine ⟨a,rfl,⟨_,sa⟩,λ D hD=> ?_⟩;refine Cq (m:=1) (G:=λ i=>dTh (false,ns.getD i 0)) (Cj sa rfl) hD (by rw [List.length_map];omega) ?_ ?_
    · intro i H' R hi s kk;rw [Bs hi];walk_at "w";intro p hp;exact kk _ _ (Ai hp) (DT Ad (.str _) (.int _))
    · intro H' ys s hl r;refine k H' D s hD ?_;rw [List.length_map] at r;rw [List.map_map];have e:(List.range ns.length).map (λ i=>dTh (false,ns.getD i 0))=ns.map (dTh∘λ k=>((false,k):Th)):=A8 (λ k=>dTh (false,k)) ns 0;rw [e] at r;exact r
abbrev BR:Stmt:=top 25
theorem ER:FnScope ["picks"] ["picks"] (Aj BR):=⟨rfl,rfl,rfl,by decide +kernel,rfl,by decide +kernel,by decide +kernel⟩
theorem EJ {f:Addr} {fd:FuncData} (F:Fun K "pick_threads" "pick_threads" BR f fd) (T:Txt K mg c):FnOk P w K mg base CX0 1 f fd ["picks"] (Ee K true):=by
  refine F.ok ER (λ vs H Q E h=> ?_) (λ cdv A outer s H vs Q E hr h=> ?_)
  · obtain ⟨a,ns,rfl,_⟩:=h;rfl
  · obtain ⟨a,ns,rfl,sa,hn,k⟩:=h;refine ⟨_,(Ah (An (Bu (Cr (K:=K) (pv 0)) (λ _ _ _ _=>AU) (λ _ _ _ _=>(A6 (Aa (Jx T.k_PICK) (Aa (pv 0) Ab))))))),?_⟩;walk_at "w";refine ⟨a,rfl,⟨_,sa⟩,λ D hD=> ?_⟩;refine Cq (m:=1) (G:=λ i=>dTh (true,ns.getD i 0)) (Cj sa rfl) hD (by rw [List.length_map];omega) ?_ ?_
    · intro i H' R hi s kk;rw [Bs hi];walk_at "w";intro p hp;exact kk _ _ (Ai hp) (DT Ad (.str _) (.int _))
    · intro H' ys s hl r;refine k H' D s hD ?_;rw [List.length_map] at r;rw [List.map_map];have e:(List.range ns.length).map (λ i=>dTh (true,ns.getD i 0))=ns.map (dTh∘λ k=>((true,k):Th)):=A8 (λ k=>dTh (true,k)) ns 0;rw [e] at r;exact r
def Ap (n p:Nat):List Th:=(List.range n).map (λ k=>((false,k+1):Th))++(List.range p).map λ k=>((true,k+1):Th)
theorem LT (n:Nat):((List.range ((n:Int)+1 - 1).toNat).map λ k:Nat=>(1:Int)+(k:Int)).map V.int=((List.range n).map (· + 1)).map nV:=by
  rw [show ((n:Int)+1 - 1).toNat=n by omega,List.map_map,List.map_map];refine List.map_congr_left λ k _=> ?_;show V.int (1+(k:Int))=V.int ((k+1:Nat):Int);congr 1;omega
def Dr (c:Cs):Sp:=λ vs H Q _=>∃ x n rs,vs=[.ref x]/\ClAt c.Cloth H x n rs/\ClOk n rs/\∀ H' p,Same H H'->H p=none->Rp H' (FN H) 2 (.ref p) (.lst ((Ap n rs.length).map dTh))->Q (.ref p) H'
abbrev CN:Stmt:=top 26
theorem F1:FnScope ["cloth"] ["cloth"] (Aj CN):=⟨rfl,rfl,rfl,by decide +kernel,rfl,by decide +kernel,by decide +kernel⟩
theorem FU {f:Addr} {fd:FuncData} (F:Fun K "threads_of" "threads_of" CN f fd) (T:Txt K mg c) (c_end_threads:Aq P w K mg base "end_threads" 1 ["ends"] (Ee K false)) (c_pick_threads:Aq P w K mg base "pick_threads" 1 ["picks"] (Ee K true)) (d_Cloth_ends:BX P w K mg base c.Cloth "ends" 1 ["self"] (Bp c)) (d_Cloth_picks:BX P w K mg base c.Cloth "picks" 1 ["self"] (A7 c)):FnOk P w K mg base CX0 2 f fd ["cloth"] (Dr c):=by
  refine F.ok F1 (λ vs H Q E h=> ?_) (λ cdv A outer s H vs Q E hr h=> ?_)
  · obtain ⟨x,n,rs,rfl,_⟩:=h;rfl
  · obtain ⟨x,n,rs,rfl,C0,ok,k⟩:=h;have C1:=C0;obtain ⟨dx,t,h1,h2⟩:=C0;have n2:=ok.n2;have p2:=ok.p2;refine ⟨_,(Ah (An (Af (IX (K:=K)) (Ag c_end_threads hr (Aa (Fe rfl (T.own _ (by decide)) rfl (T.own _ (by decide)) (Aa Ac (Aa (Af Az (Bh (pv 0) d_Cloth_ends hr) Ac) Ab))) Ab)) (Ag c_pick_threads hr (Aa (Fe rfl (T.own _ (by decide)) rfl (T.own _ (by decide)) (Aa Ac (Aa (Af Az (Bh (pv 0) d_Cloth_picks hr) Ac) Ab))) Ab))))),?_⟩;walk_at "w";refine ⟨_,_,_,rfl,h1,rfl,?_⟩;walk_at "w";refine ⟨x,n,rs,rfl,C1,?_⟩;walk_at "w";refine ⟨_,_,rfl,⟨by decide,by decide,by omega,by omega⟩,by omega,λ l hl=> ?_⟩;rw [LT];have s1:=Ai (o:=HO.lst (((List.range n).map (· + 1)).map nV)) hl;have e1:upd H l (HO.lst (((List.range n).map (· + 1)).map nV)) l=_:=Ad;generalize upd H l (HO.lst (((List.range n).map (· + 1)).map nV))=H1 at s1 e1 ⊢;walk_at "w";refine ⟨l,_,rfl,SqL.of e1,by simp;omega,λ H2 p s2 hp r2=> ?_⟩;have s12:=s1.trans s2;walk_at "w";refine ⟨_,_,_,rfl,s12 _ _ h1,rfl,?_⟩;walk_at "w";refine ⟨x,n,rs,rfl,C1.same s12,?_⟩;walk_at "w";refine ⟨_,_,rfl,⟨by decide,by decide,by omega,by omega⟩,by omega,λ l3 hl3=> ?_⟩;rw [LT];have s3:=Ai (o:=HO.lst (((List.range rs.length).map (· + 1)).map nV)) hl3;have e3:upd H2 l3 (HO.lst (((List.range rs.length).map (· + 1)).map nV)) l3=_:=Ad;generalize upd H2 l3 (HO.lst (((List.range rs.length).map (· + 1)).map nV))=H3 at s3 e3 ⊢;walk_at "w";refine ⟨l3,_,rfl,SqL.of e3,by simp;omega,λ H4 q s4 hq r4=> ?_⟩;walk_at "w";have s34:=s3.trans s4;obtain ⟨a1,v1,ea1,g1,_,t1,_⟩:=Dm r2;cases ea1;obtain ⟨a2,v2,ea2,g2,_,t2,_⟩:=Dm r4;cases ea2;have l1:=t1.len;have l2:=t2.len;simp at l1 l2;refine GL (SqL.of (s34 _ _ g1)) (SqL.of g2) (by omega) λ z hz=> ?_;have s5:=Ai (o:=HO.lst (v1++v2)) hz;have s14:=s12.trans s34;refine k _ z (s14.trans s5) (s14.free hz) ?_;have tt:=((t1.same s34).app t2).same s5;have e:Ap n rs.length=(((List.range n).map (· + 1)).map λ k=>((false,k):Th))++(((List.range rs.length).map (· + 1)).map λ k=>((true,k):Th)):=by
      unfold Ap;rw [List.map_map,List.map_map];rfl
    rw [e];exact F3 Ad (s14.free hz) (by simp;omega) tt
open MG
def CU (c:Cs):Sp:=λ vs H Q _=>∃ x n rs,∃ k:Nat,vs=[.ref x,nV k]/\ClAt c.Cloth H x n rs/\1<=k/\k<=rs.length/\Q (nV (rs.getD (k - 1) 0)) H
abbrev BK:Stmt:=AS (top 18) 4
theorem EL:FnScope ["self","pick"] ["self","pick"] (Aj BK):=⟨rfl,rfl,rfl,by decide +kernel,rfl,by decide +kernel,by decide +kernel⟩
theorem ET {f:Addr} {fd:FuncData} (F:Fun K "row_at" "Cloth.row_at" BK f fd) (T:Txt K mg c):FnOk P w K mg base CX0 1 f fd ["self","pick"] (CU c):=by
  refine F.ok EL (λ vs H Q E h=> ?_) (λ cdv A outer s H vs Q E hr h=> ?_)
  · obtain ⟨x,n,rs,k,rfl,_⟩:=h;rfl
  · obtain ⟨x,n,rs,k,rfl,⟨dx,t,h1,h2⟩,k1,k2,q⟩:=h;refine ⟨_,(Ah (An (AE (Br (K:=K)) (Ia (K:=K) (pv 0) rfl) (Af BL (pv 1) Ac) (λ _ _=>rfl)))),?_⟩;walk_at "w";refine ⟨_,_,_,_,_,rfl,h1,T.kd_Cloth.cl,T.na_Cloth_rows,rfl,?_⟩;walk_at "w";rw [show ((k:Nat):Int) - 1=((k - 1:Nat):Int) by omega];refine AR (SqT.of h2) (Ck (by omega) (by omega)) ?_;rw [Int.toNat_natCast];exact q
def okT (n p:Nat) (t:Th):Prop:=1<=t.2/\t.2<=(if t.1=true then p else n)
theorem mem_allT {n p:Nat} {t:Th}:t∈Ap n p↔okT n p t:=by
  obtain ⟨b,k⟩:=t;unfold Ap okT;rw [List.mem_append,List.mem_map,List.mem_map];constructor
  · rintro (⟨j,hj,e⟩ | ⟨j,hj,e⟩)
    · cases e;have:=List.mem_range.mp hj;exact ⟨by omega,by simp;omega⟩
    · cases e;have:=List.mem_range.mp hj;exact ⟨by omega,by simp;omega⟩
  · rintro ⟨h1,h2⟩;cases b with
    | false=>exact .inl ⟨k - 1,List.mem_range.mpr (by simp at h2 h1;omega),by simp at h1;simp;omega⟩
    | true=>exact .inr ⟨k - 1,List.mem_range.mpr (by simp at h2 h1;omega),by simp at h1;simp;omega⟩
theorem BQ (n p:Nat):(Ap n p).length=n+p:=by unfold Ap;simp
def ovL (n:Nat) (rs:List Nat) (t:Th):List Th:=
  if t.1=true then (((List.range n).filter λ e=>(rs.getD (t.2 - 1) 0).testBit e).map (· + 1)).map λ k=>(false,k)
  else (((List.range rs.length).filter λ p=> !(rs.getD p 0).testBit (t.2 - 1)).map (· + 1)).map λ k=>(true,k)
theorem Eo {n:Nat} {rs:List Nat} {t x:Th} (h:x∈ovL n rs t):x∈Ap n rs.length:=by
  rw [mem_allT];unfold ovL at h;split at h
  · obtain ⟨k,hk,rfl⟩:=List.mem_map.mp h;obtain ⟨j,hj,rfl⟩:=List.mem_map.mp hk;have:=List.mem_range.mp (List.mem_filter.mp hj).1;exact ⟨by simp,by simp;omega⟩
  · obtain ⟨k,hk,rfl⟩:=List.mem_map.mp h;obtain ⟨j,hj,rfl⟩:=List.mem_map.mp hk;have:=List.mem_range.mp (List.mem_filter.mp hj).1;exact ⟨by simp,by simp;omega⟩
def Fy (c:Cs):Sp:=λ vs H Q _=>∃ x n rs b,∃ t:Th,vs=[.ref x, .ref b]/\ClAt c.Cloth H x n rs/\ClOk n rs/\H b=some (.tup (thV t))/\okT n rs.length t/\∀ H' p,Same H H'->H p=none->Rp H' (FN H) 2 (.ref p) (.lst ((ovL n rs t).map dTh))->Q (.ref p) H'
theorem IR {H H1:Hp} (s:Same H H1) {a:Addr} (h:FN H1 a):FN H a:=s.free h
abbrev Ef:Stmt:=top 27
theorem IJ:FnScope ["cloth","thread"] ["cloth","thread"] (Aj Ef):=⟨rfl,rfl,rfl,by decide +kernel,rfl,by decide +kernel,by decide +kernel⟩
theorem IB {f:Addr} {fd:FuncData} (F:Fun K "over_of" "over_of" Ef f fd) (T:Txt K mg c) (c_end_threads:Aq P w K mg base "end_threads" 1 ["ends"] (Ee K false)) (c_pick_threads:Aq P w K mg base "pick_threads" 1 ["picks"] (Ee K true)) (c_numbers_of:Aq P w K mg base "numbers_of" 3 ["mask"] Dx) (c_other_mask:Aq P w K mg base "other_mask" 2 ["mask","most"] Cg) (d_Cloth_row_at:BX P w K mg base c.Cloth "row_at" 1 ["self","pick"] (CU c)) (d_Cloth_column_at:BX P w K mg base c.Cloth "column_at" 3 ["self","end"] (BH c)) (d_Cloth_picks:BX P w K mg base c.Cloth "picks" 1 ["self"] (A7 c)):FnOk P w K mg base CX0 4 f fd ["cloth","thread"] (Fy c):=by
  refine F.ok IJ (λ vs H Q E h=> ?_) (λ cdv A outer s H vs Q E hr h=> ?_)
  · obtain ⟨x,n,rs,b,t,rfl,_⟩:=h;rfl
  · obtain ⟨x,n,rs,b,t,rfl,C0,ok,hb,ht,k⟩:=h;have C1:=C0;obtain ⟨dx,tt,h1,h2⟩:=C0;have n2:=ok.n2;have p2:=ok.p2;obtain ⟨bb,kk⟩:=t;refine ⟨_,(Ae (A5 (AQ By (AE (Br (K:=K)) (pv 1) Ac (λ _ _=>rfl)) (Jx T.k_PICK) (AF _)) (Ah (An (Ag c_end_threads (hr.mono (by decide)) (Aa (Ag c_numbers_of hr (Aa (HK (pv 0) d_Cloth_row_at (hr.mono (by decide)) (Aa (AE (Br (K:=K)) (pv 1) Ac (λ _ _=>rfl)) Ab)) Ab)) Ab)))) AC)
      (Ah (An (Ag c_pick_threads (hr.mono (by decide)) (Aa (Ag c_numbers_of hr (Aa (Ag c_other_mask (hr.mono (by decide)) (Aa (HK (pv 0) d_Cloth_column_at hr (Aa (AE (Br (K:=K)) (pv 1) Ac (λ _ _=>rfl)) Ab)) (Aa (Bh (pv 0) d_Cloth_picks (hr.mono (by decide))) Ab))) Ab)) Ab))))),?_⟩
    walk_at "w";refine AR (v:= .str (nm bb)) (SqT.of hb) (Ax (j:=0) rfl) ?_;walk_at "w";cases bb with
    | true=>
      refine DS (λ _=> ?_) (λ z=>absurd rfl z);walk_at "w";have hk2:kk<=rs.length:=by have:=ht.2;simpa using this
      have hk1:1<=kk:=ht.1;refine ⟨_,_,_,rfl,h1,rfl,?_⟩;walk_at "w";refine AR (v:=nV kk) (SqT.of hb) (Ax (j:=1) rfl) ?_;walk_at "w";refine ⟨x,n,rs,kk,rfl,C1,hk1,hk2,?_⟩;walk_at "w";have hlt:=ok.lt _ (L2.getD_mem (y:=0) (show kk - 1<rs.length by omega));refine ⟨_,rfl,Nat.lt_of_lt_of_le hlt (Nat.pow_le_pow_right (by decide) (by omega)),λ H1 p s1 hp e1=> ?_⟩;walk_at "w";have hnl:=MM.nOf_len hlt;refine ⟨p,_,rfl,SqL.of e1,by omega,λ H2 q s2 hq r2=> ?_⟩;refine k H2 q (s1.trans s2) (s1.free hq) ?_;have e:ovL n rs (true,kk)=(MM.nOf (rs.getD (kk - 1) 0)).map λ k=>((false,k):Th):=by
        unfold ovL;rw [if_pos rfl,MM.nOf_wide hlt]
      rw [e];exact r2.mono (λ _ _ q _=>q) λ _ h=>IR s1 h
    | false=>
      refine DS (λ z=>absurd z (by decide)) (λ _=> ?_);walk_at "w";have hk2:kk<=n:=by have:=ht.2;simpa using this
      have hk1:1<=kk:=ht.1;refine ⟨_,_,_,rfl,h1,rfl,?_⟩;walk_at "w";refine AR (v:=nV kk) (SqT.of hb) (Ax (j:=1) rfl) ?_;walk_at "w";refine ⟨x,n,rs,kk,rfl,C1,p2,hk1,by omega,λ H0 s0=> ?_⟩;walk_at "w";refine ⟨_,_,_,rfl,s0 _ _ h1,rfl,?_⟩;walk_at "w";refine ⟨x,n,rs,rfl,C1.same s0,?_⟩;walk_at "w";refine ⟨_,rs.length,rfl,by omega,?_⟩;walk_at "w";have hlt:((2 ^ rs.length - 1) ^^^ JB rs kk)<2 ^ rs.length:=MM.other_lt (MM.ofB_lt _ _);refine ⟨_,rfl,Nat.lt_of_lt_of_le hlt (Nat.pow_le_pow_right (by decide) (by omega)),λ H1 p s1 hp e1=> ?_⟩;walk_at "w";have hnl:=MM.nOf_len hlt;refine ⟨p,_,rfl,SqL.of e1,by omega,λ H2 q s2 hq r2=> ?_⟩;have s01:=s0.trans s1;refine k H2 q (s01.trans s2) (s01.free hq) ?_;have e:ovL n rs (false,kk)=(MM.nOf ((2 ^ rs.length - 1) ^^^ JB rs kk)).map λ k=>((true,k):Th):=by
        unfold ovL;rw [if_neg (by simp),MM.nOf_wide hlt];congr 2;refine List.filter_congr λ i hi=> ?_;rw [MM.other_bit (List.mem_range.mp hi)];unfold JB;rw [MM.ofB_bit];simp [List.mem_range.mp hi]
      rw [e];exact r2.mono (λ _ _ q _=>q) λ _ h=>IR s01 h
open MG
def ers (H:Hp) (d:Addr):Hp:=λ b=>if b=d then none else H b
theorem FB {H:Hp} {d b:Addr} {o:HO} (h:H b=some o) (n:b≠d):ers H d b=some o:=by unfold ers;rw [if_neg n];exact h
theorem GU {H H0:Hp} {d:Addr} (s:Same H0 H) (h:H0 d=none):Same H0 (ers H d):=λ b o e=>FB (s b o e) (λ z=>by rw [z,h] at e;cases e)
theorem ers_is {H:Hp} {d:Addr}:Same (ers H d) H:=λ b o e=>by
  unfold ers at e;split at e
  · cases e
  · exact e
theorem GK {H G:Hp} {d:Addr} {o:HO} (s:Same (ers H d) G):Same (ers H d) (upd G d o):=λ b u e=>by
  have n:b≠d:=λ z=>by rw [z] at e;unfold ers at e;rw [if_pos rfl] at e;cases e
  rw [Al n];exact s b u e
theorem La {H:Hp} {F:Addr->Prop} {n:Nat} {v:V} {d:Dt} {x:Addr} {kvs:List (List Key × V)} {o:HO} (r:Rp H F n v d) (h:H x=some (.dT kvs)):Rp (L2.upd H x o) F n v d:=by
  induction r with
  | non=>exact .non
  | bl b=>exact .bl b
  | int i=>exact .int i
  | str z=>exact .str z
  | @lst n a vs ds q f b l e ih=>
    refine .lst ?_ f b l ih;rw [Al (CT q h (by intro z;cases z))];exact q
  | @tup n a vs ds q b l e ih=>
    refine .tup ?_ b l ih;rw [Al (CT q h (by intro z;cases z))];exact q
structure OV (H:Hp) (kvs:List (List Key × V)) (U:List Th) (ad:Th->List Th):Prop where
  at_:∀ t∈U,∃ l,Bt kvs (thK t)=some (.ref l)/\Rp H FT 2 (.ref l) (.lst ((ad t).map dTh))
theorem OV.same {H H':Hp} {kvs:List (List Key × V)} {U:List Th} {ad:Th->List Th} (o:OV H kvs U ad) (s:Same H H'):OV H' kvs U ad:=⟨λ t ht=>by
  obtain ⟨l,e,r⟩:=o.at_ t ht;exact ⟨l,e,r.same s⟩⟩
theorem OV.put {H:Hp} {kvs kv0:List (List Key × V)} {U:List Th} {ad:Th->List Th} {d:Addr} {t:Th} {p:Addr} {o:HO} (ov:OV H kvs U ad) (hd:H d=some (.dT kv0)) (r:Rp H FT 2 (.ref p) (.lst ((ad t).map dTh))):OV (upd H d o) (Di kvs (thK t) (.ref p)) (U++[t]) ad:=⟨λ u hu=>by
  by_cases e:u=t
  · subst e;exact ⟨p,by rw [Hh,if_pos rfl],La r hd⟩
  · rcases List.mem_append.mp hu with z | z
    · obtain ⟨l,e1,r1⟩:=ov.at_ u z;exact ⟨l,by rw [Hh,if_neg (λ q=>e (Jg q))];exact e1,La r1 hd⟩
    · exact absurd (List.mem_singleton.mp z) e⟩
theorem EU {ts:List Th} {i:Nat} (h:i<ts.length):ts.take (i+1)=ts.take i++[ts.getD i (false,0)]:=by
  rw [List.take_add_one,List.getElem?_eq_getElem h,L2.getD_el h];rfl
def EG (c:Cs):Sp:=λ vs H Q _=>∃ x n rs,vs=[.ref x]/\ClAt c.Cloth H x n rs/\ClOk n rs/\∀ H' d kvs,Same H H'->H d=none->H' d=some (.dT kvs)->OV H' kvs (Ap n rs.length) (ovL n rs)->Q (.ref d) H'
abbrev DE:Stmt:=top 28
theorem sc_overs_of:FnScope ["cloth","overs","thread"] ["cloth"] (Aj DE):=⟨rfl,rfl,rfl,by decide +kernel,rfl,by decide +kernel,by decide +kernel⟩
theorem HR {f:Addr} {fd:FuncData} (F:Fun K "overs_of" "overs_of" DE f fd) (T:Txt K mg c) (c_threads_of:Aq P w K mg base "threads_of" 2 ["cloth"] (Dr c)) (c_over_of:Aq P w K mg base "over_of" 4 ["cloth","thread"] (Fy c)):FnOk P w K mg base CX0 5 f fd ["cloth"] (EG c):=by
  refine F.ok sc_overs_of (λ vs H Q E h=> ?_) (λ cdv A outer s H vs Q E hr h=> ?_)
  · obtain ⟨x,n,rs,rfl,_⟩:=h;rfl
  · obtain ⟨x,n,rs,rfl,C0,ok,k⟩:=h;have hu1:=hr.units1;have n2:=ok.n2;have p2:=ok.p2;refine ⟨_,(Ae (Ar (i:=1) sc_overs_of.nd rfl (Or.inl rfl) HU)
      (Ae (Bv PassesOwn.never rfl (Cr (K:=K) (Ag c_threads_of (hr.mono (by decide)) (Aa (pv 0) Ab))) (AD (i:=2) sc_overs_of.nd rfl (Or.inl rfl)) (Ah (EW hu1 (pv 1) (pv 2) (Ag c_over_of hr (Aa (pv 0) (Aa (pv 2) Ab))) rfl)))
      (Ah (An (pv 1))))),?_⟩
    walk_at "w";intro d hd;walk_at "w";have s1:=Ai (o:=HO.dT []) hd;refine ⟨x,n,rs,rfl,C0.same s1,ok,λ H2 m s2 hm r2=> ?_⟩;have hd2:=s2 _ _ (show upd H d (HO.dT []) d=_ from Ad);have s12:=s1.trans s2;have sE:=GU s12 hd;walk_at "w";obtain ⟨m',refs,em,g2,_,t2,_⟩:=Dm r2;cases em;have hmd:m≠d:=CT g2 hd2 (by intro z;cases z);refine ⟨m,rfl,⟨_,SqL.of g2⟩,Bb (H0:=ers H2 d) (CB (SqL.of (FB g2 hmd))) (λ i σ H3=>∃ y kvs,σ=[some (.ref x),some (.ref d),y]/\Same (ers H2 d) H3/\H3 d=some (.dT kvs)/\kvs.length<=i/\OV H3 kvs ((Ap n rs.length).take i) (ovL n rs)) ⟨_,[],rfl,ers_is,hd2,Nat.le_refl _,⟨λ t ht=>by cases ht⟩⟩ (λ i σ H3 ⟨_,_,_,s,_⟩=>s) ?_ ?_⟩
    · rintro i σ H' H3 hi ⟨y,kvs,rfl,s',hd',hl,ov⟩ s3;have hi':i<(Ap n rs.length).length:=by rw [<-t2.len];exact hi
      have sH:=s'.trans s3;have hd3:=s3 _ _ hd';obtain ⟨b,eb,hb⟩:=t2.at_ i hi';have hbd:b≠d:=CT hb hd2 (by intro z;cases z);have hb3:=sH _ _ (FB hb hbd);rw [eb];walk_at "w";have hok:okT n rs.length ((Ap n rs.length).getD i (false,0)):=mem_allT.mp (L2.getD_mem hi');refine ⟨x,n,rs,b,_,rfl,C0.same (sE.trans sH),ok,hb3,hok,λ H4 p s4 hp r4=> ?_⟩;have hd4:=s4 _ _ hd3;have hb4:=s4 _ _ hb3;walk_at "w";have hlen:(Ap n rs.length).length<=120:=by rw [BQ];omega
      refine ⟨d,_,rfl,DPut.t (k:=thK ((Ap n rs.length).getD i (false,0))) hd4 hb4 (Nat.lt_of_le_of_lt (show kvs.length<=1000 by omega) (by decide)),?_⟩;walk_at "w";refine ⟨_,_,rfl,GK (sH.trans s4),Ad,?_,?_⟩
      · have:=BY kvs (thK ((Ap n rs.length).getD i (false,0))) (.ref p);omega
      · rw [EU hi'];exact ((ov.same s3).same s4).put hd4 (r4.mono (λ _ _ q _=>q) λ _ _=>trivial)
    · rintro σ H3 ⟨y,kvs,rfl,s3,hd3,hl,ov⟩;have e:(Ap n rs.length).take refs.length=Ap n rs.length:=by rw [t2.len,List.take_length]
      rw [e] at ov;walk_at "w";exact k H3 d kvs (sE.trans s3) hd hd3 ov
inductive VR (R:Th->Option Th->V->Prop):Vis->List (List Key × V)->Prop where
  | nil:VR R [] []
  | cons {x:Th} {po:Option Th} {v:V} {vis:Vis} {kvs:List (List Key × V)} (h:R x po v) (t:VR R vis kvs):VR R ((x,po)::vis) ((thK x,v)::kvs)
theorem VR.snoc {R:Th->Option Th->V->Prop} {vis:Vis} {kvs:List (List Key × V)} {x:Th} {po:Option Th} {v:V} (h:VR R vis kvs) (r:R x po v):VR R (vis++[(x,po)]) (kvs++[(thK x,v)]):=by
  induction h with
  | nil=>exact .cons r .nil
  | cons h t ih=>exact .cons h ih
theorem VR.imp {R R':Th->Option Th->V->Prop} {vis:Vis} {kvs:List (List Key × V)} (h:VR R vis kvs) (i:∀ x po v,x∈vis.map (·.1)->R x po v->R' x po v):VR R' vis kvs:=by
  induction h with
  | nil=>exact .nil
  | @cons x po v vis kvs h t ih=>exact .cons (i x po v (by simp) h) (ih λ y q u hy r=>i y q u (by simp at hy ⊢;exact .inr hy) r)
theorem VR.len {R:Th->Option Th->V->Prop} {vis:Vis} {kvs:List (List Key × V)} (h:VR R vis kvs):kvs.length=vis.length:=by
  induction h with
  | nil=>rfl
  | cons h t ih=>rw [List.length_cons,List.length_cons,ih]
theorem VR.val {R:Th->Option Th->V->Prop} {vis:Vis} {kvs:List (List Key × V)} (h:VR R vis kvs) (x:Th):(Bt kvs (thK x)=none/\has vis x=false)\/∃ p q po v,vis=p++(x,po)::q/\Bt kvs (thK x)=some v/\R x po v/\has vis x=true:=by
  induction h with
  | nil=>exact .inl ⟨rfl,rfl⟩
  | @cons y po v vis kvs h t ih=>
    by_cases e:y=x
    · subst e;exact .inr ⟨[],vis,po,v,rfl,AL rfl,h,by simp [has]⟩
    · have e2:Bt ((thK y,v)::kvs) (thK x)=Bt kvs (thK x):=AM (p:=(thK y,v)) (λ z=>e (Jg z));have e3:has ((y,po)::vis) x=has vis x:=by simp [has,e]
      rw [e2,e3];rcases ih with z | ⟨p,q,po',v',a,b,c,d⟩
      · exact .inl z
      · exact .inr ⟨(y,po)::p,q,po',v',by rw [a];rfl,b,c,d⟩
def KJ (H:Hp) (_:Th) (po:Option Th) (v:V):Prop:=match po with | none=>v= .non | some p=>TR H v p
open MG
theorem EX {β:Type} (g:β->Th->β) (l:List Th) (acc:β) {j:Nat} (h:j<l.length):(l.take (j+1)).foldl g acc=g ((l.take j).foldl g acc) (l.getD j (false,0)):=by
  rw [EU h,List.foldl_append];rfl
def Co:Sp:=λ vs H Q _=>∃ (o b:Addr) (kvo:List (List Key × V)) (U:List Th) (ad:Th->List Th) (one:Th),vs=[.ref o, .ref b]/\H o=some (.dT kvo)/\H b=some (.tup (thV one))/\OV H kvo U ad/\one∈U/\(∀ t∈U,∀ x∈ad t,x∈U)/\U.length<=1000/\
  ∀ H' d kvs vis,Same H H'->H d=none->H' d=some (.dT kvs)->VR (KJ H) vis kvs->End ad one vis->Lv U (vis,[])->Q (.ref d) H'
abbrev Bx:Stmt:=top 29
theorem sc_threads_ahead:FnScope ["overs","one","ahead","met","later","thread","upper"] ["overs","one"] (Aj Bx):=⟨rfl,rfl,rfl,by decide +kernel,rfl,by decide +kernel,by decide +kernel⟩
theorem Em {f:Addr} {fd:FuncData} (F:Fun K "threads_ahead" "threads_ahead" Bx f fd) (T:Txt K mg c):FnOk P w K mg base CX0 1 f fd ["overs","one"] Co:=by
  refine F.ok sc_threads_ahead (λ vs H Q E h=> ?_) (λ cdv A outer s H vs Q E hr h=> ?_)
  · obtain ⟨o,b,kvo,U,ad,one,rfl,_⟩:=h;rfl
  · obtain ⟨o,b,kvo,U,ad,one,rfl,ho,hb,ov,h1,cl,hU,k⟩:=h;have hu1:=hr.units1;refine ⟨_,(Ae (Ar (i:=2) sc_threads_ahead.nd rfl (Or.inl rfl) (Ib hu1 (pv 1) Os))
      (Ae (Ar (i:=3) sc_threads_ahead.nd rfl (Or.inl rfl) (AN (Aa (pv 1) Ab)))
      (Ae (Hr PassesOwn.never (AQ O5 (Am (BZ (K:=K)) rfl (T.own _ (by decide)) boot_len (Aa (pv 3) Ab)) Ac (AF _)) (Ae (Ar (i:=4) sc_threads_ahead.nd rfl (Or.inl rfl) (AN Ab))
      (Ae (Bv PassesOwn.never rfl (Cr (K:=K) (pv 3)) (AD (i:=5) sc_threads_ahead.nd rfl (Or.inl rfl)) (Ah (Bv PassesOwn.never rfl (Cr (K:=K) (GM hu1 (pv 0) (pv 5) (λ _ _=>rfl))) (AD (i:=6) sc_threads_ahead.nd rfl (Or.inl rfl)) (Ah (A5 (Ie (Gu hu1 (pv 6) (pv 2))) (Ae (EW hu1 (pv 2) (pv 6) (pv 5) rfl)
      (Ah (B3 (Ht (K:=K) PySem.F.plainAttrs_list PySem.F.slot_list_append PySem.F.type_list_append Bl (pv 4) (Aa (pv 6) Ab))))) AC)))))
      (Ah (Ar (i:=3) sc_threads_ahead.nd rfl (Or.inl rfl) (pv 4))))))
      (Ah (An (pv 2)))))),?_⟩
    walk_at "w";intro d hd;walk_at "w";have hbd:b≠d:=Ao hb hd;refine ⟨_,_,rfl,b,thK one,rfl,(Al hbd).trans hb,Ad,?_⟩;rw [Mh];have s1:=Ai (o:=HO.dT [(thK one,V.non)]) hd;have e1:upd H d (HO.dT [(thK one,V.non)]) d=_:=Ad;generalize upd H d (HO.dT [(thK one,V.non)])=H1 at s1 e1 ⊢;walk_at "w";intro m hm;walk_at "w";have s2:=Ai (o:=HO.lst [V.ref b]) hm;have e2:upd H1 m (HO.lst [V.ref b]) m=_:=Ad;replace e1:=s2 _ _ e1;generalize upd H1 m (HO.lst [V.ref b])=H2 at s2 e1 e2 ⊢;have LA:=Lv.all cl h1;refine ⟨λ w σ H'=>∃ (kk:Nat) (kvs:List (List Key × V)) (mt:Addr) (refs:List V) (x y z:Option V),σ=[some (.ref o),some (.ref b),some (.ref d),some (.ref mt),x,y,z]/\Same H H'/\H' d=some (.dT kvs)/\VR (KJ H) (lv ad one kk).1 kvs/\H' mt=some (.lst refs)/\TL H refs (lv ad one kk).2/\w=(U.length - (lv ad one kk).1.length)+(if (lv ad one kk).2=[] then 0 else 1),⟨_,0,_,m,_,_,_,_,rfl,s1.trans s2,e1, .cons rfl .nil,e2,TL.one ⟨b,rfl,hb⟩,rfl⟩,?_⟩;rintro w0 σ H' ⟨kk,kvs,mt,refs,x,y,z,rfl,sH,hd',vr,hmt,tl,rfl⟩;have sE:=GU sH hd;have hmtd:mt≠d:=CT hmt hd' (by intro z;cases z);walk_at "w";refine AT (SqL.of hmt) ?_;walk_at "w";refine DS (λ hne=> ?_) (λ hne=> ?_)
    · have hne2:(lv ad one kk).2≠[]:=λ z=>by
        have:=tl.len;rw [z] at this;simp at this;rw [this] at hne;simp at hne
      refine ⟨λ σ' H''=>∃ (kvs2:List (List Key × V)) (q:Addr) (refs2:List V) (x y:Option V),σ'=[some (.ref o),some (.ref b),some (.ref d),some (.ref q),some (.ref q),x,y]/\Same H H''/\H'' d=some (.dT kvs2)/\VR (KJ H) (lv ad one (kk+1)).1 kvs2/\H'' q=some (.lst refs2)/\TL H refs2 (lv ad one (kk+1)).2,?_,?_⟩
      · rintro σ' H'' ⟨kvs2,q,refs2,x,y,rfl,s3,hd3,vr3,hq3,tl3⟩;refine ⟨_,?_,kk+1,kvs2,q,refs2,_,_,_,rfl,s3,hd3,vr3,hq3,tl3,rfl⟩;have hl:=(Lv.next cl (LA kk)).2;have hl2:=(LA (kk+1)).len;rw [if_neg hne2];have hlv:(lv ad one (kk+1)).1.length=(lv ad one kk).1.length+(lv ad one (kk+1)).2.length:=hl;by_cases q0:(lv ad one (kk+1)).2=[]
        · rw [if_pos q0];rw [q0] at hlv;simp at hlv;omega
        · rw [if_neg q0];have:1<=(lv ad one (kk+1)).2.length:=List.length_pos_iff.mpr q0;omega
      · walk_at "w";intro q hq;walk_at "w";have hqd:d≠q:=Ao hd' hq;have hqE:ers H' d q=none:=by unfold ers;rw [if_neg hqd.symm];exact hq
        have sq:=Ai (o:=HO.lst []) hq;refine ⟨mt,rfl,⟨_,SqL.of (sq _ _ hmt)⟩,Bb (H0:=ers H' d) (CB (SqL.of (FB hmt hmtd))) (λ i σ H3=>∃ (kv3:List (List Key × V)) (lr:List V) (y z:Option V),σ=[some (.ref o),some (.ref b),some (.ref d),some (.ref mt),some (.ref q),y,z]/\Same (ers H' d) H3/\H3 d=some (.dT kv3)/\VR (KJ H) (((lv ad one kk).2.take i).foldl (goT ad) ((lv ad one kk).1,[])).1 kv3/\H3 q=some (.lst lr)/\TL H lr (((lv ad one kk).2.take i).foldl (goT ad) ((lv ad one kk).1,[])).2) ⟨kvs,[],_,_,rfl,ers_is.trans sq,sq _ _ hd',vr,Ad,TL.nil⟩ (λ i σ H3 ⟨_,_,_,_,_,s,_⟩=>s) ?_ ?_⟩
        · rintro i σ G H3 hi ⟨kv3,lr,y,z,rfl,s',hd3,vr3,hq3,tl3⟩ s3;have hi':i<(lv ad one kk).2.length:=by rw [<-tl.len];exact hi
          replace hd3:=s3 _ _ hd3;replace hq3:=s3 _ _ hq3;have sG:=s'.trans s3;obtain ⟨bu,ebu,hbu⟩:=tl.at_ i hi';have hbu3:=sG _ _ (sE _ _ hbu);have huU:(lv ad one kk).2.getD i (false,0)∈U:=(LA kk).sub2 _ (L2.getD_mem hi');have g0:Good U (lv ad one kk).1.length ((lv ad one kk).1,([]:List Th)):=⟨(LA kk).nd,(LA kk).sub,λ x hx=>(by cases hx),rfl,(LA kk).pre⟩;have g3:=Good.lev cl ((lv ad one kk).2.take i) g0 λ u hu=>(LA kk).inn u (List.mem_of_mem_take hu);have hin:(lv ad one kk).2.getD i (false,0)∈(((lv ad one kk).2.take i).foldl (goT ad) ((lv ad one kk).1,[])).1.map (·.1):=GV _ _ _ ((LA kk).inn _ (L2.getD_mem hi'));rw [ebu,EX _ _ _ hi'];generalize (lv ad one kk).2.getD i (false,0)=u at hbu hbu3 huU hin ⊢;generalize ((lv ad one kk).2.take i).foldl (goT ad) ((lv ad one kk).1,[])=acc at vr3 tl3 g3 hin ⊢;obtain ⟨l,el,rl⟩:=ov.at_ u huU;obtain ⟨l',vl,e',hl,_,tlu,_⟩:=Dm rl;cases e';walk_at "w";refine ⟨o, .ref l,rfl,el▸DGet.t (k:=thK u) (sG _ _ (sE _ _ ho)) hbu3,?_⟩;walk_at "w";refine ⟨l,rfl,⟨_,SqL.of (sG _ _ (sE _ _ hl))⟩,Bb (H0:=ers H' d) (CB (SqL.of (sE _ _ hl))) (λ j σ H4=>∃ (kv4:List (List Key × V)) (lr4:List V) (z:Option V),σ=[some (.ref o),some (.ref b),some (.ref d),some (.ref mt),some (.ref q),some (.ref bu),z]/\Same (ers H' d) H4/\H4 d=some (.dT kv4)/\VR (KJ H) (((ad u).take j).foldl (AA u) acc).1 kv4/\H4 q=some (.lst lr4)/\TL H lr4 (((ad u).take j).foldl (AA u) acc).2) ⟨kv3,lr,_,rfl,sG,hd3,vr3,hq3,tl3⟩ (λ j σ H4 ⟨_,_,_,_,s,_⟩=>s) ?_ ?_⟩
          · rintro j σ G4 H4 hj ⟨kv4,lr4,z,rfl,s4',hd4,vr4,hq4,tl4⟩ s4;have hj':j<(ad u).length:=by rw [<-tlu.len];exact hj
            replace hd4:=s4 _ _ hd4;replace hq4:=s4 _ _ hq4;have sG4:=s4'.trans s4;obtain ⟨bx,ebx,hbx⟩:=tlu.at_ j hj';have hbx4:=sG4 _ _ (sE _ _ hbx);rw [ebx,EX _ _ _ hj'];generalize (ad u).getD j (false,0)=xx at hbx hbx4 ⊢;have g4:=(Good.go (u:=u) ((ad u).take j) g3 (λ x hx=>cl u huU x (List.mem_of_mem_take hx)) hin).1.bound;generalize ((ad u).take j).foldl (AA u) acc=ac at vr4 tl4 g4 ⊢;walk_at "w";refine ⟨d,_,rfl,DGet.t (k:=thK xx) hd4 hbx4,?_⟩;rcases vr4.val xx with ⟨v1,v2⟩ | ⟨_,_,_,vv,_,v1,_,v2⟩
            · rw [v1];have es:AA u ac xx=(ac.1++[(xx,some u)],ac.2++[xx]):=by unfold AA;rw [v2,if_neg (by decide)]
              rw [es];refine ⟨true,rfl,?_⟩;walk_at "w";have hlen:kv4.length<sizeLine:=by
                rw [vr4.len];exact Nat.lt_of_le_of_lt (show _<=1000 by omega) (by decide)
              refine ⟨d,_,rfl,DPut.t (k:=thK xx) hd4 hbx4 hlen,?_⟩;rw [HY _ v1];walk_at "w";have hq5:upd H4 d (HO.dT (kv4++[(thK xx,V.ref bu)])) q=_:=(Al hqd.symm).trans hq4;have hd5:upd H4 d (HO.dT (kv4++[(thK xx,V.ref bu)])) d=_:=Ad;have s5:=GK (o:=HO.dT (kv4++[(thK xx,V.ref bu)])) sG4;generalize upd H4 d (HO.dT (kv4++[(thK xx,V.ref bu)]))=H5 at hq5 hd5 s5 ⊢;refine tyL (SqL.of hq5) ?_;walk_at "w";refine Ei hq5 ?_ ?_
              · rw [tl4.len];omega
              walk_at "w";exact ⟨_,_,_,rfl,Bd s5 hqE,(Al hqd).trans hd5,vr4.snoc ⟨bu,rfl,hbu⟩,Ad,tl4.app (TL.one ⟨bx,rfl,hbx⟩)⟩
            · rw [v1];have es:AA u ac xx=ac:=by unfold AA;rw [v2,if_pos rfl]
              rw [es];refine ⟨false,rfl,?_⟩;walk_at "w";exact ⟨kv4,lr4,_,rfl,sG4,hd4,vr4,hq4,tl4⟩
          · rintro σ H4 ⟨kv4,lr4,z,rfl,s4,hd4,vr4,hq4,tl4⟩;rw [tlu.len,List.take_length] at vr4 tl4;walk_at "w";exact ⟨kv4,lr4,_,_,rfl,s4,hd4,vr4,hq4,tl4⟩
        · rintro σ H3 ⟨kv3,lr,y,z,rfl,s3,hd3,vr3,hq3,tl3⟩;rw [tl.len,List.take_length] at vr3 tl3;walk_at "w";exact ⟨kv3,q,lr,_,_,rfl,sE.trans s3,hd3,vr3,hq3,tl3⟩
    · have hnil:(lv ad one kk).2=[]:=by
        have:=tl.len;cases h0:(lv ad one kk).2 with
        | nil=>rfl
        | cons a as=>
          rw [h0] at this;exact absurd (show (0:Int)<(refs.length:Nat) by rw [this];simp) hne
      have hend:lv ad one kk=((lv ad one kk).1,[]):=Prod.ext rfl hnil;walk_at "w";exact k H' d kvs _ sH hd hd' vr ⟨kk,hend⟩ (hend▸LA kk)
open MG
theorem Lc {K:PySem.W.Frag} (d:Dt):PySem.W.kitAny K (.type (tyD d)) (["tuple","list"].map Value.type)=some (BW d||BA d):=by
  show (match PySem.W.kitOne K (.type (tyD d)) (.type "tuple") with
    | some true=>some true
    | some false=>(match PySem.W.kitOne K (.type (tyD d)) (.type "list") with
      | some true=>some true
      | some false=>some false
      | none=>none)
    | none=>none)=_
  rw [Ea,KO];cases d <;> rfl
def AZ:Nat->Sp
  | 0=>λ _ _ _ _=>False
  | n+1=>λ vs H Q _=>∃ v u d,vs=[v,u]/\Rp H FT n v d/\Rp H FT n u d/\∀ H',Same H H'->Q (.bl true) H'
abbrev BE:Stmt:=top 35
theorem FP:FnScope ["_law_found","_law_due"] ["_law_found","_law_due"] (Aj BE):=⟨rfl,rfl,rfl,by decide +kernel,rfl,by decide +kernel,by decide +kernel⟩
theorem Fl {n:Nat} {f:Addr} {fd:FuncData} (F:Fun K "_law_alike" "_law_alike" BE f fd) (T:Txt K mg c) (c__law_alike:Aq P w K mg base "_law_alike" (n+1) ["_law_found","_law_due"] (AZ n)):FnOk P w K mg base CX0 (n+2) f fd ["_law_found","_law_due"] (AZ (n+1)):=by
  refine F.ok FP (λ vs H Q E h=> ?_) (λ cdv A outer s H vs Q E hr h=> ?_)
  · obtain ⟨v,u,d,rfl,_⟩:=h;rfl
  · obtain ⟨v,u,d,rfl,rv,ru,k⟩:=h;refine ⟨_,(Ae (A5 (A0 (Am (G1 (K:=K)) rfl (T.own _ (by decide)) boot_isinstance (Aa (pv 1) (Aa (A6 (Aa (B6 rfl (T.own _ (by decide)) B4) (Aa (B6 rfl (T.own _ (by decide)) AJ) Ab))) Ab)))) (Ae (A5 (PW.pt (Hc (AQ LD (Am (CW (K:=K)) rfl (T.own _ (by decide)) boot_isinstance (Aa (pv 0) (Aa (B6 rfl (T.own _ (by decide)) AJ) Ab))) (Am (CW (K:=K)) rfl (T.own _ (by decide)) boot_isinstance (Aa (pv 1) (Aa (B6 rfl (T.own _ (by decide)) AJ) Ab))) (AF _)) (Fb (CM (A0 (Am (G1 (K:=K)) rfl (T.own _ (by decide)) boot_isinstance (Aa (pv 0) (Aa (A6 (Aa (B6 rfl (T.own _ (by decide)) B4) (Aa (B6 rfl (T.own _ (by decide)) AJ) Ab))) Ab)))))))) (Ah (An Gc)) AC)
      (Ah (An (El (Bo By (Am (BZ (K:=K)) rfl (T.own _ (by decide)) boot_len (Aa (pv 0) Ab)) (Am (BZ (K:=K)) rfl (T.own _ (by decide)) boot_len (Aa (pv 1) Ab)) (AF _)) (Et (Am (Nn (K:=K)) rfl (T.own _ (by decide)) Gq (Aa (HV (K:=K) (PN (K:=K) rfl (T.own _ (by decide)) (Aa (pv 0) (Aa (pv 1) Ab))) (λ _ _ _ _=>AU) (λ _ _ _ _=>(Ag c__law_alike hr (Aa (pv 0) (Aa (pv 1) Ab))))) Ab))))))) AC)
      (Ah (An (El (Bo By (Am (CW (K:=K)) rfl (T.own _ (by decide)) boot_isinstance (Aa (pv 0) (Aa (B6 rfl (T.own _ (by decide)) boot_bool) Ab))) (Am (CW (K:=K)) rfl (T.own _ (by decide)) boot_isinstance (Aa (pv 1) (Aa (B6 rfl (T.own _ (by decide)) boot_bool) Ab))) (AF _)) (Et (Bo By (pv 0) (pv 1) (AF _))))))),?_⟩
    walk_at "w";intro p hp;walk_at "w";have sp:=Ai (o:=HO.tup [V.ty "tuple",V.ty "list"]) hp;refine FD (ns:=["tuple","list"]) Ad (ru.same sp).ty (Lc d) ?_;have rv:=rv.same sp;have ru:=ru.same sp;generalize upd H p (HO.tup [V.ty "tuple",V.ty "list"])=H1 at rv ru sp ⊢;walk_at "w";refine Rk (λ hc=> ?_) (λ hc=> ?_)
    · walk_at "w";refine BD rv.ty (Ea d) ?_;walk_at "w";refine BD ru.ty (Ea d) ?_;walk_at "w";refine NG (λ q=>absurd rfl q) (λ _=> ?_);walk_at "w";intro p2 hp2;walk_at "w";have sp2:=Ai (o:=HO.tup [V.ty "tuple",V.ty "list"]) hp2;refine FD (ns:=["tuple","list"]) Ad (rv.same sp2).ty (Lc d) ?_;have rv:=rv.same sp2;have ru:=ru.same sp2;have sp:=sp.trans sp2;generalize upd H1 p2 (HO.tup [V.ty "tuple",V.ty "list"])=H1 at rv ru sp ⊢;rw [hc];walk_at "w";obtain ⟨m,a,xs,hm,rfl,sa,la,ba,ea⟩:=rv.seq (K:=K) hc;obtain ⟨m',b,zs,hm',rfl,sb,lb,bb,eb⟩:=ru.seq (K:=K) hc;subst hm;cases hm';refine Jq sa ?_;walk_at "w";refine Jq sb ?_;walk_at "w";refine DS (λ _=> ?_) (λ q=>absurd (by rw [la,lb]) q);walk_at "w";refine ⟨BA d,BA d,a,b,rfl,⟨_,sa⟩,⟨_,sb⟩,λ D hD=> ?_⟩;refine L3 (xs:=xs) (zs:=zs) (by omega) (λ i ys H'=>ys=(List.replicate i true).map V.bl/\Same H1 H'/\H' D=some (.lst ys)) ⟨rfl,Bd (Same.refl _) hD,Ad⟩ (λ i ys H' _ ⟨_,s,_⟩=>⟨sa.same s,sb.same s⟩) ?_ ?_
      · rintro i x z ys H' q hx hz ⟨rfl,s1,hl⟩ hq;refine ⟨((Kp.refl _).set rfl).set rfl,NK ?_⟩;walk_at "w";have hi:i<(CK d).length:=by
          have:=(List.getElem?_eq_some_iff.mp hx).1;omega
        have hd:(CK d)[i]?=some (CK d)[i]:=List.getElem?_eq_getElem hi;have s2:Same H1 (upd H' q (HO.tup [x,z])):=s1.trans (Ai hq);refine ⟨x,z,(CK d)[i],rfl,(ea i x _ hx hd).same s2,(eb i z _ hz hd).same s2,λ H'' s3=> ?_⟩;have hl':H'' D=some (.lst ((List.replicate i true).map V.bl)):=s3 _ _ (Ai hq _ _ hl);refine ⟨hl',?_,?_,?_,Ad⟩
        · rw [List.length_map,List.length_replicate];exact Nat.lt_of_lt_of_le hi (Nat.le_trans (by omega) (show 100000<=sizeLine by decide))
        · rw [List.replicate_succ',List.map_append];rfl
        · exact Bd (s2.trans s3) hD
      · rintro ys H' ⟨rfl,s1,hl⟩;walk_at "w";refine LH (SqL.of hl) ?_;have e:(List.replicate xs.length true).all id=true:=by simp
        rw [e];exact k H' (sp.trans s1)
    · walk_at "w";refine BD rv.ty (IT d) ?_;walk_at "w";refine BD ru.ty (IT d) ?_;walk_at "w";refine DS (λ _=> ?_) (λ q=>absurd rfl q);walk_at "w";have e:=ML rv ru hc;subst e;refine ⟨Kb rv hc,?_⟩;rw [decide_eq_true rfl];exact k H1 sp
theorem Cc {f:Addr} {fd:FuncData} (D:DefAt K mg "_law_alike" BE ["_law_found","_law_due"] f fd) (T:Txt K mg c):∀ n,FnOk P w K mg base CX0 (n+1) f fd ["_law_found","_law_due"] (AZ n)
  | 0=>⟨λ _ _ _ _ h=>h.elim,λ _ _ _ _ _ _ _ _ _ _ _ _ _ h=>h.elim⟩
  | n+1=>Fl D.fn T (D.call (Cc D T n))
theorem Pb:(10:Int) ^ (30:Int).toNat=1000000000000000000000000000000:=by decide +kernel
def DM (x k:Int):Nat:=((x%1000000000000000000000000000000+7919*k+13)*(x%1000000000000000000000000000000+7919*k+13)%1000000007*48271%998244353 / 11).toNat
theorem MV (x k:Int):(x%1000000000000000000000000000000+7919*k+13)*(x%1000000000000000000000000000000+7919*k+13)%1000000007*48271%998244353 / 11=(DM x k:Nat):=by
  unfold DM;generalize (x%1000000000000000000000000000000+7919*k+13)*(x%1000000000000000000000000000000+7919*k+13)%1000000007*48271=Z;have c1:=Int.emod_nonneg Z (show (998244353:Int)≠0 by decide);omega
theorem Jm (x k:Int):DM x k<=90749486:=by
  unfold DM;generalize (x%1000000000000000000000000000000+7919*k+13)*(x%1000000000000000000000000000000+7919*k+13)%1000000007*48271=Z;have c1:=Int.emod_nonneg Z (show (998244353:Int)≠0 by decide);have c2:=Int.emod_lt_of_pos Z (show (0:Int)<998244353 by decide);omega
def AY:Sp:=λ vs H Q _=>∃ x k:Int,vs=[.int x, .int k]/\(0<=k/\k<=100000)/\Q (nV (DM x k)) H
abbrev Cu:Stmt:=top 33
theorem sc__law_mixed:FnScope ["_law_cell","_law_k","_law_number"] ["_law_cell","_law_k"] (Aj Cu):=⟨rfl,rfl,rfl,by decide +kernel,rfl,by decide +kernel,by decide +kernel⟩
theorem F2 {f:Addr} {fd:FuncData} (F:Fun K "_law_mixed" "_law_mixed" Cu f fd) (T:Txt K mg c):FnOk P w K mg base CX0 1 f fd ["_law_cell","_law_k"] AY:=by
  refine F.ok sc__law_mixed (λ vs H Q E h=> ?_) (λ cdv A outer s H vs Q E hr h=> ?_)
  · obtain ⟨x,k,rfl,_⟩:=h;rfl
  · obtain ⟨x,k,rfl,hk,q⟩:=h;refine ⟨_,(Ae (Ar (i:=2) sc__law_mixed.nd rfl (Or.inl rfl) (Af Az (Af Az (Af Av (pv 0) (Af GX Ac Ac)) (Af Ci Ac (pv 1))) Ac))
      (Ah (An (Af Au (Af Av (Af Ci (Af Av (Af MB (pv 2) (pv 2)) Ac) Ac) Ac) Ac)))),?_⟩
    walk_at "w";refine Ak ⟨by decide,by decide,by decide⟩ ?_;rw [Pb];walk_at "w";refine Ak (by decide) ?_;have b1:=Int.emod_nonneg x (show (1000000000000000000000000000000:Int)≠0 by decide);have b2:=Int.emod_lt_of_pos x (show (0:Int)<1000000000000000000000000000000 by decide);walk_at "w";refine Ak (.inl ⟨by decide,by decide⟩) ?_;walk_at "w";obtain ⟨N,eN,hN⟩:∃ N:Nat,x%1000000000000000000000000000000+7919*k+13=(N:Nat)/\N<2 ^ 900:=by
      refine ⟨(x%1000000000000000000000000000000+7919*k+13).toNat,by omega,?_⟩;refine Nat.lt_of_lt_of_le (show _<2000000000000000000000000000000 by omega) (by decide +kernel)
    refine Ak ⟨N,N,eN,eN,hN,hN⟩ ?_;walk_at "w";refine Ak (by decide) ?_;walk_at "w";refine Ak (.inr ⟨by decide,by decide⟩) ?_;walk_at "w";refine Ak (by decide) ?_;walk_at "w";refine Ak ⟨by decide,by decide⟩ ?_;rw [MV];exact q
def Cp (ns:List Int) (k:Nat):Int:=if ns=[] then (k:Int) else ns.getD (((k:Int)%(ns.length:Nat))).toNat 0
def AK (K:PySem.W.Frag):Sp:=λ vs H Q _=>∃ (a:Addr) (ns:List Int) (k:Nat),vs=[.ref a,nV k]/\SqL K H a (ns.map V.int)/\ns.length<=63/\∀ H',Same H H'->Q (.int (Cp ns k)) H'
abbrev BI:Stmt:=top 34
theorem EO:FnScope ["_law_script","_law_k"] ["_law_script","_law_k"] (Aj BI):=⟨rfl,rfl,rfl,by decide +kernel,rfl,by decide +kernel,by decide +kernel⟩
theorem EH {f:Addr} {fd:FuncData} (F:Fun K "_law_cell_at" "_law_cell_at" BI f fd) (T:Txt K mg c):FnOk P w K mg base CX0 1 f fd ["_law_script","_law_k"] (AK K):=by
  refine F.ok EO (λ vs H Q E h=> ?_) (λ cdv A outer s H vs Q E hr h=> ?_)
  · obtain ⟨a,ns,k,rfl,_⟩:=h;rfl
  · obtain ⟨a,ns,k,rfl,sa,hn,q⟩:=h;have hu:=hr.units0;refine ⟨_,(Ah (An (KR (AQ (Pi hu (K:=K)) (pv 0) (AN Ab) (AF _)) (AE (BC (K:=K)) (pv 0) (Af Av (pv 1) (Am (BZ (K:=K)) rfl (T.own _ (by decide)) boot_len (Aa (pv 0) Ab))) (λ _ _=>rfl)) (pv 1)))),?_⟩;walk_at "w";intro p hp;walk_at "w";have s1:=Ai (o:=HO.lst []) hp;refine MW (bs:=[]) (s1.seq sa) (SqL.of Ad) ?_;generalize upd H p (HO.lst [])=H1 at s1 ⊢;walk_at "w";refine NG (λ h0=> ?_) (λ h0=> ?_)
    · walk_at "w";refine AT (s1.seq sa) ?_;walk_at "w";have hl:0<ns.length:=by
        cases ns with
        | nil=>simp at h0
        | cons _ _=>simp
      rw [List.length_map];refine Ak (by show (0:Int)<_;omega) ?_;have h0:=Int.emod_nonneg (k:Int) (show ((ns.length:Nat):Int)≠0 by omega);have h1:=Int.emod_lt_of_pos (k:Int) (show (0:Int)<(ns.length:Nat) by omega);refine AX (s1.seq sa) (Dc h0 h1) ?_;have e:Cp ns k=ns.getD (((k:Int)%(ns.length:Nat))).toNat 0:=by unfold Cp;rw [if_neg (λ z=>by rw [z] at hl;cases hl)]
      rw [e] at q;exact q H1 s1
    · walk_at "w";have e:Cp ns k=(k:Int):=by unfold Cp;rw [if_pos h0]
      rw [e] at q;exact q H1 s1
theorem Cv (s:Nat):(1:Int)*2 ^ ((s:Nat):Int).toNat=((2 ^ s:Nat):Int):=by
  rw [Int.one_mul,Int.toNat_natCast];simp
theorem Fv (x:Int) (s:Nat):x%((2 ^ s:Nat):Int)=(((x%(2 ^ s:Nat)).toNat:Nat):Int):=by
  have:=Int.emod_nonneg x (show ((2 ^ s:Nat):Int)≠0 by have:=Nat.two_pow_pos s;omega);omega
theorem Hg (x:Int) (s:Nat):(x%(2 ^ s:Nat)).toNat<2 ^ s:=by
  have h0:=Nat.two_pow_pos s;have:=Int.emod_lt_of_pos x (show (0:Int)<((2 ^ s:Nat):Int) by omega);have:=Int.emod_nonneg x (show ((2 ^ s:Nat):Int)≠0 by omega);omega
theorem B0 (s:Nat):(0:Int)<((2 ^ s:Nat):Int):=by have:=Nat.two_pow_pos s;omega
theorem Ja (m s:Nat):((m:Nat):Int)*2 ^ ((s:Nat):Int).toNat=((m*2 ^ s:Nat):Int):=by
  rw [Int.toNat_natCast];push_cast;rfl
theorem GT (m s:Nat):((m:Nat):Int) / 2 ^ ((s:Nat):Int).toNat=((m >>> s:Nat):Int):=by
  rw [Int.toNat_natCast,Nat.shiftRight_eq_div_pow];push_cast;rfl
theorem Jh {n w:Nat} (h:n<2 ^ w) (hw:w<=60):((n:Nat):Int).natAbs<2 ^ 64:=by
  have:2 ^ w<=2 ^ 60:=Nat.pow_le_pow_right (by decide) hw;rw [Int.natAbs_natCast];omega
def C6:Sp:=λ vs H Q _=>∃ m s z:Nat,vs=[nV m,nV s,nV z]/\m<2 ^ z/\s<=z/\z<=60/\∀ r:Nat,r<2 ^ z->r=(m*2 ^ s ||| m >>> (z - s))%2 ^ z->Q (nV r) H
abbrev Cf:Stmt:=top 37
theorem E9:FnScope ["_law_mask","_law_steps_here","_law_size"] ["_law_mask","_law_steps_here","_law_size"] (Aj Cf):=⟨rfl,rfl,rfl,by decide +kernel,rfl,by decide +kernel,by decide +kernel⟩
theorem Fp {f:Addr} {fd:FuncData} (F:Fun K "_law_turned" "_law_turned" Cf f fd) (T:Txt K mg c):FnOk P w K mg base CX0 1 f fd ["_law_mask","_law_steps_here","_law_size"] C6:=by
  refine F.ok E9 (λ vs H Q E h=> ?_) (λ cdv A outer s H vs Q E hr h=> ?_)
  · obtain ⟨m,s,z,rfl,_⟩:=h;rfl
  · obtain ⟨m,s,z,rfl,hm,hs,hz,q⟩:=h;refine ⟨_,(Ah (An (Af Av (Af Nb (Af A9 (pv 0) (pv 1)) (Af Ij (pv 0) (Af BL (pv 2) (pv 1)))) (Af A9 Ac (pv 2))))),?_⟩;walk_at "w";refine Ak ⟨by omega,by omega,Jh hm hz⟩ ?_;walk_at "w";rw [show ((z:Nat):Int) - ((s:Nat):Int)=((z - s:Nat):Int) by omega];refine Ak (by show (0:Int)<=_;omega) ?_;rw [Ja,GT];walk_at "w";rw [bO];refine Ak ⟨by omega,by omega,by decide⟩ ?_;rw [Cv];walk_at "w";refine Ak (B0 z) ?_;rw [show (((m*2 ^ s ||| m >>> (z - s):Nat):Int))%((2 ^ z:Nat):Int)=(((m*2 ^ s ||| m >>> (z - s))%2 ^ z:Nat):Int) by push_cast;rfl];exact q _ (Nat.mod_lt _ (Nat.two_pow_pos z)) rfl
theorem JA (n A most:Nat) (hA:1<=A) (h:A<=most):∃ W:Nat,1+((n:Nat):Int)%(if ((most:Nat):Int) / (A:Nat)>1 then ((most:Nat):Int) / (A:Nat) else 1)=(W:Nat)/\1<=W/\A*W<=most:=by
  have e:((most:Nat):Int) / (A:Nat)=((most / A:Nat):Int):=by push_cast;rfl
  rw [e];have h1:1<=most / A:=(Nat.le_div_iff_mul_le hA).mpr (by omega);have e2:(if ((most / A:Nat):Int)>1 then ((most / A:Nat):Int) else 1)=((most / A:Nat):Int):=by split <;> omega
  rw [e2];refine ⟨1+n%(most / A),by push_cast;rfl,by omega,?_⟩;have h2:=Nat.mod_lt n h1;have h3:A*(1+n%(most / A))<=A*(most / A):=Nat.mul_le_mul_left A (by omega);exact Nat.le_trans h3 (Nat.mul_div_le most A)
theorem IZ (x:Int):(0:Int)<(if x>1 then x else 1):=by split <;> omega
theorem Jd {m A:Nat} (h:m<2 ^ A):∀ W:Nat,((List.range W).map λ k=>m*2 ^ (A*k)).sum<2 ^ (A*W)
  | 0=>by simp
  | W+1=>by
    have ih:=Jd h W;rw [List.range_succ,List.map_append,List.sum_append];simp only [List.map_cons,List.map_nil,List.sum_cons,List.sum_nil,Nat.add_zero];have e:2 ^ (A*(W+1))=2 ^ A*2 ^ (A*W):=by rw [Nat.mul_succ,Nat.pow_add,Nat.mul_comm]
    rw [e];have h2:(m+1)*2 ^ (A*W)<=2 ^ A*2 ^ (A*W):=Nat.mul_le_mul_right _ h;rw [Nat.add_mul,Nat.one_mul] at h2;omega
theorem F5 (n:Nat) (G:Nat->Nat):((List.range n).map λ i=>((G i:Nat):Int)).map V.int=((List.range n).map G).map nV:=by
  rw [List.map_map,List.map_map];rfl
structure ClIn (M n:Nat) (rs:List Nat):Prop where
  ok:ClOk n rs
  n2:n<=M
  p2:rs.length<=M
theorem LI {α:Type} {as bs:List α} {n:Nat} (h:bs∈List.replicate n as):bs=as:=List.eq_of_mem_replicate h
def GA (K:PySem.W.Frag):Sp:=λ vs H Q _=>∃ (a:Addr) (ns:List Int) (n M:Nat),vs=[.ref a,nV n,nV M]/\SqL K H a (ns.map V.int)/\ns.length<=63/\7<=M/\M<=60/\∀ H' p l n rs,Same H H'->H p=none->H l=none->H' p=some (.tup [nV n, .ref l])->H' l=some (.lst (rs.map nV))->ClIn M n rs->Q (.ref p) H'
abbrev Bj:Stmt:=top 38
theorem sc__law_told_over:FnScope ["_law_script","_law_number","_law_most","_law_across","_law_down","_law_wide","_law_high","_law_part"] ["_law_script","_law_number","_law_most"] (Aj Bj):=⟨rfl,rfl,rfl,by decide +kernel,rfl,by decide +kernel,by decide +kernel⟩
theorem DP {f:Addr} {fd:FuncData} (F:Fun K "_law_told_over" "_law_told_over" Bj f fd) (T:Txt K mg c) (c__law_mixed:Aq P w K mg base "_law_mixed" 1 ["_law_cell","_law_k"] AY) (c__law_cell_at:Aq P w K mg base "_law_cell_at" 1 ["_law_script","_law_k"] (AK K)):FnOk P w K mg base CX0 2 f fd ["_law_script","_law_number","_law_most"] (GA K):=by
  refine F.ok sc__law_told_over (λ vs H Q E h=> ?_) (λ cdv A outer s H vs Q E hr h=> ?_)
  · obtain ⟨a,ns,n,M,rfl,_⟩:=h;rfl
  · obtain ⟨a,ns,n,M,rfl,sa,hn,m1,m2,k⟩:=h;refine ⟨_,(Ae (Iy (A6 (Aa (Af Az Ac (Af Av (pv 1) Ac)) (Aa (Af Az Ac (Af Av (Af Au (pv 1) Ac) Ac)) Ab))) (Iz (K:=K) rfl (Bq (AD (i:=3) sc__law_told_over.nd rfl (Or.inr rfl)) (Bq (AD (i:=4) sc__law_told_over.nd rfl (Or.inl rfl)) EY))))
      (Ae (Iy (A6 (Aa (Af Az Ac (Af Av (Af Au (pv 1) Ac) (Am KD rfl (T.own _ (by decide)) Gn (Aa Ac (Aa (Af Au (pv 2) (pv 3)) Ab))))) (Aa (Af Az Ac (Af Av (Af Au (pv 1) Ac) (Am KD rfl (T.own _ (by decide)) Gn (Aa Ac (Aa (Af Au (pv 2) (pv 4)) Ab))))) Ab))) (Iz (K:=K) rfl (Bq (AD (i:=5) sc__law_told_over.nd rfl (Or.inr rfl)) (Bq (AD (i:=6) sc__law_told_over.nd rfl (Or.inl rfl)) EY))))
      (Ae (Fn (i:=7) sc__law_told_over.nd rfl (Or.inl rfl) (A3 rfl (T.own _ (by decide)) (Aa (pv 4) Ab)) (λ _ _ _ _=>AU) (λ _ _ _ _=>(Af Av (Ag c__law_mixed hr (Aa (Ag c__law_cell_at hr (Aa (pv 2) (Aa (pv 0) Ab))) (Aa (pv 0) Ab))) (Af A9 Ac (pv 1)))))
      (Ah (An (A6 (Aa (Af Ci (pv 3) (pv 5)) (Aa (Af Om (Ki (Cr (K:=K) (pv 7)) (λ _ _ _ _=>AU) (λ _ _ _ _=>(Am (Pf (K:=K)) rfl (T.own _ (by decide)) boot_sum (Aa (Kk (fr:=[("_law_across",1),("_law_mask",0)]) (A3 rfl (T.own _ (by decide)) (Aa (pv 2) Ab)) (λ _ _ _ _=>AU) (λ _ _ _ _=>(Af A9 (pv 2) (Af Ci (pv 1) (pv 0))))) Ab)))) (pv 6)) Ab)))))))),?_⟩
    walk_at "w";refine Ak (by decide) ?_;walk_at "w";refine Ak ⟨by decide,by decide⟩ ?_;walk_at "w";refine Ak (by decide) ?_;walk_at "w";intro p1 hp1;obtain ⟨A,eA,A1,A2⟩:∃ A:Nat,1+((n:Nat):Int)%6=(A:Nat)/\1<=A/\A<=6:=⟨1+n%6,by omega,by omega,by omega⟩;obtain ⟨B,eB,B1,B2⟩:∃ A:Nat,1+((n:Nat):Int) / 6%6=(A:Nat)/\1<=A/\A<=6:=⟨1+n / 6%6,by omega,by omega,by omega⟩;rw [eA,eB];refine GG (SqT.of Ad) rfl ?_;have s1:=Ai (o:=HO.tup [V.int (A:Nat),V.int (B:Nat)]) hp1;generalize upd H p1 (HO.tup [V.int (A:Nat),V.int (B:Nat)])=H1 at s1 ⊢;walk_at "w";refine Ak ⟨by decide,by decide⟩ ?_;walk_at "w";refine Ak ⟨by omega,Int.lt_of_le_of_lt (show _<=(6:Int) by omega) (by decide)⟩ ?_;walk_at "w";refine Ak (IZ _) ?_;rw [show ((n:Nat):Int) / 36=((n / 36:Nat):Int) by omega];obtain ⟨W,eW,W1,W2⟩:=JA (n / 36) A M A1 (by omega);walk_at "w";rw [eW];refine Ak ⟨by decide,by decide⟩ ?_;walk_at "w";refine Ak ⟨by omega,Int.lt_of_le_of_lt (show _<=(6:Int) by omega) (by decide)⟩ ?_;walk_at "w";refine Ak (IZ _) ?_;rw [show ((n:Nat):Int) / 360=((n / 360:Nat):Int) by omega];obtain ⟨Z,eZ,Z1,Z2⟩:=JA (n / 360) B M B1 (by omega);walk_at "w";rw [eZ];intro p2 hp2;refine GG (SqT.of Ad) rfl ?_;have s2:=s1.trans (Ai (o:=HO.tup [V.int (W:Nat),V.int (Z:Nat)]) hp2);generalize upd H1 p2 (HO.tup [V.int (W:Nat),V.int (Z:Nat)])=H2 at s2 ⊢;walk_at "w";refine ⟨_,rfl,by omega,by omega,λ D hD=> ?_⟩;rw [Int.toNat_natCast];have sa2:=s2.seq sa;refine Bk (G:=λ i=>(((((DM (Cp ns i) i:Nat):Int)%(2 ^ A:Nat)).toNat:Nat):Int)) (BO rfl) hD (by omega) ?_ ?_
    · intro i H' R hi s kk;walk_at "w";refine ⟨a,ns,i,rfl,s.seq sa2,hn,λ H3 s3=> ?_⟩;walk_at "w";refine ⟨_,_,rfl,⟨by omega,by omega⟩,?_⟩;walk_at "w";refine Ak ⟨by omega,by omega,by decide⟩ ?_;rw [Cv];refine Ak (B0 A) ?_;rw [Fv];exact kk H3 s3
    intro H3 s3 hl3;rw [F5] at hl3;generalize er:(List.range B).map (λ i=>(((DM (Cp ns i) i:Nat):Int)%(2 ^ A:Nat)).toNat)=ps at hl3;have lps:ps.length=B:=by rw [<-er];simp
    have bps:∀ r∈ps,r<2 ^ A:=λ r hr=>by
      rw [<-er] at hr;obtain ⟨i,_,rfl⟩:=List.mem_map.mp hr;exact Hg _ _
    walk_at "w";refine Ak (.inl ⟨by omega,by omega⟩) ?_;rw [<-Int.natCast_mul];walk_at "w";refine ⟨D,rfl,⟨_,SqL.of hl3⟩,λ D4 hD4=> ?_⟩;refine Bk (G:=λ i=>((((List.range W).map λ k=>ps.getD i 0*2 ^ (A*k)).sum:Nat):Int)) (Cj (SqL.of hl3) rfl) hD4 (by rw [List.length_map];omega) ?_ ?_
    · intro i H' R hi s kk;have hi':i<ps.length:=by simpa using hi
      rw [Bs hi];walk_at "w";refine ⟨_,rfl,by omega,?_,λ D5 hD5=> ?_⟩
      · have:W<=A*W:=Nat.le_mul_of_pos_left W (by omega);omega
      rw [Int.toNat_natCast];have hW:W<=60:=by
        have:W<=A*W:=Nat.le_mul_of_pos_left W (by omega);omega
      refine Bk (G:=λ k=>((ps.getD i 0*2 ^ (A*k):Nat):Int)) (BO rfl) hD5 (by omega) ?_ ?_
      · intro j H5 R5 hj s5 kk5;walk_at "w";refine Ak (.inl ⟨by omega,by omega⟩) ?_;rw [<-Int.natCast_mul];have hAj:A*j<=A*W:=Nat.mul_le_mul_left A (by omega);refine Ak ⟨by omega,by omega,Jh (bps _ (getD_mem hi')) (by omega)⟩ ?_;rw [Ja];exact kk5 H5 (Same.refl _)
      · intro H5 s5 hl5;walk_at "w";refine OO (SqL.of hl5) ?_;rw [L6];exact kk H5 s5
    intro H4 s4 hl4;rw [F5,List.length_map] at hl4;walk_at "w";generalize eq:(List.range ps.length).map (λ i=>((List.range W).map λ k=>ps.getD i 0*2 ^ (A*k)).sum)=qs at hl4;have lqs:qs.length=B:=by rw [<-eq];simp [lps]
    have bqs:∀ r∈qs,r<2 ^ (A*W):=λ r hr=>by
      rw [<-eq] at hr;obtain ⟨i,hi,rfl⟩:=List.mem_map.mp hr;exact Jd (bps _ (getD_mem (List.mem_range.mp hi))) W
    have hBZ:B*Z<=60:=by omega
    have hZ:Z<=60:=by
      have:Z<=B*Z:=Nat.le_mul_of_pos_left Z (by omega);omega
    refine NL hl4 (by omega) (by omega) (by simp;omega) λ p5 hp5=> ?_;walk_at "w";have e5:(List.replicate ((Z:Nat):Int).toNat (qs.map nV)).flatten=((List.replicate Z qs).flatten).map nV:=by
      rw [Int.toNat_natCast,List.map_flatten,List.map_replicate]
    rw [e5];have s5:=Ai (o:=HO.lst (((List.replicate Z qs).flatten).map nV)) hp5;have h5:upd H4 p5 (HO.lst (((List.replicate Z qs).flatten).map nV)) p5=_:=Ad;generalize upd H4 p5 (HO.lst (((List.replicate Z qs).flatten).map nV))=H5 at s5 h5 ⊢;intro p6 hp6;have s24:=s2.trans (s3.trans s4);have s6:=Ai (o:=HO.tup [V.int ((A*W:Nat):Int),V.ref p5]) hp6;have hlen:((List.replicate Z qs).flatten).length=B*Z:=by
      rw [List.length_flatten,List.map_replicate,List.sum_replicate_nat,lqs,Nat.mul_comm]
    have hAW:A<=A*W:=Nat.le_mul_of_pos_right A (by omega);have hBZ1:B<=B*Z:=Nat.le_mul_of_pos_right B (by omega);refine k _ p6 p5 (A*W) ((List.replicate Z qs).flatten) (s24.trans (s5.trans s6)) (s24.free (s5.free hp6)) (s24.free hp5) Ad (s6 _ _ h5) ⟨⟨by omega,by omega,by rw [hlen];omega,by rw [hlen];omega,λ r hr=> ?_⟩,W2,by rw [hlen];exact Z2⟩;obtain ⟨l,hl,hrl⟩:=List.mem_flatten.mp hr;rw [LI hl] at hrl;exact bqs r hrl
def Ct (K:PySem.W.Frag):Sp:=λ vs H Q _=>∃ (a:Addr) (ns:List Int) (n e p:Nat),vs=[.ref a,nV n,nV e,nV p]/\SqL K H a (ns.map V.int)/\ns.length<=63/\1<=e/\e<=60/\1<=p/\p<=60/\∀ H' q l rs,Same H H'->H q=none->H l=none->H' q=some (.tup [nV e, .ref l])->H' l=some (.lst (rs.map nV))->rs.length=p->ClOk e rs->Q (.ref q) H'
abbrev C9:Stmt:=top 39
theorem sc__law_laid:FnScope ["_law_script","_law_number","_law_ends","_law_picks","_law_many","_law_uppers_here","_law_rows","_law_pick","_law_cell","_law_own","_law_bits","_law_end"] ["_law_script","_law_number","_law_ends","_law_picks"] (Aj C9):=⟨rfl,rfl,rfl,by decide +kernel,rfl,by decide +kernel,by decide +kernel⟩
theorem G2 {f:Addr} {fd:FuncData} (F:Fun K "_law_laid" "_law_laid" C9 f fd) (T:Txt K mg c) (c__law_mixed:Aq P w K mg base "_law_mixed" 1 ["_law_cell","_law_k"] AY) (c__law_cell_at:Aq P w K mg base "_law_cell_at" 1 ["_law_script","_law_k"] (AK K)):FnOk P w K mg base CX0 2 f fd ["_law_script","_law_number","_law_ends","_law_picks"] (Ct K):=by
  refine F.ok sc__law_laid (λ vs H Q E h=> ?_) (λ cdv A outer s H vs Q E hr h=> ?_)
  · obtain ⟨a,ns,n,e,p,rfl,_⟩:=h;rfl
  · obtain ⟨a,ns,n,e,p,rfl,sa,hn,e1,e2,p1,p2,k⟩:=h;refine ⟨_,(Ae (Ar (i:=4) sc__law_laid.nd rfl (Or.inr rfl) (Af Az Ac (Af Av (pv 1) Ac)))
      (Ae (Fn (i:=5) sc__law_laid.nd rfl (Or.inl rfl) (A3 rfl (T.own _ (by decide)) (Aa (pv 2) Ab)) (λ _ _ _ _=>AU) (λ _ _ _ _=>(Af Av (Ag c__law_mixed hr (Aa (Ag c__law_cell_at hr (Aa (pv 2) (Aa (Af Az (pv 0) Ac) Ab))) (Aa (Af Az (pv 0) Ac) Ab))) (pv 1))))
      (Ae (Ar (i:=6) sc__law_laid.nd rfl (Or.inl rfl) (AN Ab))
      (Ae (Bv PassesOwn.never rfl (A3 rfl (T.own _ (by decide)) (Aa (pv 3) Ab)) (AD (i:=7) sc__law_laid.nd rfl (Or.inl rfl)) (Ae (Ar (i:=8) sc__law_laid.nd rfl (Or.inl rfl) (Ag c__law_cell_at hr (Aa (pv 0) (Aa (Af Az (pv 7) Ac) Ab))))
      (Ae (Ar (i:=9) sc__law_laid.nd rfl (Or.inl rfl) (Af Av (Ag c__law_mixed hr (Aa (pv 8) (Aa (pv 7) Ab))) (pv 4)))
      (Ae (Ar (i:=10) sc__law_laid.nd rfl (Or.inl rfl) (Af Ci (Ag c__law_mixed hr (Aa (pv 8) (Aa (Af Az (pv 7) Ac) Ab))) (Af GX Ac Ac)))
      (Ae (Bv PassesOwn.never rfl (A3 rfl (T.own _ (by decide)) (Aa (pv 2) Ab)) (AD (i:=11) sc__law_laid.nd rfl (Or.inl rfl)) (Ah (A5 (AQ LD (AE (BC (K:=K)) (pv 5) (pv 11) (λ _ _=>rfl)) (pv 9) (AF _)) (Ah (Ar (i:=10) sc__law_laid.nd rfl (Or.inl rfl) (Af Az (Af Az (Af BL (pv 10) (Af Av (pv 10) (Af A9 Ac (Af Az (pv 11) Ac)))) (Af Av (pv 10) (Af A9 Ac (pv 11)))) (Af A9 (Dg On rfl (T.own _ (by decide)) boot_int (Aa (Bo Pu (AE (BC (K:=K)) (pv 5) (pv 11) (λ _ _=>rfl)) (pv 9) (AF _)) Ab)) (pv 11))))) AC)))
      (Ah (B3 (Ht (K:=K) PySem.F.plainAttrs_list PySem.F.slot_list_append PySem.F.type_list_append Bl (pv 6) (Aa (Af Av (pv 10) (Af A9 Ac (pv 2))) Ab)))))))))
      (Ah (An (A6 (Aa (pv 2) (Aa (pv 6) Ab))))))))),?_⟩
    walk_at "w";refine Ak (by decide) ?_;walk_at "w";obtain ⟨M,eM,M1,M2⟩:∃ A:Nat,2+((n:Nat):Int)%3=(A:Nat)/\2<=A/\A<=4:=⟨2+n%3,by omega,by omega,by omega⟩;rw [eM];refine ⟨_,rfl,by omega,by omega,λ D hD=> ?_⟩;rw [Int.toNat_natCast];refine Bk (G:=λ i=>((DM (Cp ns (i+1)) ((i:Int)+9)%M:Nat):Int)) (BO rfl) hD (by omega) ?_ ?_
    · intro i H' R hi s kk;walk_at "w";refine ⟨a,ns,i+1,rfl,s.seq sa,hn,λ H3 s3=> ?_⟩;walk_at "w";refine ⟨_,_,rfl,⟨by omega,by omega⟩,?_⟩;walk_at "w";refine Ak (by show (0:Int)<_;omega) ?_;rw [<-Int.natCast_emod];exact kk H3 s3
    intro H1 s1 hl1;rw [F5] at hl1;generalize er:(List.range e).map (λ i:Nat=>DM (Cp ns (i+1)) ((i:Int)+9)%M)=us at hl1;have lus:us.length=e:=by rw [<-er];simp
    walk_at "w";intro q hq;walk_at "w";have s2:=Ai (o:=HO.lst []) hq;refine ⟨_,rfl,by omega,by omega,Bb (H0:=H1) (Es (n:=p)) (λ i σ H3=>∃ x y z u v,∃ rs:List Nat,σ=[some (.ref a),some (nV n),some (nV e),some (nV p),some (nV M),some (.ref D),some (.ref q),x,y,z,u,v]/\Same H1 H3/\H3 q=some (.lst (rs.map nV))/\rs.length=i/\∀ r∈rs,r<2 ^ e) ⟨_,_,_,_,_,[],rfl,s2,Ad,rfl,by simp⟩ (λ i σ H3 ⟨_,_,_,_,_,_,_,s,_⟩=>s) ?_ ?_⟩
    · rintro i σ H' H3 hi ⟨x,y,z,u,v,rs,rfl,s',hq',lrs,brs⟩ s3;have hq3:=s3 _ _ hq';have sH:=s'.trans s3;walk_at "w";refine ⟨a,ns,i+1,rfl,(s1.trans sH).seq sa,hn,λ H4 s4=> ?_⟩;generalize Cp ns (i+1)=C;walk_at "w";refine ⟨_,_,rfl,⟨by omega,by omega⟩,?_⟩;walk_at "w";refine Ak (by show (0:Int)<_;omega) ?_;rw [<-Int.natCast_emod];generalize DM C ((i:Nat):Int)%M=O;walk_at "w";refine ⟨_,_,rfl,⟨by omega,by omega⟩,?_⟩;have hm:=Jm C (((i:Nat):Int)+3);generalize DM C (((i:Nat):Int)+3)=B at hm ⊢;walk_at "w";refine Ak ⟨by decide,by decide,by decide⟩ ?_;walk_at "w";refine Ak (.inl ⟨by omega,by omega⟩) ?_;generalize ((B:Nat):Int)*48271 ^ (5:Int).toNat=b0;walk_at "w";refine ⟨_,rfl,by omega,by omega,EZ (Es (n:=e)) (λ j σ H5=>∃ w,∃ b:Int,σ=[some (.ref a),some (nV n),some (nV e),some (nV p),some (nV M),some (.ref D),some (.ref q),some (nV i),some (.int C),some (nV O),some (.int b),w]/\Same H4 H5) ⟨_,_,rfl,Same.refl _⟩ (λ j σ H5 ⟨_,_,_,s⟩=>s) ?_ ?_⟩
      · rintro j σ H6 H5 hj ⟨w0,b,rfl,s6⟩ s5;have s45:=s6.trans s5;have hu5:=s45 _ _ (s4 _ _ (sH _ _ hl1));walk_at "w";refine AX (SqL.of hu5) (Ck (by omega) (by omega)) ?_;walk_at "w";refine NG (λ h0=> ?_) (λ h0=> ?_)
        · walk_at "w";rw [show ((j:Nat):Int)+1=((j+1:Nat):Int) by omega];refine Ak ⟨by omega,by omega,by decide⟩ ?_;rw [Cv];walk_at "w";refine Ak (B0 _) ?_;walk_at "w";refine Ak ⟨by omega,by omega,by decide⟩ ?_;rw [Cv];walk_at "w";refine Ak (B0 _) ?_;walk_at "w";refine AX (SqL.of hu5) (Ck (by omega) (by omega)) ?_;walk_at "w";refine ⟨_,rfl,?_⟩;walk_at "w";refine Ak ⟨by omega,by omega,by split <;> decide⟩ ?_;walk_at "w";exact ⟨_,_,rfl,s45⟩
        · walk_at "w";exact ⟨_,_,rfl,s45⟩
      · rintro σ H5 ⟨w0,b,rfl,s5⟩;have s45:=s4.trans s5;have hq5:=s45 _ _ hq3;walk_at "w";refine tyL (SqL.of hq5) ?_;walk_at "w";refine Ak ⟨by omega,by omega,by decide⟩ ?_;rw [Cv];walk_at "w";refine Ak (B0 _) ?_;rw [Fv];walk_at "w";refine Ei hq5 (by rw [List.length_map];omega) ?_;walk_at "w";refine ⟨_,_,_,_,_,rs++[(b%(2 ^ e:Nat)).toNat],rfl,Bd (sH.trans s45) hq,?_,by simp [lrs],λ m hm=> ?_⟩
        · rw [Ad,List.map_append];rfl
        · rcases List.mem_append.mp hm with z | z
          · exact brs m z
          · rw [List.mem_singleton.mp z];exact Hg _ _
    · rintro σ H3 ⟨x,y,z,u,v,rs,rfl,s3,hq3,lrs,brs⟩;walk_at "w";intro p4 hp4;have s4:=Ai (o:=HO.tup [nV e, .ref q]) hp4;have s13:=s1.trans s3;exact k _ p4 q rs (s13.trans s4) (s13.free hp4) (s1.free hq) Ad (s4 _ _ hq3) lrs ⟨e1,e2,by omega,by omega,brs⟩
theorem DO {P:Int->Prop} {l:List Int} {k:Nat} (h:k<l.length) (H:∀ x∈l,P x):P (l.getD k 0):=H _ (L2.getD_mem h)
def Do:Sp:=λ vs H Q _=>∃ n e M:Nat,vs=[nV n,nV e,nV M]/\n<=1000000000/\7<=M/\M<=60/\1<=e/\e<=M/\∀ H' p l n rs,Same H H'->H p=none->H l=none->H' p=some (.tup [nV n, .ref l])->H' l=some (.lst (rs.map nV))->ClIn M n rs->Q (.ref p) H'
abbrev CL:Stmt:=top 40
theorem sc__law_steps:FnScope ["_law_number","_law_ends","_law_most","_law_step","_law_rows","_law_k"] ["_law_number","_law_ends","_law_most"] (Aj CL):=⟨rfl,rfl,rfl,by decide +kernel,rfl,by decide +kernel,by decide +kernel⟩
theorem FR {f:Addr} {fd:FuncData} (F:Fun K "_law_steps" "_law_steps" CL f fd) (T:Txt K mg c) (c__law_turned:Aq P w K mg base "_law_turned" 1 ["_law_mask","_law_steps_here","_law_size"] C6):FnOk P w K mg base CX0 2 f fd ["_law_number","_law_ends","_law_most"] Do:=by
  refine F.ok sc__law_steps (λ vs H Q E h=> ?_) (λ cdv A outer s H vs Q E hr h=> ?_)
  · obtain ⟨n,e,M,rfl,_⟩:=h;rfl
  · obtain ⟨n,e,M,rfl,n2,m1,m2,e1,e2,k⟩:=h;refine ⟨_,(Ae (Ar (i:=1) sc__law_steps.nd rfl (Or.inl rfl) (AE (BC (K:=K)) (AN (Aa (pv 1) (Aa (Af Az Ac (Af Av (Af Au (pv 0) Ac) Ac)) (Aa Ac (Aa Ac Ab))))) (Af Av (Af Au (pv 0) Ac) Ac) (λ _ _=>rfl)))
      (Ae (Ar (i:=3) sc__law_steps.nd rfl (Or.inl rfl) (Af Av (Af Au (pv 0) Ac) (pv 1)))
      (Ae (Ar (i:=4) sc__law_steps.nd rfl (Or.inl rfl) (AN (Aa (Af Av (AE (BC (K:=K)) (AN (Aa Ac (Aa (Af BL (Af A9 Ac (pv 1)) Ac) (Aa (Af Ci (pv 0) (Af GX Ac Ac)) Ab)))) (Af Av (pv 0) Ac) (λ _ _=>rfl)) (Af A9 Ac (pv 1))) Ab)))
      (Ae (Bv PassesOwn.never rfl (A3 rfl (T.own _ (by decide)) (Aa (Af BL (AE (BC (K:=K)) (AN (Aa (pv 1) (Aa (Af Ci Ac (pv 1)) (Aa (Af Az Ac (Af Av (Af Au (pv 0) Ac) (pv 2))) Ab)))) (Af Av (Af Au (pv 0) Ac) Ac) (λ _ _=>rfl)) Ac) Ab)) (AD (i:=5) sc__law_steps.nd rfl (Or.inl rfl)) (Ah (B3 (Ht (K:=K) PySem.F.plainAttrs_list PySem.F.slot_list_append PySem.F.type_list_append Bl (pv 4) (Aa (Ag c__law_turned hr (Aa (AE (BC (K:=K)) (pv 4) (Nt K8 Ac) (λ _ _=>rfl)) (Aa (pv 3) (Aa (pv 1) Ab)))) Ab)))))
      (Ah (An (A6 (Aa (pv 1) (Aa (DU (IU (K:=K)) (pv 4) GZ (Eb (pv 2))) Ab))))))))),?_⟩
    walk_at "w";refine Ak ⟨by decide,by decide⟩ ?_;walk_at "w";refine Ak (by decide) ?_;walk_at "w";intro p1 hp1;walk_at "w";have s1:=Ai (o:=HO.lst [nV e,V.int (2+(n:Int) / 17%6),V.int 3,V.int 5]) hp1;have h1:upd H p1 (HO.lst [nV e,V.int (2+(n:Int) / 17%6),V.int 3,V.int 5]) p1=some (.lst (([(e:Int),2+(n:Int) / 17%6,3,5]:List Int).map V.int)):=Ad;generalize upd H p1 (HO.lst [nV e,V.int (2+(n:Int) / 17%6),V.int 3,V.int 5])=H1 at s1 h1 ⊢;refine Ak ⟨by decide,by decide⟩ ?_;walk_at "w";refine Ak (by decide) ?_;refine AX (SqL.of h1) (Dc (by omega) (by show _<((4:Nat):Int);omega)) ?_;obtain ⟨E0,eE,E1,E2⟩:∃ E0:Nat,([(e:Int),2+(n:Int) / 17%6,3,5]:List Int).getD ((n:Int) / 5%4).toNat 0=(E0:Nat)/\1<=E0/\E0<=M:=by
      refine DO (P:=λ x=>∃ E0:Nat,x=(E0:Nat)/\1<=E0/\E0<=M) (by show _<4;omega) λ x hx=>⟨x.toNat,?_⟩;simp only [List.mem_cons,List.not_mem_nil,or_false] at hx;omega
    rw [eE];walk_at "w";refine Ak ⟨by decide,by decide⟩ ?_;walk_at "w";refine Ak (by show (0:Int)<_;omega) ?_;rw [show (n:Int) / 7%(E0:Nat)=((n / 7%E0:Nat):Int) by push_cast;rfl];have hst:n / 7%E0<E0:=Nat.mod_lt _ (by omega);generalize n / 7%E0=S at hst ⊢;walk_at "w";refine Ak ⟨by omega,by omega,by decide⟩ ?_;rw [Cv];walk_at "w";refine Ak ⟨by decide,by decide,by decide⟩ ?_;walk_at "w";refine Ak (.inl ⟨by omega,by omega⟩) ?_;generalize ((n:Nat):Int)*7919 ^ (5:Int).toNat=Z;walk_at "w";intro p2 hp2;walk_at "w";have s2:=Ai (o:=HO.lst [V.int 1,V.int (((2 ^ E0:Nat):Int) - 2),V.int Z]) hp2;have h2:upd H1 p2 (HO.lst [V.int 1,V.int (((2 ^ E0:Nat):Int) - 2),V.int Z]) p2=some (.lst (([1,((2 ^ E0:Nat):Int) - 2,Z]:List Int).map V.int)):=Ad;generalize upd H1 p2 (HO.lst [V.int 1,V.int (((2 ^ E0:Nat):Int) - 2),V.int Z])=H2 at s2 h2 ⊢;refine Ak (by decide) ?_;refine AX (SqL.of h2) (Dc (by omega) (by show _<((3:Nat):Int);omega)) ?_;generalize ([1,((2 ^ E0:Nat):Int) - 2,Z]:List Int).getD ((n:Int)%3).toNat 0=Y;walk_at "w";refine Ak ⟨by omega,by omega,by decide⟩ ?_;rw [Cv];refine Ak (B0 _) ?_;rw [Fv];have hY:=Hg Y E0;generalize (Y%(2 ^ E0:Nat)).toNat=y at hY ⊢;walk_at "w";intro q hq;walk_at "w";have sq:=Ai (o:=HO.lst [nV y]) hq;have s02:=s1.trans s2;refine Ak (.inl ⟨by decide,by decide⟩) ?_;walk_at "w";refine Ak ⟨by decide,by decide⟩ ?_;walk_at "w";refine Ak (by show (0:Int)<_;omega) ?_;walk_at "w";intro p3 hp3;walk_at "w";have s3:=Ai (o:=HO.lst [nV E0,V.int (2*(E0:Int)),V.int (1+(n:Int) / 11%(M:Nat))]) hp3;have h3:upd (upd H2 q (HO.lst [nV y])) p3 (HO.lst [nV E0,V.int (2*(E0:Int)),V.int (1+(n:Int) / 11%(M:Nat))]) p3=some (.lst (([(E0:Int),2*(E0:Int),1+(n:Int) / 11%(M:Nat)]:List Int).map V.int)):=Ad;have hq3:=s3 _ _ (show upd H2 q (HO.lst [nV y]) q=_ from Ad);have s23:=sq.trans s3;generalize upd (upd H2 q (HO.lst [nV y])) p3 (HO.lst [nV E0,V.int (2*(E0:Int)),V.int (1+(n:Int) / 11%(M:Nat))])=H3 at s23 h3 hq3 ⊢;refine Ak ⟨by decide,by decide⟩ ?_;walk_at "w";refine Ak (by decide) ?_;refine AX (SqL.of h3) (Dc (by omega) (by show _<((3:Nat):Int);omega)) ?_;obtain ⟨X,eX,X1,X2⟩:∃ X:Int,([(E0:Int),2*(E0:Int),1+(n:Int) / 11%(M:Nat)]:List Int).getD ((n:Int) / 3%3).toNat 0=X/\1<=X/\X<=120:=by
      refine DO (P:=λ x=>∃ X:Int,x=X/\1<=X/\X<=120) (by show _<3;omega) λ x hx=>⟨x,rfl,?_⟩;have c1:=Int.emod_nonneg ((n:Int) / 11) (show ((M:Nat):Int)≠0 by omega);have c2:=Int.emod_lt_of_pos ((n:Int) / 11) (show (0:Int)<((M:Nat):Int) by omega);simp only [List.mem_cons,List.not_mem_nil,or_false] at hx;omega
    rw [eX];walk_at "w";refine ⟨_,rfl,by omega,by omega,Bb (H0:=H2) (Es (n:=(X - 1).toNat)) (λ i σ H4=>∃ x,∃ (rs:List Nat) (r:Nat),σ=[some (nV n),some (nV E0),some (nV M),some (nV S),some (.ref q),x]/\Same H2 H4/\H4 q=some (.lst ((rs++[r]).map nV))/\rs.length=i/\∀ m∈rs++[r],m<2 ^ E0) ⟨_,[],y,rfl,s23,hq3,rfl,by simpa using hY⟩ (λ i σ H4 ⟨_,_,_,_,s,_⟩=>s) ?_ ?_⟩
    · rintro i σ H' H4 hi ⟨x,rs,r,rfl,s',hq',lrs,brs⟩ s4;have hq4:=s4 _ _ hq';have sH:=s'.trans s4;walk_at "w";refine tyL (SqL.of hq4) ?_;walk_at "w";refine AX (v:=nV r) (SqL.of hq4) (by rw [List.map_append];exact Lx _ _) ?_;walk_at "w";refine ⟨r,S,E0,rfl,brs r (by simp),by omega,by omega,λ r' hr' _=> ?_⟩;walk_at "w";refine Ei hq4 (by rw [List.length_map,List.length_append,List.length_singleton];omega) ?_;walk_at "w";refine ⟨_,rs++[r],r',rfl,Bd sH hq,?_,by simp [lrs],λ m hm=> ?_⟩
      · rw [Ad,List.map_append (l₁:=rs++[r])];rfl
      · rcases List.mem_append.mp hm with z | z
        · exact brs m z
        · rw [List.mem_singleton.mp z];exact hr'
    · rintro σ H4 ⟨x,rs,r,rfl,s4,hq4,lrs,brs⟩;walk_at "w";refine Gx (SqL.of hq4) λ p5 hp5=> ?_;rw [K3 (by omega),Int.toNat_natCast, <-List.map_take];walk_at "w";have s5:=Ai (o:=HO.lst (((rs++[r]).take M).map nV)) hp5;have h5:upd H4 p5 (HO.lst (((rs++[r]).take M).map nV)) p5=_:=Ad;generalize upd H4 p5 (HO.lst (((rs++[r]).take M).map nV))=H5 at s5 h5 ⊢;intro p6 hp6;have s6:=Ai (o:=HO.tup [nV E0, .ref p5]) hp6;have s04:=s02.trans s4;have hl:((rs++[r]).take M).length<=M/\1<=((rs++[r]).take M).length:=by
        rw [List.length_take,List.length_append,List.length_singleton];omega
      exact k _ p6 p5 E0 ((rs++[r]).take M) (s04.trans (s5.trans s6)) (s04.free (s5.free hp6)) (s04.free hp5) Ad (s6 _ _ h5) ⟨⟨E1,by omega,hl.2,by omega,λ m hm=>brs m (List.mem_of_mem_take hm)⟩,E2,hl.1⟩
def Ds (K:PySem.W.Frag):Sp:=λ vs H Q _=>∃ (a:Addr) (ns:List Int) (M:Nat),vs=[.ref a,nV M]/\SqL K H a (ns.map V.int)/\ns.length<=63/\7<=M/\M<=60/\∀ H' p l n rs,Same H H'->H p=none->H l=none->H' p=some (.tup [nV n, .ref l])->H' l=some (.lst (rs.map nV))->ClIn M n rs->Q (.ref p) H'
abbrev CP:Stmt:=top 41
theorem sc__law_weave:FnScope ["_law_script","_law_most","_law_number","_law_ends","_law_rows","_law_kind","_law_bound"] ["_law_script","_law_most"] (Aj CP):=⟨rfl,rfl,rfl,by decide +kernel,rfl,by decide +kernel,by decide +kernel⟩
theorem FS {f:Addr} {fd:FuncData} (F:Fun K "_law_weave" "_law_weave" CP f fd) (T:Txt K mg c) (c__law_mixed:Aq P w K mg base "_law_mixed" 1 ["_law_cell","_law_k"] AY) (c__law_cell_at:Aq P w K mg base "_law_cell_at" 1 ["_law_script","_law_k"] (AK K)) (c__law_told_over:Aq P w K mg base "_law_told_over" 2 ["_law_script","_law_number","_law_most"] (GA K)) (c__law_laid:Aq P w K mg base "_law_laid" 2 ["_law_script","_law_number","_law_ends","_law_picks"] (Ct K)) (c__law_steps:Aq P w K mg base "_law_steps" 2 ["_law_number","_law_ends","_law_most"] Do):FnOk P w K mg base CX0 3 f fd ["_law_script","_law_most"] (Ds K):=by
  refine F.ok sc__law_weave (λ vs H Q E h=> ?_) (λ cdv A outer s H vs Q E hr h=> ?_)
  · obtain ⟨a,ns,M,rfl,_⟩:=h;rfl
  · obtain ⟨a,ns,M,rfl,sa,hn,m1,m2,k⟩:=h;have hu:=hr.units0;refine ⟨_,(Ae (Ar (i:=2) sc__law_weave.nd rfl (Or.inr rfl) (Ag c__law_mixed (hr.mono (by decide)) (Aa (Ag c__law_cell_at (hr.mono (by decide)) (Aa (pv 0) (Aa Ac Ab))) (Aa Ac Ab))))
      (Ae (Ar (i:=3) sc__law_weave.nd rfl (Or.inr rfl) (AE (BC (K:=K)) (AN (Aa (Af Az Ac (Af Av (Af Au (pv 2) Ac) (Am N6 rfl (T.own _ (by decide)) Ka (Aa (pv 1) (Aa Ac Ab))))) (Aa (Af Az Ac (Af Av (Af Au (pv 2) Ac) (pv 1))) Ab))) (Af Av (Af Au (pv 2) Ac) Ac) (λ _ _=>rfl)))
      (Ae (Hq (K:=K) (i:=4) sc__law_weave.nd rfl (Or.inl rfl) (Js (K:=K) rfl (T.own _ (by decide)) (Aa (DU (IU (K:=K)) (pv 0) (Eb Ac) (Eb (Af Az Ac (pv 1)))) Ab)) (λ _ _ _ _=>AU) (λ _ _ _ _=>(Af Av (Af Ci (Af Az (pv 1) (pv 0)) (AE (BC (K:=K)) (AN (Aa Ac (Aa (Af Az (Af GX Ac Ac) Ac) Ab))) (Af Av (Af Au (pv 3) Ac) Ac) (λ _ _=>rfl))) (Af A9 Ac (pv 2)))))
      (Ae (Ar (i:=5) sc__law_weave.nd rfl (Or.inl rfl) (Af Av (Af Au (pv 2) Ac) Ac))
      (Ae (A5 (PW.pt (Hc (AQ (O7 hu (K:=K)) (pv 4) (AN Ab) (AF _)) (Fb (AQ By (pv 5) Ac (AF _))))) (Ah (An (Ag c__law_told_over hr (Aa (pv 0) (Aa (Af Au (pv 2) Ac) (Aa (pv 1) Ab)))))) AC)
      (Ae (A5 (PW.pt (Hc (AQ By (pv 5) Ac (AF _)) (Fb (AQ By (pv 5) Ac (AF _))))) (Ah (An (Ag c__law_laid hr (Aa (pv 0) (Aa (Af Au (pv 2) Ac) (Aa (pv 3) (Aa (Am (BZ (K:=K)) rfl (T.own _ (by decide)) boot_len (Aa (pv 4) Ab)) Ab))))))) AC)
      (Ae (A5 (AQ By (pv 5) Ac (AF _)) (Ah (An (Ag c__law_steps hr (Aa (Af Au (pv 2) Ac) (Aa (pv 3) (Aa (pv 1) Ab)))))) AC)
      (Ae (A5 (AQ By (pv 5) Ac (AF _)) (Ae (Ar (i:=6) sc__law_weave.nd rfl (Or.inr rfl) (Af Av (Ag c__law_mixed (hr.mono (by decide)) (Aa (pv 2) (Aa Ac Ab))) (Af A9 Ac (pv 3))))
      (Ah (Hq (K:=K) (i:=4) sc__law_weave.nd rfl (Or.inl rfl) (Js (K:=K) rfl (T.own _ (by decide)) (Aa (pv 4) Ab)) (λ _ _ _ _=>AU) (λ _ _ _ _=>(AE (BC (K:=K)) (AN (Aa (Af GY (pv 1) (pv 2)) (Aa (Af Nb (pv 1) (pv 2)) (Aa (pv 1) Ab)))) (Af Ci (Af Av (Af Ci (pv 0) (pv 0)) Ac) (Af Av (Af Au (pv 3) Ac) Ac)) (λ _ _=>rfl)))))) AC)
      (Ah (An (A6 (Aa (pv 3) (Aa (pv 4) Ab))))))))))))),?_⟩
    walk_at "w";refine ⟨a,ns,0,rfl,sa,hn,λ H1 s1=> ?_⟩;walk_at "w";refine ⟨_,_,rfl,⟨by decide,by decide⟩,?_⟩;have hN:=Jm (Cp ns 0) 1;generalize DM (Cp ns 0) 1=N at hN ⊢;walk_at "w";refine Ak ⟨by decide,by decide⟩ ?_;walk_at "w";refine Ak (by show (0:Int)<_;split <;> omega) ?_;obtain ⟨X,eX,X1,X2⟩:∃ X:Nat,(1:Int)+(N:Int) / 8%(if (9:Int)<((M:Nat):Int) then (9:Int) else ((M:Nat):Int))=(X:Nat)/\1<=X/\X<=M:=by
      refine ⟨((1:Int)+(N:Int) / 8%(if (9:Int)<((M:Nat):Int) then (9:Int) else ((M:Nat):Int))).toNat,?_⟩;have c1:=Int.emod_nonneg ((N:Int) / 8) (show ((M:Nat):Int)≠0 by omega);have c2:=Int.emod_lt_of_pos ((N:Int) / 8) (show (0:Int)<((M:Nat):Int) by omega);split <;> omega
    walk_at "w";rw [eX];refine Ak ⟨by decide,by decide⟩ ?_;walk_at "w";refine Ak (by show (0:Int)<_;omega) ?_;obtain ⟨Y,eY,Y1,Y2⟩:∃ X:Nat,(1:Int)+(N:Int) / 8%((M:Nat):Int)=(X:Nat)/\1<=X/\X<=M:=by
      refine ⟨((1:Int)+(N:Int) / 8%((M:Nat):Int)).toNat,?_⟩;have c1:=Int.emod_nonneg ((N:Int) / 8) (show ((M:Nat):Int)≠0 by omega);have c2:=Int.emod_lt_of_pos ((N:Int) / 8) (show (0:Int)<((M:Nat):Int) by omega);omega
    walk_at "w";rw [eY];intro p2 hp2;walk_at "w";have s2:=s1.trans (Ai (o:=HO.lst [nV X,nV Y]) hp2);have h2:upd H1 p2 (HO.lst [nV X,nV Y]) p2=some (.lst (([(X:Int),(Y:Int)]:List Int).map V.int)):=Ad;generalize upd H1 p2 (HO.lst [nV X,nV Y])=H2 at s2 h2 ⊢;refine Ak ⟨by decide,by decide⟩ ?_;walk_at "w";refine Ak (by decide) ?_;refine AX (SqL.of h2) (Dc (by omega) (by show _<((2:Nat):Int);omega)) ?_;obtain ⟨E0,eE,E1,E2⟩:∃ E0:Nat,([(X:Int),(Y:Int)]:List Int).getD ((N:Int) / 5%2).toNat 0=(E0:Nat)/\1<=E0/\E0<=M:=by
      refine DO (P:=λ x=>∃ E0:Nat,x=(E0:Nat)/\1<=E0/\E0<=M) (by show _<2;omega) λ x hx=>⟨x.toNat,?_⟩;simp only [List.mem_cons,List.not_mem_nil,or_false] at hx;omega
    rw [eE];walk_at "w";refine Gx (s2.seq sa) λ p3 hp3=> ?_;rw [L7 (by decide) (by omega), <-List.map_take, <-List.map_drop];walk_at "w";have ht:((ns.take (1+(M:Int)).toNat).drop (1:Int).toNat).length<=M:=by
      rw [List.length_drop,List.length_take];omega
    have s3:=s2.trans (Ai (o:=HO.lst (((ns.take (1+(M:Int)).toNat).drop (1:Int).toNat).map V.int)) hp3);have h3:upd H2 p3 (HO.lst (((ns.take (1+(M:Int)).toNat).drop (1:Int).toNat).map V.int)) p3=_:=Ad;generalize upd H2 p3 (HO.lst (((ns.take (1+(M:Int)).toNat).drop (1:Int).toNat).map V.int))=H3 at s3 h3 ⊢;generalize (ns.take (1+(M:Int)).toNat).drop (1:Int).toNat=ts at h3 ht;refine ⟨p3,rfl,⟨_,SqL.of h3⟩,λ D4 hD4=> ?_⟩;refine Bk (G:=λ i=>(((((ts.getD i 0+(i:Nat))*([1,1000000000000000009]:List Int).getD ((N:Int) / 3%2).toNat 0)%(2 ^ E0:Nat)).toNat:Nat):Int)) (Hk (SqL.of h3) rfl rfl) hD4 (by rw [List.length_map];omega) ?_ ?_
    · intro i H' R hi s kk;rw [Li hi];walk_at "w";refine Ak ⟨by decide,by decide,by decide⟩ ?_;walk_at "w";intro p5 hp5;walk_at "w";have s5:=Ai (o:=HO.lst [V.int 1,V.int (10 ^ (18:Int).toNat+9)]) hp5;have h5:upd H' p5 (HO.lst [V.int 1,V.int (10 ^ (18:Int).toNat+9)]) p5=some (.lst (([1,1000000000000000009]:List Int).map V.int)):=Ad;generalize upd H' p5 (HO.lst [V.int 1,V.int (10 ^ (18:Int).toNat+9)])=H5 at s5 h5 ⊢;refine Ak ⟨by decide,by decide⟩ ?_;walk_at "w";refine Ak (by decide) ?_;refine AX (SqL.of h5) (Dc (by omega) (by show _<((2:Nat):Int);omega)) ?_;have hF: -(2 ^ 64)<([1,1000000000000000009]:List Int).getD ((N:Int) / 3%2).toNat 0/\([1,1000000000000000009]:List Int).getD ((N:Int) / 3%2).toNat 0<2 ^ 64:=by
        refine DO (P:=λ x=> -(2 ^ 64)<x/\x<2 ^ 64) (by show _<2;omega) λ x hx=> ?_;simp only [List.mem_cons,List.not_mem_nil,or_false] at hx;omega
      refine Ak (.inr hF) ?_;walk_at "w";refine Ak ⟨by omega,by omega,by decide⟩ ?_;rw [Cv];refine Ak (B0 _) ?_;rw [Fv];exact kk H5 s5
    intro H4 s4 hl4;have s04:=s3.trans s4;generalize er:(List.range (ts.map V.int).length).map (λ i:Nat=>((((ts.getD i 0+(i:Nat))*([1,1000000000000000009]:List Int).getD ((N:Int) / 3%2).toNat 0)%(2 ^ E0:Nat)).toNat))=rs;have lrs:rs.length=ts.length:=by rw [<-er];simp
    have brs:∀ r∈rs,r<2 ^ E0:=λ r hr=>by
      rw [<-er] at hr;obtain ⟨i,_,rfl⟩:=List.mem_map.mp hr;exact Hg _ _
    rw [F5,er] at hl4;have hl4':H4 D4=some (.lst ((rs.map λ r:Nat=>(r:Int)).map V.int)):=by rw [hl4,List.map_map];rfl
    walk_at "w";refine Ak ⟨by decide,by decide⟩ ?_;walk_at "w";refine Ak (by decide) ?_;walk_at "w";intro p5 hp5;walk_at "w";have s5:=Ai (o:=HO.lst []) hp5;refine MF (bs:=[]) (SqL.of (s5 _ _ hl4')) (SqL.of Ad) ?_;have s05:=s04.trans s5;have hl5:=s5 _ _ hl4;have hD0:H D4=none:=s3.free hD4;generalize upd H4 p5 (HO.lst [])=H5 at s05 hl5 ⊢;have h28:((N:Nat):Int) / 2880=((N / 2880:Nat):Int):=by omega
    have hr1:rs.length<=M:=by omega
    have told:∀ {D:VK} {E:XK},(∀ p H',D (.ref p) H'=Q (.ref p) H')->GA K [.ref a,nV (N / 2880),nV M] H5 D E:=λ {D E} e=>
      ⟨a,ns,N / 2880,M,rfl,s05.seq sa,hn,m1,m2,λ H' p l n rs' s hp hl h1 h2 c=>(e p H').symm▸k H' p l n rs' (s05.trans s) (s05.free hp) (s05.free hl) h1 h2 c⟩
    refine ⟨_,rfl,?_⟩;refine JO (λ hb=> ?_) (λ hb=> ?_)
    · walk_at "w";refine Ak ⟨by decide,by decide⟩ ?_;rw [h28];walk_at "w";exact told λ _ _=>rfl
    have hr0:1<=rs.length:=by
      cases rs with
      | nil=>simp at hb
      | cons x xs=>simp
    walk_at "w";refine DS (λ h1=> ?_) (λ h1=> ?_)
    · walk_at "w";refine Ak ⟨by decide,by decide⟩ ?_;rw [h28];walk_at "w";exact told λ _ _=>rfl
    walk_at "w";have laid:∀ {D:VK} {E:XK},(∀ p H',D (.ref p) H'=Q (.ref p) H')->Ct K [.ref a,nV (N / 2880),nV E0,nV rs.length] H5 D E:=λ {D E} e=>
      ⟨a,ns,N / 2880,E0,rs.length,rfl,s05.seq sa,hn,E1,by omega,hr0,by omega,λ H' p l rs' s hp hl h1 h2 l' c=>(e p H').symm▸k H' p l E0 rs' (s05.trans s) (s05.free hp) (s05.free hl) h1 h2 ⟨c,E2,by omega⟩⟩
    have lay:∀ (H':Hp) (rs':List Nat) (b:Addr) {p:Addr},Same H H'->H b=none->H' b=some (.lst (rs'.map nV))->ClIn M E0 rs'->H' p=none->Q (.ref p) (upd H' p (HO.tup [nV E0, .ref b])):=λ H' rs' b p s hb h c hp=>
      k _ p b E0 rs' (s.trans (Ai hp)) (s.free hp) hb Ad (Ai hp _ _ h) c
    refine DS (λ h2=> ?_) (λ h2=> ?_)
    · walk_at "w";refine Ak ⟨by decide,by decide⟩ ?_;rw [h28];walk_at "w";refine AT (SqL.of hl5) ?_;walk_at "w";rw [List.length_map];exact laid λ _ _=>rfl
    walk_at "w";refine DS (λ h3=> ?_) (λ h3=> ?_)
    · walk_at "w";refine Ak ⟨by decide,by decide⟩ ?_;rw [h28];walk_at "w";refine AT (SqL.of hl5) ?_;walk_at "w";rw [List.length_map];exact laid λ _ _=>rfl
    walk_at "w";refine DS (λ h4=> ?_) (λ h4=> ?_)
    · walk_at "w";refine Ak ⟨by decide,by decide⟩ ?_;rw [h28];walk_at "w";exact ⟨N / 2880,E0,M,rfl,by omega,m1,m2,E1,E2,λ H' p l n rs' s hp hl h1 h2 c=>k H' p l n rs' (s05.trans s) (s05.free hp) (s05.free hl) h1 h2 c⟩
    walk_at "w";refine DS (λ h5=> ?_) (λ h5=> ?_)
    · walk_at "w";refine ⟨_,_,rfl,⟨by decide,by decide⟩,?_⟩;generalize DM ((N:Nat):Int) 3=Z;walk_at "w";refine Ak ⟨by omega,by omega,by decide⟩ ?_;rw [Cv];refine Ak (B0 _) ?_;rw [Fv];have hB:=Hg (Z:Int) E0;generalize (((Z:Nat):Int)%(2 ^ E0:Nat)).toNat=B at hB ⊢;walk_at "w";refine ⟨D4,rfl,⟨_,SqL.of hl5⟩,λ D6 hD6=> ?_⟩;refine Bk (G:=λ i=>((([rs.getD i 0 &&& B,rs.getD i 0 ||| B,rs.getD i 0]:List Nat).getD ((i:Int)*(i:Int)%3*((N:Int) / 2880%2)).toNat 0:Nat):Int)) (Hk (SqL.of hl5) rfl rfl) hD6 (by rw [List.length_map];omega) ?_ ?_
      · intro i H' R hi s kk;have hi':i<rs.length:=by simpa using hi
        rw [Bs hi];walk_at "w";rw [bA,bO];intro p7 hp7;walk_at "w";have s7:=Ai (o:=HO.lst [nV (rs.getD i 0 &&& B),nV (rs.getD i 0 ||| B),nV (rs.getD i 0)]) hp7;have h7:upd H' p7 (HO.lst [nV (rs.getD i 0 &&& B),nV (rs.getD i 0 ||| B),nV (rs.getD i 0)]) p7=some (.lst (([rs.getD i 0 &&& B,rs.getD i 0 ||| B,rs.getD i 0]:List Nat).map nV)):=Ad;generalize upd H' p7 (HO.lst [nV (rs.getD i 0 &&& B),nV (rs.getD i 0 ||| B),nV (rs.getD i 0)])=H7 at s7 h7 ⊢;refine Ak (.inl ⟨by omega,by omega⟩) ?_;walk_at "w";refine Ak (by decide) ?_;walk_at "w";refine Ak ⟨by decide,by decide⟩ ?_;walk_at "w";refine Ak (by decide) ?_;have c1:=Int.emod_nonneg ((i:Int)*(i:Int)) (show (3:Int)≠0 by decide);have c2:=Int.emod_lt_of_pos ((i:Int)*(i:Int)) (show (0:Int)<3 by decide);walk_at "w";refine Ak (.inl ⟨by omega,by omega⟩) ?_;have c3:0<=(i:Int)*(i:Int)%3*((N:Int) / 2880%2)/\(i:Int)*(i:Int)%3*((N:Int) / 2880%2)<3:=by
          rcases (show (N:Int) / 2880%2=0\/(N:Int) / 2880%2=1 by omega) with z | z <;> rw [z] <;> omega
        refine AX (SqL.of h7) (Ck c3.1 (by show _<((3:Nat):Int);omega)) ?_;exact kk H7 s7
      intro H6 s6 hl6;rw [F5,List.length_map] at hl6;walk_at "w";intro p8 hp8;refine lay H6 _ D6 (s05.trans s6) (s05.free hD6) hl6 ⟨⟨E1,by omega,by simp;omega,by simp;omega,λ r hr=> ?_⟩,E2,by simp;omega⟩ hp8;obtain ⟨i,hi,rfl⟩:=List.mem_map.mp hr;have hb2:=brs _ (L2.getD_mem (y:=0) (List.mem_range.mp hi));have c1:=Int.emod_nonneg ((i:Int)*(i:Int)) (show (3:Int)≠0 by decide);have c2:=Int.emod_lt_of_pos ((i:Int)*(i:Int)) (show (0:Int)<3 by decide);have c3:((i:Int)*(i:Int)%3*((N:Int) / 2880%2)).toNat<3:=by
        rcases (show (N:Int) / 2880%2=0\/(N:Int) / 2880%2=1 by omega) with z | z <;> rw [z] <;> omega
      have hm:=L2.getD_mem (as:=[rs.getD i 0 &&& B,rs.getD i 0 ||| B,rs.getD i 0]) (y:=0) (i:=((i:Int)*(i:Int)%3*((N:Int) / 2880%2)).toNat) c3;simp only [List.mem_cons,List.not_mem_nil,or_false] at hm;rcases hm with z | z | z
      · rw [z];exact Nat.and_lt_two_pow _ hB
      · rw [z];exact Nat.or_lt_two_pow hb2 hB
      · rw [z];exact hb2
    · walk_at "w";intro p8 hp8;exact lay H5 rs D4 s05 hD0 hl5 ⟨⟨E1,by omega,hr0,by omega,brs⟩,E2,hr1⟩ hp8
open MG
def Bw:Sp:=λ vs H Q _=>∃ n p:Nat,vs=[nV n,nV p]/\n<=60/\p<=60/\∀ H' q,Same H H'->H q=none->Rp H' (FN H) 2 (.ref q) (.lst ((Ap n p).map dTh))->Q (.ref q) H'
abbrev BJ:Stmt:=top 42
theorem EQ:FnScope ["_law_ends","_law_picks"] ["_law_ends","_law_picks"] (Aj BJ):=⟨rfl,rfl,rfl,by decide +kernel,rfl,by decide +kernel,by decide +kernel⟩
theorem EK {f:Addr} {fd:FuncData} (F:Fun K "_law_threads" "_law_threads" BJ f fd) (T:Txt K mg c):FnOk P w K mg base CX0 1 f fd ["_law_ends","_law_picks"] Bw:=by
  refine F.ok EQ (λ vs H Q E h=> ?_) (λ cdv A outer s H vs Q E hr h=> ?_)
  · obtain ⟨n,p,rfl,_⟩:=h;rfl
  · obtain ⟨n,p,rfl,hn,hp,k⟩:=h;refine ⟨_,(Ah (An (Af (IX (K:=K)) (Bu (A3 rfl (T.own _ (by decide)) (Aa (pv 0) Ab)) (λ _ _ _ _=>AU) (λ _ _ _ _=>(A6 (Aa G3 (Aa (Af Az (pv 0) Ac) Ab))))) (Bu (A3 rfl (T.own _ (by decide)) (Aa (pv 1) Ab)) (λ _ _ _ _=>AU) (λ _ _ _ _=>(A6 (Aa G3 (Aa (Af Az (pv 0) Ac) Ab)))))))),?_⟩;walk_at "w";refine ⟨_,rfl,by omega,by omega,λ D hD=> ?_⟩;rw [Int.toNat_natCast];refine Cq (m:=1) (G:=λ i=>dTh (false,i+1)) (BO rfl) hD (by omega) ?_ ?_
    · intro i H' R hi s kk;walk_at "w";intro z hz;exact kk _ _ (Ai hz) (DT Ad (.str _) (.int _))
    intro H1 ys s1 hl1 r1;walk_at "w";refine ⟨_,rfl,by omega,by omega,λ D2 hD2=> ?_⟩;rw [Int.toNat_natCast];refine Cq (m:=1) (G:=λ i=>dTh (true,i+1)) (BO rfl) hD2 (by omega) ?_ ?_
    · intro i H' R hi s kk;walk_at "w";intro z hz;exact kk _ _ (Ai hz) (DT Ad (.str _) (.int _))
    intro H2 zs s2 hl2 r2;have e1:(List.range n).map (λ i=>dTh (false,i+1))=((List.range n).map λ k=>((false,k+1):Th)).map dTh:=by rw [List.map_map];rfl
    have e2:(List.range p).map (λ i=>dTh (true,i+1))=((List.range p).map λ k=>((true,k+1):Th)).map dTh:=by rw [List.map_map];rfl
    rw [e1] at r1;rw [e2] at r2;obtain ⟨a1,v1,ea1,g1,_,t1,_⟩:=Dm r1;cases ea1;obtain ⟨a2,v2,ea2,g2,_,t2,_⟩:=Dm r2;cases ea2;have l1:=t1.len;have l2:=t2.len;simp at l1 l2;walk_at "w";refine GL (SqL.of (s2 _ _ g1)) (SqL.of g2) (by omega) λ z hz=> ?_;have s5:=Ai (o:=HO.lst (v1++v2)) hz;have s14:=s1.trans s2;exact k _ z (s14.trans s5) (s14.free hz) (F3 Ad (s14.free hz) (by rw [BQ];omega) (((t1.same s2).app t2).same s5))
def ioB (rs:List Nat) (a b:Th):Bool:=if a.1=b.1 then false else if a.1=true then !(rs.getD (a.2 - 1) 0).testBit (b.2 - 1) else (rs.getD (b.2 - 1) 0).testBit (a.2 - 1)
theorem QX (m i:Nat):decide ((((m >>> i) &&& 1:Nat):Int)=1)=m.testBit i:=by
  have h:((m >>> i) &&& 1)=(m.testBit i).toNat:=by
    rw [Nat.and_one_is_mod,Nat.shiftRight_eq_div_pow,MM.bit_div]
  rw [h];cases m.testBit i <;> rfl
theorem Q9 (m i:Nat):decide ((((m >>> i) &&& 1:Nat):Int)=0)= !m.testBit i:=by
  have h:((m >>> i) &&& 1)=(m.testBit i).toNat:=by
    rw [Nat.and_one_is_mod,Nat.shiftRight_eq_div_pow,MM.bit_div]
  rw [h];cases m.testBit i <;> rfl
def CS:Sp:=λ vs H Q _=>∃ (n:Nat) (a:Addr) (rs:List Nat) (b1 b2:Addr) (one other:Th),vs=[nV n, .ref a, .ref b1, .ref b2]/\H a=some (.lst (rs.map nV))/\H b1=some (.tup (thV one))/\H b2=some (.tup (thV other))/\okT n rs.length one/\okT n rs.length other/\Q (.bl (ioB rs one other)) H
abbrev BU:Stmt:=top 43
theorem EI:FnScope ["_law_ends","_law_rows","_law_one","_law_other"] ["_law_ends","_law_rows","_law_one","_law_other"] (Aj BU):=⟨rfl,rfl,rfl,by decide +kernel,rfl,by decide +kernel,by decide +kernel⟩
theorem ES {f:Addr} {fd:FuncData} (F:Fun K "_law_is_over" "_law_is_over" BU f fd) (T:Txt K mg c):FnOk P w K mg base CX0 1 f fd ["_law_ends","_law_rows","_law_one","_law_other"] CS:=by
  refine F.ok EI (λ vs H Q E h=> ?_) (λ cdv A outer s H vs Q E hr h=> ?_)
  · obtain ⟨n,a,rs,b1,b2,one,other,rfl,_⟩:=h;rfl
  · obtain ⟨n,a,rs,b1,b2,one,other,rfl,ha,h1,h2,o1,o2,q⟩:=h;obtain ⟨x,i⟩:=one;obtain ⟨y,j⟩:=other;refine ⟨_,(Ae (A5 (AQ By (AE (Br (K:=K)) (pv 2) Ac (λ _ _=>rfl)) (AE (Br (K:=K)) (pv 3) Ac (λ _ _=>rfl)) (AF _)) (Ah (An Gc)) AC)
      (Ae (A5 (AQ By (AE (Br (K:=K)) (pv 2) Ac (λ _ _=>rfl)) G3 (AF _)) (Ah (An (Bo By (Af GY (Af Ij (AE (BC (K:=K)) (pv 1) (Af BL (AE (Br (K:=K)) (pv 3) Ac (λ _ _=>rfl)) Ac) (λ _ _=>rfl)) (Af BL (AE (Br (K:=K)) (pv 2) Ac (λ _ _=>rfl)) Ac)) Ac) Ac (AF _)))) AC)
      (Ah (An (Bo By (Af GY (Af Ij (AE (BC (K:=K)) (pv 1) (Af BL (AE (Br (K:=K)) (pv 2) Ac (λ _ _=>rfl)) Ac) (λ _ _=>rfl)) (Af BL (AE (Br (K:=K)) (pv 3) Ac (λ _ _=>rfl)) Ac)) Ac) Ac (AF _)))))),?_⟩
    walk_at "w";refine AR (v:= .str (nm x)) (SqT.of h1) (Ax (j:=0) rfl) ?_;walk_at "w";refine AR (v:= .str (nm y)) (SqT.of h2) (Ax (j:=0) rfl) ?_;walk_at "w";unfold ioB at q;obtain ⟨i1,i2⟩:=o1;obtain ⟨j1,j2⟩:=o2;simp only at i1 i2 j1 j2 q;refine DS (λ e=> ?_) (λ e=> ?_)
    · walk_at "w";rw [if_pos (LE e)] at q;exact q
    have ne:x≠y:=λ z=>e (by rw [z]);rw [if_neg ne] at q;walk_at "w";refine AR (v:= .str (nm x)) (SqT.of h1) (Ax (j:=0) rfl) ?_;walk_at "w";cases x with
    | false=>
      cases y with
      | false=>exact absurd rfl ne
      | true=>
        refine DS (λ _=> ?_) (λ z=>absurd rfl z);rw [if_neg (by decide)] at q;simp only [if_true,if_false,Bool.false_eq_true] at i2 j2;walk_at "w";refine AR (v:=nV j) (SqT.of h2) (Ax (j:=1) rfl) ?_;walk_at "w";rw [show ((j:Nat):Int) - 1=((j - 1:Nat):Int) by omega];refine AX (SqL.of ha) (Ck (by omega) (by omega)) ?_;rw [Int.toNat_natCast];walk_at "w";refine AR (v:=nV i) (SqT.of h1) (Ax (j:=1) rfl) ?_;walk_at "w";rw [show ((i:Nat):Int) - 1=((i - 1:Nat):Int) by omega];refine Ak (by show (0:Int)<=_;omega) ?_;rw [GT];walk_at "w";have eb:Builtin.bitAnd ((((rs.getD (j - 1) 0) >>> (i - 1):Nat):Int)) 1=(((rs.getD (j - 1) 0) >>> (i - 1) &&& 1:Nat):Int):=by rw [show (1:Int)=((1:Nat):Int) from rfl,bA]
        rw [eb,QX];exact q
    | true=>
      cases y with
      | true=>exact absurd rfl ne
      | false=>
        refine DS (λ z=>absurd z (by decide)) (λ _=> ?_);rw [if_pos rfl] at q;simp only [if_true,if_false,Bool.false_eq_true] at i2 j2;walk_at "w";refine AR (v:=nV i) (SqT.of h1) (Ax (j:=1) rfl) ?_;walk_at "w";rw [show ((i:Nat):Int) - 1=((i - 1:Nat):Int) by omega];refine AX (SqL.of ha) (Ck (by omega) (by omega)) ?_;rw [Int.toNat_natCast];walk_at "w";refine AR (v:=nV j) (SqT.of h2) (Ax (j:=1) rfl) ?_;walk_at "w";rw [show ((j:Nat):Int) - 1=((j - 1:Nat):Int) by omega];refine Ak (by show (0:Int)<=_;omega) ?_;rw [GT];walk_at "w";have eb:Builtin.bitAnd ((((rs.getD (i - 1) 0) >>> (j - 1):Nat):Int)) 1=(((rs.getD (i - 1) 0) >>> (j - 1) &&& 1:Nat):Int):=by rw [show (1:Int)=((1:Nat):Int) from rfl,bA]
        rw [eb,Q9];exact q
theorem L5 {n:Nat} {rs:List Nat} (t:Th):(Ap n rs.length).filter (λ x=>ioB rs x t)=ovL n rs t:=by
  obtain ⟨b,k⟩:=t;unfold Ap ovL;rw [List.filter_append,List.filter_map,List.filter_map];cases b with
  | true=>
    have e1:(List.range rs.length).filter ((λ x=>ioB rs x (true,k))∘λ k=>((true,k+1):Th))=[]:=by
      rw [List.filter_eq_nil_iff];intro a _;simp [ioB]
    rw [e1,if_pos rfl,List.map_nil,List.append_nil,List.map_map];congr 1
  | false=>
    have e1:(List.range n).filter ((λ x=>ioB rs x (false,k))∘λ k=>((false,k+1):Th))=[]:=by
      rw [List.filter_eq_nil_iff];intro a _;simp [ioB]
    rw [e1,if_neg (by simp),List.map_nil,List.nil_append,List.map_map];congr 1
open MG
theorem HL {α β:Type} (f:α->Bool) (g:α->β) (xs:List α) (y:α):((List.range xs.length).filter λ i=>f (xs.getD i y)).map (λ i=>g (xs.getD i y))=(xs.filter f).map g:=by
  induction xs using MM.snoc_ind with
  | h0=>rfl
  | h1 l a ih=>
    rw [List.length_append,List.length_singleton,List.range_succ,List.filter_append,List.map_append,List.filter_append,List.map_append];congr 1
    · rw [<-ih];have e1:(List.range l.length).filter (λ i=>f ((l++[a]).getD i y))=(List.range l.length).filter (λ i=>f (l.getD i y)):=List.filter_congr λ i hi=>by
        rw [List.getD_eq_getElem?_getD,List.getElem?_append_left (List.mem_range.mp hi), <-List.getD_eq_getElem?_getD]
      rw [e1];refine List.map_congr_left λ i hi=> ?_;rw [List.getD_eq_getElem?_getD,List.getElem?_append_left (List.mem_range.mp (List.mem_filter.mp hi).1), <-List.getD_eq_getElem?_getD]
    · have e:(l++[a]).getD l.length y=a:=by rw [List.getD_eq_getElem?_getD,List.getElem?_append_right (Nat.le_refl _)];simp
      simp only [List.filter_cons,List.filter_nil,e];split <;> simp [e]
def C4:Sp:=λ vs H Q _=>∃ (n:Nat) (a:Addr) (rs:List Nat),vs=[nV n, .ref a]/\H a=some (.lst (rs.map nV))/\ClOk n rs/\∀ H' d kvs,Same H H'->H d=none->H' d=some (.dT kvs)->OV H' kvs (Ap n rs.length) (ovL n rs)->Q (.ref d) H'
abbrev Ce:Stmt:=top 44
theorem sc__law_uppers:FnScope ["_law_ends","_law_rows","_law_some","_law_found","_law_one"] ["_law_ends","_law_rows"] (Aj Ce):=⟨rfl,rfl,rfl,by decide +kernel,rfl,by decide +kernel,by decide +kernel⟩
theorem Ft {f:Addr} {fd:FuncData} (F:Fun K "_law_uppers" "_law_uppers" Ce f fd) (T:Txt K mg c) (c__law_threads:Aq P w K mg base "_law_threads" 1 ["_law_ends","_law_picks"] Bw) (c__law_is_over:Aq P w K mg base "_law_is_over" 1 ["_law_ends","_law_rows","_law_one","_law_other"] CS):FnOk P w K mg base CX0 2 f fd ["_law_ends","_law_rows"] C4:=by
  refine F.ok sc__law_uppers (λ vs H Q E h=> ?_) (λ cdv A outer s H vs Q E hr h=> ?_)
  · obtain ⟨n,a,rs,rfl,_⟩:=h;rfl
  · obtain ⟨n,a,rs,rfl,ha,ok,k⟩:=h;have hu1:=hr.units1;have n2:=ok.n2;have p2:=ok.p2;refine ⟨_,(Ae (Ar (i:=2) sc__law_uppers.nd rfl (Or.inl rfl) (Ag c__law_threads hr (Aa (pv 0) (Aa (Am (BZ (K:=K)) rfl (T.own _ (by decide)) boot_len (Aa (pv 1) Ab)) Ab))))
      (Ae (Ar (i:=3) sc__law_uppers.nd rfl (Or.inl rfl) HU)
      (Ae (Bv PassesOwn.never rfl (Cr (K:=K) (pv 2)) (AD (i:=4) sc__law_uppers.nd rfl (Or.inr rfl)) (Ah (EW hu1 (pv 3) (pv 4) (Bu (Cr (K:=K) (pv 2)) (λ _ _ _ _=>(E3 (A0 (Ag c__law_is_over hr (Aa (pv 1) (Aa (pv 3) (Aa (pv 0) (Aa (pv 2) Ab)))))))) (λ _ _ _ _=>(pv 0))) rfl)))
      (Ah (An (pv 3)))))),?_⟩
    walk_at "w";refine AT (SqL.of ha) ?_;rw [List.length_map];walk_at "w";refine ⟨n,rs.length,rfl,n2,p2,λ H1 m s1 hm r1=> ?_⟩;walk_at "w";intro d hd;walk_at "w";obtain ⟨m',refs,em,g1,_,t1,_⟩:=Dm r1;cases em;have hd0:H d=none:=s1.free hd;have s2:=Ai (o:=HO.dT []) hd;have hmd:m≠d:=Ao g1 hd;have hl:(Ap n rs.length).length<=120:=by rw [BQ];omega
    refine ⟨m,rfl,⟨_,SqL.of (s2 _ _ g1)⟩,Bb (H0:=H1) (CB (SqL.of g1)) (λ i σ H3=>∃ y kvs,σ=[some (nV n),some (.ref a),some (.ref m),some (.ref d),y]/\Same H1 H3/\H3 d=some (.dT kvs)/\kvs.length<=i/\OV H3 kvs ((Ap n rs.length).take i) (ovL n rs)) ⟨_,[],rfl,s2,Ad,Nat.le_refl _,⟨λ t ht=>by cases ht⟩⟩ (λ i σ H3 ⟨_,_,_,s,_⟩=>s) ?_ ?_⟩
    · rintro i σ H' H3 hi ⟨y,kvs,rfl,s',hd',hlk,ov⟩ s3;have hi':i<(Ap n rs.length).length:=by rw [<-t1.len];exact hi
      have sH:=s'.trans s3;have hd3:=s3 _ _ hd';obtain ⟨b,eb,hb⟩:=t1.at_ i hi';have hb3:=sH _ _ hb;have hok:okT n rs.length ((Ap n rs.length).getD i (false,0)):=mem_allT.mp (L2.getD_mem hi');rw [eb,EU hi'];generalize (Ap n rs.length).getD i (false,0)=u at hb hb3 hok ⊢;walk_at "w";refine ⟨m,rfl,⟨_,SqL.of (sH _ _ g1)⟩,λ D hD=> ?_⟩;refine Df (m:=1) (p:=λ j=>ioB rs ((Ap n rs.length).getD j (false,0)) u) (G:=λ j=>dTh ((Ap n rs.length).getD j (false,0))) (Cj (SqL.of (sH _ _ g1)) rfl) hD (by rw [t1.len];omega) ?_ ?_ ?_
      · intro j H4 R hj s4 kk;have hj':j<(Ap n rs.length).length:=by rw [<-t1.len];exact hj
        obtain ⟨bj,ebj,hbj⟩:=t1.at_ j hj';rw [ebj];walk_at "w";have s14:=sH.trans s4;refine ⟨n,a,rs,bj,b,_,u,rfl,(s1.trans s14) _ _ ha,s14 _ _ hbj,s14 _ _ hb,mem_allT.mp (L2.getD_mem hj'),hok,?_⟩;exact ⟨_,rfl,kk H4 (Same.refl _)⟩
      · intro j H4 R hj hp s4 kk;have hj':j<(Ap n rs.length).length:=by rw [<-t1.len];exact hj
        obtain ⟨bj,ebj,hbj⟩:=t1.at_ j hj';rw [ebj];walk_at "w";exact kk H4 _ (Same.refl _) (LQ ⟨bj,rfl,(sH.trans s4) _ _ hbj⟩)
      · intro H4 ys s4 hl4 r4;have e4:((List.range refs.length).filter λ j=>ioB rs ((Ap n rs.length).getD j (false,0)) u).map (λ j=>dTh ((Ap n rs.length).getD j (false,0)))=(ovL n rs u).map dTh:=by
          rw [t1.len,HL (λ x=>ioB rs x u) dTh (Ap n rs.length) (false,0),L5]
        rw [e4] at r4;have hd4:=s4 _ _ hd3;have hb4:=s4 _ _ hb3;walk_at "w";refine ⟨d,_,rfl,DPut.t (k:=thK u) hd4 hb4 (Nat.lt_of_le_of_lt (show kvs.length<=1000 by omega) (by decide)),?_⟩;walk_at "w";refine ⟨_,_,rfl,Bd (sH.trans s4) hd,Ad,?_,?_⟩
        · have:=BY kvs (thK u) (.ref D);omega
        · exact ((ov.same s3).same s4).put hd4 (r4.mono (λ _ _ q _=>q) λ _ _=>trivial)
    · rintro σ H3 ⟨y,kvs,rfl,s3,hd3,hlk,ov⟩;have e:(Ap n rs.length).take refs.length=Ap n rs.length:=by rw [t1.len,List.take_length]
      rw [e] at ov;walk_at "w";exact k H3 d kvs (s1.trans s3) hd0 hd3 ov
open MG
def CV (H G:Hp) (vis:MG.Vis) (x:Th) (_:Option Th) (v:V):Prop:=∃ l refs,v= .ref l/\G l=some (.lst refs)/\TL H refs (chn vis x)/\H l=none
def CVq (H G:Hp) (q:Addr) (vis:MG.Vis) (x:Th) (_:Option Th) (v:V):Prop:=∃ l refs,v= .ref l/\G l=some (.lst refs)/\l≠q/\TL H refs (chn vis x)/\H l=none
theorem O9 (ts:List Th):(!eqD (.lst (ts.map dTh)) (.lst ([].map dTh)))= !ts.isEmpty:=by
  cases ts with
  | nil=>simp [eqD,CO]
  | cons a as=>simp [eqD,CO]
def Dv:Sp:=λ vs H Q _=>∃ (o b:Addr) (kvo:List (List Key × V)) (U:List Th) (ad:Th->List Th) (one:Th),vs=[.ref o, .ref b]/\H o=some (.dT kvo)/\H b=some (.tup (thV one))/\OV H kvo U ad/\one∈U/\(∀ t∈U,∀ x∈ad t,x∈U)/\U.length<=1000/\
  ∀ H' d kvs vis,Same H H'->H d=none->H' d=some (.dT kvs)->VR (CV H H' vis) vis kvs->End ad one vis->Lv U (vis,[])->Q (.ref d) H'
abbrev Cy:Stmt:=top 45
theorem sc__law_reach:FnScope ["_law_uppers_here","_law_thread","_law_found","_law_edge","_law_later","_law_one","_law_other"] ["_law_uppers_here","_law_thread"] (Aj Cy):=⟨rfl,rfl,rfl,by decide +kernel,rfl,by decide +kernel,by decide +kernel⟩
theorem FK {f:Addr} {fd:FuncData} (F:Fun K "_law_reach" "_law_reach" Cy f fd) (T:Txt K mg c):FnOk P w K mg base CX0 1 f fd ["_law_uppers_here","_law_thread"] Dv:=by
  refine F.ok sc__law_reach (λ vs H Q E h=> ?_) (λ cdv A outer s H vs Q E hr h=> ?_)
  · obtain ⟨o,b,kvo,U,ad,one,rfl,_⟩:=h;rfl
  · obtain ⟨o,b,kvo,U,ad,one,rfl,ho,hb,ov,h1,cl,hU,k⟩:=h;have hu1:=hr.units1;refine ⟨_,(Ae (Ar (i:=2) sc__law_reach.nd rfl (Or.inl rfl) (Ib hu1 (pv 1) (AN (Aa (pv 1) Ab))))
      (Ae (Ar (i:=3) sc__law_reach.nd rfl (Or.inl rfl) (AN (Aa (pv 1) Ab)))
      (Ae (Hr PassesOwn.never (AQ (OJ hr.units) (pv 3) (AN Ab) (AF _)) (Ae (Ar (i:=4) sc__law_reach.nd rfl (Or.inl rfl) (AN Ab))
      (Ae (Bv PassesOwn.never rfl (Cr (K:=K) (pv 3)) (AD (i:=5) sc__law_reach.nd rfl (Or.inl rfl)) (Ah (Bv PassesOwn.never rfl (Cr (K:=K) (GM hu1 (pv 0) (pv 5) (λ _ _=>rfl))) (AD (i:=6) sc__law_reach.nd rfl (Or.inl rfl)) (Ah (A5 (Ie (Gu hu1 (pv 6) (pv 2))) (Ae (EW hu1 (pv 2) (pv 6) (Af (IX (K:=K)) (GM hu1 (pv 2) (pv 5) (λ _ _=>rfl)) (AN (Aa (pv 6) Ab))) rfl)
      (Ah (B3 (Ht (K:=K) PySem.F.plainAttrs_list PySem.F.slot_list_append PySem.F.type_list_append Bl (pv 4) (Aa (pv 6) Ab))))) AC)))))
      (Ah (Ar (i:=3) sc__law_reach.nd rfl (Or.inl rfl) (pv 4))))))
      (Ah (An (pv 2)))))),?_⟩
    walk_at "w";intro d hd;walk_at "w";intro z0 hz0;walk_at "w";have hbd:b≠d:=Ao hb hd;have s0:=Ai (o:=HO.dT []) hd;have hzd:d≠z0:=Ao Ad hz0;have sz:=Ai (o:=HO.lst [V.ref b]) hz0;refine ⟨_,_,rfl,b,thK one,rfl,sz _ _ ((Al hbd).trans hb),sz _ _ Ad,?_⟩;have hz1:H z0=none:=s0.free hz0;have e1:upd (upd (upd H d (HO.dT [])) z0 (HO.lst [V.ref b])) d (HO.dT [(thK one,V.ref z0)]) d=_:=Ad;have ez:upd (upd (upd H d (HO.dT [])) z0 (HO.lst [V.ref b])) d (HO.dT [(thK one,V.ref z0)]) z0=some (HO.lst [V.ref b]):=(Al hzd.symm).trans Ad;have s1:Same H (upd (upd (upd H d (HO.dT [])) z0 (HO.lst [V.ref b])) d (HO.dT [(thK one,V.ref z0)])):=Bd (s0.trans sz) hd;generalize upd (upd (upd H d (HO.dT [])) z0 (HO.lst [V.ref b])) d (HO.dT [(thK one,V.ref z0)])=H1 at s1 e1 ez ⊢;walk_at "w";intro m hm;walk_at "w";have s2:=Ai (o:=HO.lst [V.ref b]) hm;have e2:upd H1 m (HO.lst [V.ref b]) m=_:=Ad;replace e1:=s2 _ _ e1;replace ez:=s2 _ _ ez;generalize upd H1 m (HO.lst [V.ref b])=H2 at s2 e1 e2 ez ⊢;have LA:=Lv.all cl h1;refine ⟨λ w σ H'=>∃ (kk:Nat) (kvs:List (List Key × V)) (mt:Addr) (refs:List V) (x y z:Option V),σ=[some (.ref o),some (.ref b),some (.ref d),some (.ref mt),x,y,z]/\Same H H'/\H' d=some (.dT kvs)/\VR (CV H H' (lv ad one kk).1) (lv ad one kk).1 kvs/\H' mt=some (.lst refs)/\TL H refs (lv ad one kk).2/\w=(U.length - (lv ad one kk).1.length)+(if (lv ad one kk).2=[] then 0 else 1),⟨_,0,_,m,_,_,_,_,rfl,s1.trans s2,e1, .cons ⟨z0,_,rfl,ez,by show TL H _ (chn [(one,none)] one);rw [show chn [(one,none)] one=[one] from by simp [chn,chR]];exact TL.one ⟨b,rfl,hb⟩,hz1⟩ .nil,e2,TL.one ⟨b,rfl,hb⟩,rfl⟩,?_⟩;rintro w0 σ H' ⟨kk,kvs,mt,refs,x,y,z,rfl,sH,hd',vr,hmt,tl,rfl⟩;have sE:=GU sH hd;have hmtd:mt≠d:=CT hmt hd' (by intro z;cases z);walk_at "w";intro ze hze;walk_at "w";have se:=Ai (o:=HO.lst []) hze;have hlm:(lv ad one kk).2.length<=1000:=by
      cases kk with
      | zero=>show 1<=1000;decide
      | succ k0=>
        have h2:(lv ad one (k0+1)).1.length=(lv ad one k0).1.length+(lv ad one (k0+1)).2.length:=(Lv.next cl (LA k0)).2;have h3:=(LA (k0+1)).len;omega
    refine ⟨2, .lst ((lv ad one kk).2.map dTh), .lst (([]:List Th).map dTh),by decide,F3 (se _ _ hmt) trivial (by omega) (tl.same (sH.trans se)),F3 Ad trivial (by simp) TL.nil,rfl,?_⟩;rw [if_pos rfl,O9];replace sH:=sH.trans se;replace hd':=se _ _ hd';replace hmt:=se _ _ hmt;replace vr:VR (CV H (upd H' ze (HO.lst [])) (lv ad one kk).1) (lv ad one kk).1 kvs:=vr.imp λ x po v _ ⟨l,refs,c1,c2,c3⟩=>⟨l,refs,c1,se _ _ c2,c3⟩;replace sE:=GU sH hd;generalize upd H' ze (HO.lst [])=H' at sH hd' hmt vr sE ⊢;walk_at "w";refine JO (λ hne=> ?_) (λ hne=> ?_)
    · have hne2:(lv ad one kk).2≠[]:=λ z=>by
        rw [z] at hne;simp at hne
      refine ⟨λ σ' H''=>∃ (kvs2:List (List Key × V)) (q:Addr) (refs2:List V) (x y:Option V),σ'=[some (.ref o),some (.ref b),some (.ref d),some (.ref q),some (.ref q),x,y]/\Same H H''/\H'' d=some (.dT kvs2)/\VR (CV H H'' (lv ad one (kk+1)).1) (lv ad one (kk+1)).1 kvs2/\H'' q=some (.lst refs2)/\TL H refs2 (lv ad one (kk+1)).2,?_,?_⟩
      · rintro σ' H'' ⟨kvs2,q,refs2,x,y,rfl,s3,hd3,vr3,hq3,tl3⟩;refine ⟨_,?_,kk+1,kvs2,q,refs2,_,_,_,rfl,s3,hd3,vr3,hq3,tl3,rfl⟩;have hl:=(Lv.next cl (LA kk)).2;have hl2:=(LA (kk+1)).len;rw [if_neg hne2];have hlv:(lv ad one (kk+1)).1.length=(lv ad one kk).1.length+(lv ad one (kk+1)).2.length:=hl;by_cases q0:(lv ad one (kk+1)).2=[]
        · rw [if_pos q0];rw [q0] at hlv;simp at hlv;omega
        · rw [if_neg q0];have:1<=(lv ad one (kk+1)).2.length:=List.length_pos_iff.mpr q0;omega
      · walk_at "w";intro q hq;walk_at "w";have hqd:d≠q:=Ao hd' hq;have hqE:ers H' d q=none:=by unfold ers;rw [if_neg hqd.symm];exact hq
        have sq:=Ai (o:=HO.lst []) hq;refine ⟨mt,rfl,⟨_,SqL.of (sq _ _ hmt)⟩,Bb (H0:=ers H' d) (CB (SqL.of (FB hmt hmtd))) (λ i σ H3=>∃ (kv3:List (List Key × V)) (lr:List V) (y z:Option V),σ=[some (.ref o),some (.ref b),some (.ref d),some (.ref mt),some (.ref q),y,z]/\Same (ers H' d) H3/\H3 d=some (.dT kv3)/\VR (CVq H H3 q (((lv ad one kk).2.take i).foldl (goT ad) ((lv ad one kk).1,[])).1) (((lv ad one kk).2.take i).foldl (goT ad) ((lv ad one kk).1,[])).1 kv3/\H3 q=some (.lst lr)/\TL H lr (((lv ad one kk).2.take i).foldl (goT ad) ((lv ad one kk).1,[])).2) ⟨kvs,[],_,_,rfl,ers_is.trans sq,sq _ _ hd',vr.imp λ x po v _ ⟨l,refs,c1,c2,c3⟩=>⟨l,refs,c1,sq _ _ c2,Ao c2 hq,c3⟩,Ad,TL.nil⟩ (λ i σ H3 ⟨_,_,_,_,_,s,_⟩=>s) ?_ ?_⟩
        · rintro i σ G H3 hi ⟨kv3,lr,y,z,rfl,s',hd3,vr3,hq3,tl3⟩ s3;have hi':i<(lv ad one kk).2.length:=by rw [<-tl.len];exact hi
          replace hd3:=s3 _ _ hd3;replace hq3:=s3 _ _ hq3;replace vr3:=vr3.imp (R':=CVq H H3 q (((lv ad one kk).2.take i).foldl (goT ad) ((lv ad one kk).1,[])).1) λ x po v _ ⟨l,refs,c1,c2,c3,c4⟩=>⟨l,refs,c1,s3 _ _ c2,c3,c4⟩;have sG:=s'.trans s3;obtain ⟨bu,ebu,hbu⟩:=tl.at_ i hi';have hbu3:=sG _ _ (sE _ _ hbu);have huU:(lv ad one kk).2.getD i (false,0)∈U:=(LA kk).sub2 _ (L2.getD_mem hi');have g0:Good U (lv ad one kk).1.length ((lv ad one kk).1,([]:List Th)):=⟨(LA kk).nd,(LA kk).sub,λ x hx=>(by cases hx),rfl,(LA kk).pre⟩;have g3:=Good.lev cl ((lv ad one kk).2.take i) g0 λ u hu=>(LA kk).inn u (List.mem_of_mem_take hu);have hin:(lv ad one kk).2.getD i (false,0)∈(((lv ad one kk).2.take i).foldl (goT ad) ((lv ad one kk).1,[])).1.map (·.1):=GV _ _ _ ((LA kk).inn _ (L2.getD_mem hi'));rw [ebu,EX _ _ _ hi'];generalize (lv ad one kk).2.getD i (false,0)=u at hbu hbu3 huU hin ⊢;generalize ((lv ad one kk).2.take i).foldl (goT ad) ((lv ad one kk).1,[])=acc at vr3 tl3 g3 hin ⊢;obtain ⟨l,el,rl⟩:=ov.at_ u huU;obtain ⟨l',vl,e',hl,_,tlu,_⟩:=Dm rl;cases e';walk_at "w";refine ⟨o, .ref l,rfl,el▸DGet.t (k:=thK u) (sG _ _ (sE _ _ ho)) hbu3,?_⟩;walk_at "w";refine ⟨l,rfl,⟨_,SqL.of (sG _ _ (sE _ _ hl))⟩,Bb (H0:=ers H' d) (CB (SqL.of (sE _ _ hl))) (λ j σ H4=>∃ (kv4:List (List Key × V)) (lr4:List V) (z:Option V),σ=[some (.ref o),some (.ref b),some (.ref d),some (.ref mt),some (.ref q),some (.ref bu),z]/\Same (ers H' d) H4/\H4 d=some (.dT kv4)/\VR (CVq H H4 q (((ad u).take j).foldl (AA u) acc).1) (((ad u).take j).foldl (AA u) acc).1 kv4/\H4 q=some (.lst lr4)/\TL H lr4 (((ad u).take j).foldl (AA u) acc).2) ⟨kv3,lr,_,rfl,sG,hd3,vr3,hq3,tl3⟩ (λ j σ H4 ⟨_,_,_,_,s,_⟩=>s) ?_ ?_⟩
          · rintro j σ G4 H4 hj ⟨kv4,lr4,z,rfl,s4',hd4,vr4,hq4,tl4⟩ s4;have hj':j<(ad u).length:=by rw [<-tlu.len];exact hj
            replace hd4:=s4 _ _ hd4;replace hq4:=s4 _ _ hq4;replace vr4:=vr4.imp (R':=CVq H H4 q (((ad u).take j).foldl (AA u) acc).1) λ x po v _ ⟨l,refs,c1,c2,c3,c4⟩=>⟨l,refs,c1,s4 _ _ c2,c3,c4⟩;have hin4:=IA (u:=u) ((ad u).take j) acc u hin;have sG4:=s4'.trans s4;obtain ⟨bx,ebx,hbx⟩:=tlu.at_ j hj';have hbx4:=sG4 _ _ (sE _ _ hbx);rw [ebx,EX _ _ _ hj'];generalize (ad u).getD j (false,0)=xx at hbx hbx4 ⊢;have g4:=(Good.go (u:=u) ((ad u).take j) g3 (λ x hx=>cl u huU x (List.mem_of_mem_take hx)) hin).1.bound;generalize ((ad u).take j).foldl (AA u) acc=ac at vr4 tl4 g4 hin4 ⊢;walk_at "w";refine ⟨d,_,rfl,DGet.t (k:=thK xx) hd4 hbx4,?_⟩;rcases vr4.val xx with ⟨v1,v2⟩ | ⟨_,_,_,vv,_,v1,_,v2⟩
            · rw [v1];have es:AA u ac xx=(ac.1++[(xx,some u)],ac.2++[xx]):=by unfold AA;rw [v2,if_neg (by decide)]
              rw [es];refine ⟨true,rfl,?_⟩;walk_at "w";rcases vr4.val u with ⟨_,w2⟩ | ⟨_,_,_,vu,_,w1,⟨lu,ru,rfl,hlu,nlu,tlu4,_⟩,_⟩
              · rw [has_iff.mpr hin4] at w2;cases w2
              refine ⟨d, .ref lu,rfl,w1▸DGet.t (k:=thK u) hd4 (sG4 _ _ (sE _ _ hbu)),?_⟩;walk_at "w";intro z1 hz1;walk_at "w";have sz1:=Ai (o:=HO.lst [V.ref bx]) hz1;have hrl:ru.length<=1000:=by
                rw [tlu4.len];exact Nat.le_trans (Mo _ _) (by omega)
              refine GL (SqL.of (sz1 _ _ hlu)) (SqL.of Ad) (by simp;omega) λ z2 hz2=> ?_;have sz2:=Ai (o:=HO.lst (ru++[V.ref bx])) hz2;have szz:=sz1.trans sz2;have hz2':upd (upd H4 z1 (HO.lst [V.ref bx])) z2 (HO.lst (ru++[V.ref bx])) z2=_:=Ad;have hz20:H4 z2=none:=sz1.free hz2;have nz2q:z2≠q:=(Ao hq4 hz20).symm;replace hd4:=szz _ _ hd4;replace hq4:=szz _ _ hq4;replace hbx4:=szz _ _ hbx4;have sG5:=sG4.trans szz;replace vr4:=vr4.imp (R':=CVq H (upd (upd H4 z1 (HO.lst [V.ref bx])) z2 (HO.lst (ru++[V.ref bx]))) q (ac.1++[(xx,some u)])) λ x po v hx ⟨l,refs,c1,c2,c3,c4⟩=>⟨l,refs,c1,szz _ _ c2,c3,by
                rw [MU (λ z=>by rw [<-z] at hx;rw [has_iff.mpr hx] at v2;cases v2)];exact c4.1,c4.2⟩
              generalize upd (upd H4 z1 (HO.lst [V.ref bx])) z2 (HO.lst (ru++[V.ref bx]))=H5 at hd4 hq4 hbx4 sG5 hz2' vr4 ⊢;walk_at "w";have hlen:kv4.length<sizeLine:=by
                rw [vr4.len];exact Nat.lt_of_le_of_lt (show _<=1000 by omega) (by decide)
              refine ⟨d,_,rfl,DPut.t (k:=thK xx) hd4 hbx4 hlen,?_⟩;rw [HY _ v1];walk_at "w";have hz2d:z2≠d:=CT hz2' hd4 (by intro z;cases z);have vr5:VR (CVq H (upd H5 d (HO.dT (kv4++[(thK xx,V.ref z2)]))) q (ac.1++[(xx,some u)])) (ac.1++[(xx,some u)]) (kv4++[(thK xx,V.ref z2)]):=by
                refine VR.snoc (vr4.imp λ x po v _ ⟨l,refs,c1,c2,c3,c4⟩=>⟨l,refs,c1,(Al (CT c2 hd4 (by intro z;cases z))).trans c2,c3,c4⟩) ⟨z2,_,rfl,(Al hz2d).trans hz2',nz2q,?_,(sE.trans sG4).free hz20⟩;rw [L8];exact tlu4.app (TL.one ⟨bx,rfl,hbx⟩)
              have hq5:upd H5 d (HO.dT (kv4++[(thK xx,V.ref z2)])) q=_:=(Al hqd.symm).trans hq4;have hd5:upd H5 d (HO.dT (kv4++[(thK xx,V.ref z2)])) d=_:=Ad;have s5:=GK (o:=HO.dT (kv4++[(thK xx,V.ref z2)])) sG5;generalize upd H5 d (HO.dT (kv4++[(thK xx,V.ref z2)]))=H6 at hq5 hd5 s5 vr5 ⊢;refine tyL (SqL.of hq5) ?_;walk_at "w";refine Ei hq5 ?_ ?_
              · rw [tl4.len];omega
              walk_at "w";exact ⟨_,_,_,rfl,Bd s5 hqE,(Al hqd).trans hd5,vr5.imp λ x po v _ ⟨l,refs,c1,c2,c3,c4⟩=>⟨l,refs,c1,(Al c3).trans c2,c3,c4⟩,Ad,tl4.app (TL.one ⟨bx,rfl,hbx⟩)⟩
            · rw [v1];have es:AA u ac xx=ac:=by unfold AA;rw [v2,if_pos rfl]
              rw [es];refine ⟨false,rfl,?_⟩;walk_at "w";exact ⟨kv4,lr4,_,rfl,sG4,hd4,vr4,hq4,tl4⟩
          · rintro σ H4 ⟨kv4,lr4,z,rfl,s4,hd4,vr4,hq4,tl4⟩;rw [tlu.len,List.take_length] at vr4 tl4;walk_at "w";exact ⟨kv4,lr4,_,_,rfl,s4,hd4,vr4,hq4,tl4⟩
        · rintro σ H3 ⟨kv3,lr,y,z,rfl,s3,hd3,vr3,hq3,tl3⟩;rw [tl.len,List.take_length] at vr3 tl3;walk_at "w";exact ⟨kv3,q,lr,_,_,rfl,sE.trans s3,hd3,vr3.imp λ x po v _ ⟨l,refs,c1,c2,_,c4⟩=>⟨l,refs,c1,c2,c4⟩,hq3,tl3⟩
    · have hnil:(lv ad one kk).2=[]:=by
        cases h0:(lv ad one kk).2 with
        | nil=>rfl
        | cons a as=>
          rw [h0] at hne;simp at hne
      have hend:lv ad one kk=((lv ad one kk).1,[]):=Prod.ext rfl hnil;walk_at "w";exact k H' d kvs _ sH hd hd' vr ⟨kk,hend⟩ (hend▸LA kk)
open MG
inductive Calm:Dt->Prop where
  | non:Calm .non
  | bl (b:Bool):Calm (.bl b)
  | int (i:Int):Calm (.int i)
  | str (z:Str):Calm (.str z)
  | tup {ds:List Dt} (h:∀ d∈ds,Calm d):Calm (.tup ds)
theorem Md (t:Th):Calm (dTh t):= .tup λ d hd=>by
  simp only [List.mem_cons,List.not_mem_nil,or_false] at hd;rcases hd with rfl | rfl
  · exact .str _
  · exact .int _
theorem MD {H:Hp} {n:Nat} {v:V} {d:Dt} {l:Addr} {xs:List V} {o:HO} (r:Rp H FT n v d) (c:Calm d) (hl:H l=some (.lst xs)):Rp (L2.upd H l o) FT n v d:=by
  induction r with
  | non=>exact .non
  | bl b=>exact .bl b
  | int i=>exact .int i
  | str z=>exact .str z
  | lst h p b l e ih=>cases c
  | @tup n a vs ds q b l' e ih=>
    cases c with
    | tup hc=>
      refine .tup ?_ b l' λ i v d h1 h2=>ih i v d h1 h2 (hc _ (List.mem_of_getElem? h2));rw [Al (CT q hl (by intro z;cases z))];exact q
def Ni (W:Addr->Prop) (H H':Hp):Prop:=∀ b o,H b=some o->¬ W b->H' b=some o
def InL (H:Hp) (m:Nat) (v:V) (B:Nat):Prop:=∃ (l:Addr) (ls:List V) (es:List Dt),v= .ref l/\H l=some (.lst ls)/\ls.length=es.length/\es.length<=B/\(∀ e∈es,Calm e)/\∀ (i:Nat) (x:V) (d:Dt),ls[i]?=some x->es[i]?=some d->Rp H FT m x d
theorem InL.same {H H':Hp} {m:Nat} {v:V} {B C:Nat} (h:InL H m v B) (s:Same H H') (le:B<=C):InL H' m v C:=by
  obtain ⟨l,ls,es,e,hl,ll,lb,c,el⟩:=h;exact ⟨l,ls,es,e,s _ _ hl,ll,Nat.le_trans lb le,c,λ i x d h1 h2=>(el i x d h1 h2).same s⟩
theorem InL.wr {H:Hp} {m:Nat} {v:V} {B:Nat} {l:Addr} {ls:List V} (h:InL H m v B) (hl:H l=some (.lst ls)):InL (upd H l (.lst (ls++[.str (Str.ofString "more")]))) m v (B+1):=by
  obtain ⟨l',ls',es,e,hl',ll,lb,c,el⟩:=h;have el':∀ (i:Nat) (x:V) (d:Dt),ls'[i]?=some x->es[i]?=some d->Rp (upd H l (.lst (ls++[.str (Str.ofString "more")]))) FT m x d:=λ i x d h1 h2=>MD (el i x d h1 h2) (c _ (List.mem_of_getElem? h2)) hl;by_cases q:l'=l
  · subst q;rw [hl] at hl';cases hl';refine ⟨l',_,es++[.str (Str.ofString "more")],e,Ad,by rw [List.length_append,List.length_append,ll];rfl,by rw [List.length_append];exact Nat.succ_le_succ lb,λ x hx=> ?_,λ i x d h1 h2=> ?_⟩
    · rcases List.mem_append.mp hx with z | z
      · exact c x z
      · rw [List.mem_singleton.mp z];exact .str _
    · rcases Nat.lt_or_ge i ls.length with z | z
      · rw [List.getElem?_append_left z] at h1;rw [List.getElem?_append_left (by omega)] at h2;exact el' i x d h1 h2
      · rw [List.getElem?_append_right z] at h1;rw [List.getElem?_append_right (by omega), <-ll] at h2;cases w:i - ls.length with
        | zero=>
          rw [w] at h1 h2;cases h1;cases h2;exact .str _
        | succ k=>rw [w] at h1;simp at h1
  · exact ⟨l',ls',es,e,by rw [Al q];exact hl',ll,Nat.le_succ_of_le lb,c,el'⟩
def Ba:Nat->Sp
  | 0=>λ _ _ _ _=>False
  | n+1=>λ vs H Q _=>∃ v d,vs=[v]/\Rp H FT n v d/\(((Calm d/\∀ H',Same H H'->Q .non H')\/∃ a xs,v= .ref a/\H a=some (.lst xs)/\BW d=true/\xs.length<=1000/\(∀ j,j<xs.length->InL H (n - 2) (xs.getD j .non) 1000)/\2<=n/\V.ref a∉xs/\∀ H',Ni (λ b=>b=a\/V.ref b∈xs) H H'->Q .non H')\/∃ a xs ds,v= .ref a/\H a=some (.lst xs)/\d= .lst ds/\(∀ x∈ds,Calm x)/\∀ H1,Same H H1->Q .non (upd H1 a (.lst (xs++[.str (Str.ofString "more")]))))
abbrev Bm:Stmt:=top 36
theorem sc__law_longer:FnScope ["_law_told","_law_one"] ["_law_told"] (Aj Bm):=⟨rfl,rfl,rfl,by decide +kernel,rfl,by decide +kernel,by decide +kernel⟩
theorem EN {n:Nat} {f:Addr} {fd:FuncData} (F:Fun K "_law_longer" "_law_longer" Bm f fd) (T:Txt K mg c) (c__law_longer:Aq P w K mg base "_law_longer" (n+1) ["_law_told"] (Ba n)):FnOk P w K mg base CX0 (n+2) f fd ["_law_told"] (Ba (n+1)):=by
  refine F.ok sc__law_longer (λ vs H Q E h=> ?_) (λ cdv A outer s H vs Q E hr h=> ?_)
  · obtain ⟨v,d,rfl,_⟩:=h;rfl
  · obtain ⟨v,d,rfl,rv,k⟩:=h;refine ⟨_,(Ae (A5 (A0 (Am (G1 (K:=K)) rfl (T.own _ (by decide)) boot_isinstance (Aa (pv 0) (Aa (A6 (Aa (B6 rfl (T.own _ (by decide)) B4) (Aa (B6 rfl (T.own _ (by decide)) AJ) Ab))) Ab)))) (Ah (Bv PassesOwn.never rfl (Nf (K:=K) (pv 0)) (AD (i:=1) sc__law_longer.nd rfl (Or.inl rfl)) (Ah (B3 (Ag c__law_longer hr (Aa (pv 1) Ab)))))) AC)
      (Ah (A5 (A0 (Am (CW (K:=K)) rfl (T.own _ (by decide)) boot_isinstance (Aa (pv 0) (Aa (B6 rfl (T.own _ (by decide)) AJ) Ab)))) (Ah (B3 (Ht (K:=K) PySem.F.plainAttrs_list PySem.F.slot_list_append PySem.F.type_list_append Bl (pv 0) (Aa G3 Ab)))) AC))),?_⟩
    walk_at "w";intro p hp;walk_at "w";have sp:=Ai (o:=HO.tup [V.ty "tuple",V.ty "list"]) hp;refine FD (ns:=["tuple","list"]) Ad (rv.same sp).ty (Lc d) ?_;have rv1:=rv.same sp;generalize upd H p (HO.tup [V.ty "tuple",V.ty "list"])=H1 at rv1 sp ⊢;refine ⟨_,rfl,?_⟩;replace k:=(show ∀ {A B C:Prop},(A\/B)\/C->B\/A\/C from λ h=>h.elim (λ h=>h.elim (λ a=> .inr (.inl a)) .inl) λ c=> .inr (.inr c)) k;rcases k with ⟨a,xs,rfl,ha,hd,lxs,inn,m2,na,kk⟩ | k
    · rw [show (BW d||BA d)=true from by rw [hd];rfl];have ha1:=sp _ _ ha;refine Iw ?_;walk_at "w";refine ⟨false,a,rfl,⟨_,SqL.of ha1⟩,Bb (H0:=λ b=>if b=a then some (.lst xs) else none) (Jn (tp:=false) (SqL.of (if_pos rfl))) (λ i σ H3=>∃ y,σ=[some (.ref a),y]/\Ni (λ b=>V.ref b∈xs) H H3/\H3 a=some (.lst xs)/\∀ j,j<xs.length->InL H3 (n - 2) (xs.getD j .non) (1000+i)) ⟨_,rfl,λ b o e _=>sp _ _ e,ha1,λ j hj=>(inn j hj).same sp (Nat.le_refl _)⟩ (λ i σ H3 ⟨_,_,_,h3,_⟩ b o e=> ?_) ?_ ?_⟩
      · by_cases c:b=a
        · have e:(if b=a then some (HO.lst xs) else none)=some o:=e;rw [if_pos c] at e;cases e;rw [c];exact h3
        · have e:(if b=a then some (HO.lst xs) else none)=some o:=e;rw [if_neg c] at e;cases e
      · rintro i σ G H3 hi ⟨y,rfl,sx,h3,il⟩ s3;obtain ⟨l,ls,es,el,hl,ll,lb,cm,ee⟩:=il i hi;have mem:V.ref l∈xs:=by
          rw [<-el];exact L2.getD_mem hi
        have hl3:=s3 _ _ hl;have ee3:∀ (i:Nat) (x:V) (d:Dt),ls[i]?=some x->es[i]?=some d->Rp H3 FT (n - 2) x d:=λ i x d h1 h2=>(ee i x d h1 h2).same s3;rw [el];walk_at "w";obtain ⟨m,rfl⟩:∃ m,n=m+2:=⟨n - 2,by omega⟩;refine ⟨_, .lst es,rfl, .lst hl3 trivial (by omega) ll ee3, .inr ⟨l,ls,es,rfl,hl3,rfl,cm,λ H4 s4=> ?_⟩⟩;walk_at "w";have nal:a≠l:=λ z=>na (z▸mem);refine ⟨_,rfl,λ b o e nb=> ?_,?_,λ j hj=> ?_⟩
        · rw [Al (λ z=>nb (show V.ref b∈xs by rw [z];exact mem))];exact s4 _ _ (s3 _ _ (sx b o e nb))
        · rw [Al nal];exact s4 _ _ (s3 _ _ h3)
        · exact ((il j hj).same (s3.trans s4) (Nat.le_refl _)).wr (s4 _ _ hl3)
      · rintro σ H3 ⟨y,rfl,sx,h3,il⟩;walk_at "w";refine BD (.lst h3) (Ea (.lst [])) ?_;refine ⟨true,rfl,?_⟩;walk_at "w";refine tyL (SqL.of h3) ?_;walk_at "w";refine Ei h3 (by omega) ?_;walk_at "w";refine kk _ λ b o e nb=> ?_;rw [Al (λ z=>nb (.inl z))];exact sx b o e λ z=>nb (.inr z)
    have fin:∀ H3 (y:Option V),Same H1 H3->OF (tB (tCB (Kw K) (HZ (LU 0) (HZ (tC (.ty "list")) Kg)))) (LM (tBM K "list" rAppend (LU 0) (HZ (tC (.str (Str.ofString "more"))) Kg))) LL { nx:=λ _ H'=>Q V.non H',rt:=Q } [some v,y] H3:=λ H3 y s3=>by
      walk_at "w";refine BD (rv1.same s3).ty (Ea d) ?_;refine ⟨_,rfl,?_⟩;rcases k with ⟨cm,kk⟩ | ⟨a,xs,ds,rfl,ha,rfl,cm,kk⟩
      · have e:BW d=false:=by cases cm <;> rfl
        rw [e];walk_at "w";exact kk H3 (sp.trans s3)
      · refine Iw ?_;walk_at "w";have ha3:=(sp.trans s3) _ _ ha;refine tyL (SqL.of ha3) ?_;walk_at "w";refine Ei ha3 ?_ ?_
        · obtain ⟨m,a',vs',e1,e2,h',_,_,b',_⟩:=Kz rv;cases e2;rw [ha] at h';cases h';omega
        · walk_at "w";exact kk H3 (sp.trans s3)
    refine JO (λ hc=> ?_) (λ hc=> ?_)
    · obtain ⟨m,a,xs,rfl,rfl,sa,la,ba,ea⟩:=rv1.seq (K:=K) hc;have ci:∀ x∈CK d,Calm x:=by
        rcases k with ⟨cm,_⟩ | ⟨_,_,ds,_,_,rfl,cm,_⟩
        · cases cm with
          | tup h=>exact h
          | _=>cases hc
        · exact cm
      walk_at "w";refine ⟨BA d,a,rfl,⟨_,sa⟩,EZ (Jn sa) (λ i σ H3=>∃ y,σ=[some (.ref a),y]/\Same H1 H3) ⟨_,rfl,Same.refl _⟩ (λ i σ H3 ⟨_,_,s⟩=>s) ?_ ?_⟩
      · rintro i σ H' H3 hi ⟨y,rfl,s'⟩ s3;have sH:=s'.trans s3;have hd:i<(CK d).length:=by rw [<-la];exact hi
        walk_at "w";refine ⟨_,(CK d)[i],rfl,(ea i (xs.getD i .non) _ (by rw [L2.getD_el hi];simp [hi]) (List.getElem?_eq_getElem hd)).same sH, .inl (.inl ⟨ci _ (List.getElem_mem hd),λ H4 s4=> ?_⟩)⟩;walk_at "w";exact ⟨_,rfl,sH.trans s4⟩
      · rintro σ H3 ⟨y,rfl,s3⟩;walk_at "v";exact fin H3 y s3
    · walk_at "v";exact fin H1 none (Same.refl _)
theorem C8 {f:Addr} {fd:FuncData} (D:DefAt K mg "_law_longer" Bm ["_law_told"] f fd) (T:Txt K mg c):∀ n,FnOk P w K mg base CX0 (n+1) f fd ["_law_told"] (Ba n)
  | 0=>⟨λ _ _ _ _ h=>h.elim,λ _ _ _ _ _ _ _ _ _ _ _ _ _ h=>h.elim⟩
  | n+1=>EN D.fn T (D.call (C8 D T n))
open MG
def rkK:List Key->Nat
  | [.inr x, .inl i]=>(if x=nm true then 100000 else 0)+i.toNat
  | _=>0
def rkT (t:Th):Nat:=(if t.1=true then 100000 else 0)+t.2
theorem Gh (t:Th):rkK (thK t)=rkT t:=by
  obtain ⟨b,k⟩:=t;cases b with
  | true=>show (if nm true=nm true then 100000 else 0)+((k:Nat):Int).toNat=_;rw [if_pos rfl,Int.toNat_natCast];rfl
  | false=>show (if nm false=nm true then 100000 else 0)+((k:Nat):Int).toNat=_;rw [if_neg (by decide),Int.toNat_natCast];rfl
theorem MT {t u:Th} (ht:t.2<100000) (hu:u.2<100000) (h:rkT t=rkT u):t=u:=by
  obtain ⟨a,i⟩:=t;obtain ⟨b,j⟩:=u;unfold rkT at h;cases a <;> cases b <;> simp at h ht hu ⊢ <;> omega
theorem NC {a b:Bool} {i j:Nat} (hi:i<100000) (hj:j<100000):HT.lexB (nm a) (i:Int) (nm b) (j:Int)=decide (rkT (a,i)<rkT (b,j)):=by
  unfold HT.lexB rkT;cases a <;> cases b
  · rw [if_pos rfl,decide_eq_decide];simp
  · rw [if_neg (by decide),decide_eq_true (show ((nm false).cps.toList<(nm true).cps.toList) by decide)];symm;rw [decide_eq_true_eq];simp;omega
  · rw [if_neg (by decide),decide_eq_false (show ¬ ((nm true).cps.toList<(nm false).cps.toList) by decide)];symm;rw [decide_eq_false_iff_not];simp;omega
  · rw [if_pos rfl,decide_eq_decide];simp
theorem KB {ts:List Th} (h:∀ t∈ts,t.2<100000):LexOk rkK (ts.map thK) where
  shp:=λ k hk=>by
    obtain ⟨t,_,rfl⟩:=List.mem_map.mp hk;exact ⟨_,_,rfl⟩
  inj:=λ k hk k' hk' e=>by
    obtain ⟨t,ht,rfl⟩:=List.mem_map.mp hk;obtain ⟨u,hu,rfl⟩:=List.mem_map.mp hk';rw [Gh,Gh] at e;rw [MT (h t ht) (h u hu) e]
  ord:=λ x i y j hx hy=>by
    obtain ⟨t,ht,e1⟩:=List.mem_map.mp hx;obtain ⟨u,hu,e2⟩:=List.mem_map.mp hy;rw [<-e1, <-e2,Gh,Gh];obtain ⟨a,k⟩:=t;obtain ⟨b,l⟩:=u;unfold thK at e1 e2;injection e1 with p1 p2;injection e2 with q1 q2;injection p2 with p2 _;injection q2 with q2 _;injection p1 with p1;injection q1 with q1;injection p2 with p2;injection q2 with q2;subst p1 p2 q1 q2;exact NC (h _ ht) (h _ hu)
theorem MP (n p:Nat) (hn:n<100000):(Ap n p).Pairwise (λ a b=>rkT a<rkT b):=by
  unfold Ap;rw [List.pairwise_append];refine ⟨?_,?_,?_⟩
  · rw [List.pairwise_map];refine List.pairwise_lt_range.imp λ h=> ?_;unfold rkT;simp;exact h
  · rw [List.pairwise_map];refine List.pairwise_lt_range.imp λ h=> ?_;unfold rkT;simp;exact h
  · intro a ha b hb;obtain ⟨i,hi,rfl⟩:=List.mem_map.mp ha;obtain ⟨j,hj,rfl⟩:=List.mem_map.mp hb;have:=List.mem_range.mp hi;unfold rkT;simp;omega
theorem VR.keys {R:Th->Option Th->V->Prop} {vis:MG.Vis} {kvs:List (List Key × V)} (h:VR R vis kvs):kvs.map (·.1)=(vis.map (·.1)).map thK:=by
  induction h with
  | nil=>rfl
  | cons h t ih=>simp only [List.map_cons,ih]
theorem Ir {α:Type} {f:α->Nat} {l:List α} (h:l.Pairwise (λ a b=>f a<f b)):l.Nodup:=h.imp λ q e=>by subst e;exact Nat.lt_irrefl _ q
theorem Mp {n p:Nat} {vis:MG.Vis} {ms:List (List Key)} (hn:n<=60) (hp:p<=60) (lvv:Lv (Ap n p) (vis,[])) (pm:ms.Perm ((vis.map (·.1)).map thK)) (pw:ms.Pairwise (λ a b=>rkK a<rkK b)):ms=((Ap n p).filter (has vis)).map thK:=by
  have up:=MP n p (by omega);refine Nh rkK (pm.trans (List.Perm.map _ ?_)) pw ?_
  · refine (List.perm_ext_iff_of_nodup lvv.nd ((Ir up).filter _)).mpr λ t=> ?_;rw [List.mem_filter,has_iff];exact ⟨λ h=>⟨lvv.sub t h,h⟩,λ h=>h.2⟩
  · rw [List.pairwise_map];refine (up.filter _).imp λ h=> ?_;rw [Gh,Gh];exact h
def lfL (n:Nat) (rs:List Nat) (vis:MG.Vis):List Th:=(Ap n rs.length).filter (has vis)
def BP (c:Cs):Sp:=λ vs H Q _=>∃ x n rs b,∃ one:Th,vs=[.ref x, .ref b]/\ClAt c.Cloth H x n rs/\ClOk n rs/\n+rs.length<64/\H b=some (.tup (thV one))/\one∈Ap n rs.length/\
  ∀ H' q refs vis,Same H H'->H q=none->H' q=some (.lst refs)->TL H' refs (lfL n rs vis)->End (ovL n rs) one vis->Q (.ref q) H'
abbrev B8:Stmt:=top 30
theorem Fz:FnScope ["cloth","thread"] ["cloth","thread"] (Aj B8):=⟨rfl,rfl,rfl,by decide +kernel,rfl,by decide +kernel,by decide +kernel⟩
theorem Fh {f:Addr} {fd:FuncData} (F:Fun K "lifted_with" "lifted_with" B8 f fd) (T:Txt K mg c) (c_overs_of:Aq P w K mg base "overs_of" 5 ["cloth"] (EG c)) (c_threads_ahead:Aq P w K mg base "threads_ahead" 1 ["overs","one"] Co):FnOk P w K mg base CX0 6 f fd ["cloth","thread"] (BP c):=by
  refine F.ok Fz (λ vs H Q E h=> ?_) (λ cdv A outer s H vs Q E hr h=> ?_)
  · obtain ⟨x,n,rs,b,one,rfl,_⟩:=h;rfl
  · obtain ⟨x,n,rs,b,one,rfl,C0,ok,h64,hb,h1,k⟩:=h;have n2:=ok.n2;have p2:=ok.p2;refine ⟨_,(Ah (An (Am (J3 rfl) rfl (T.own _ (by decide)) GE (Aa (Ag c_threads_ahead (hr.mono (by decide)) (Aa (Ag c_overs_of hr (Aa (pv 0) Ab)) (Aa (pv 1) Ab))) Ab)))),?_⟩;walk_at "w";refine ⟨x,n,rs,rfl,C0,ok,λ H1 o kvo s1 ho ho1 ov=> ?_⟩;walk_at "w";refine ⟨o,b,kvo,Ap n rs.length,ovL n rs,one,rfl,ho1,s1 _ _ hb,ov,h1,λ t _ y hy=>Eo hy,by rw [BQ];omega,λ H2 d kvs vis s2 hd hd2 vr en lvv=> ?_⟩;have s12:=s1.trans s2;have hlv:vis.length<=n+rs.length:=by
      have:=lvv.len
      rwa [BQ] at this
    refine Ly rkK hd2 (by rw [vr.len];omega) (by
      rw [vr.keys];refine KB λ t ht=> ?_;have:=mem_allT.mp (lvv.sub t ht);unfold okT at this;have h2:=this.2;split at h2 <;> omega) λ l bs ms hl pm pw hbl hat=> ?_
    rw [vr.keys] at pm;have e:=Mp n2 p2 lvv pm pw;subst e;have s3:=Ai (o:=HO.lst (bs.map V.ref)) hl;refine k _ l _ vis (s12.trans s3) (s12.free hl) Ad ⟨?_,λ i hi=> ?_⟩ en
    · rw [List.length_map,hbl,List.length_map];rfl
    · have hi':i<(((Ap n rs.length).filter (has vis)).map thK).length:=by rw [List.length_map];exact hi
      have hbi:i<bs.length:=by rw [hbl];exact hi'
      have z:=hat i hi';refine ⟨bs.getD i 0,?_,?_⟩
      · rw [List.getD_eq_getElem?_getD,List.getElem?_map,List.getElem?_eq_getElem hbi,List.getD_eq_getElem?_getD,List.getElem?_eq_getElem hbi];rfl
      · refine s3 _ _ ?_;unfold lfL at hi ⊢;rw [z,List.getD_eq_getElem?_getD,List.getElem?_map,List.getElem?_eq_getElem hi];show some (HO.tup ((thK _).map kV))=_;rw [QE,List.getD_eq_getElem?_getD,List.getElem?_eq_getElem hi];rfl
def DF (n:Nat) (rs:List Nat):List Nat:=rs.map λ r=>(2 ^ n - 1) ^^^ r
theorem KZ {n:Nat} {rs:List Nat} (ok:ClOk n rs):ClOk n (DF n rs):=⟨ok.n1,ok.n2,by unfold DF;rw [List.length_map];exact ok.p1,by unfold DF;rw [List.length_map];exact ok.p2,λ r hr=>by
  obtain ⟨q,hq,rfl⟩:=List.mem_map.mp hr;have h1:=ok.lt q hq;have h2:2 ^ n - 1<2 ^ n:=Nat.sub_lt (Nat.two_pow_pos n) (by decide);exact Nat.xor_lt_two_pow h2 h1⟩
def ED (c:Cs):Sp:=λ vs H Q _=>∃ x n rs,vs=[.ref x]/\ClAt c.Cloth H x n rs/\ClOk n rs/\∀ H' y,Same H H'->H y=none->ClAt c.Cloth H' y n (DF n rs)->Q (.ref y) H'
abbrev Dz:Stmt:=top 20
theorem Hj:FnScope ["cloth"] ["cloth"] (Aj Dz):=⟨rfl,rfl,rfl,by decide +kernel,rfl,by decide +kernel,by decide +kernel⟩
theorem Hi {f:Addr} {fd:FuncData} (F:Fun K "inverted" "inverted" Dz f fd) (T:Txt K mg c) (m_Cloth:IM P w K mg base "Cloth" c.Cloth 4 ["self","ends","rows"] (AI c)) (d_Cloth_ends:BX P w K mg base c.Cloth "ends" 1 ["self"] (Bp c)) (c_other_mask:Aq P w K mg base "other_mask" 2 ["mask","most"] Cg):FnOk P w K mg base CX0 6 f fd ["cloth"] (ED c):=by
  refine F.ok Hj (λ vs H Q E h=> ?_) (λ cdv A outer s H vs Q E hr h=> ?_)
  · obtain ⟨x,n,rs,rfl,_⟩:=h;rfl
  · obtain ⟨x,n,rs,rfl,C0,ok,k⟩:=h;have C1:=C0;obtain ⟨dx,t,h1,h2⟩:=C0;have n2:=ok.n2;have p2:=ok.p2;refine ⟨_,(Ah (An (DY m_Cloth hr (Aa (Bh (pv 0) d_Cloth_ends (hr.mono (by decide))) (Aa (Bu (Pn (K:=K) (Ia (K:=K) (pv 0) rfl)) (λ _ _ _ _=>AU) (λ _ _ _ _=>(Ag c_other_mask (hr.mono (by decide)) (Aa (pv 0) (Aa (Bh (pv 1) d_Cloth_ends (hr.mono (by decide))) Ab))))) Ab))))),?_⟩;walk_at "w";refine ⟨_,_,_,rfl,h1,rfl,?_⟩;walk_at "w";refine ⟨x,n,rs,rfl,C1,?_⟩;walk_at "w";refine ⟨_,_,_,_,_,rfl,h1,T.kd_Cloth.cl,T.na_Cloth_rows,rfl,?_⟩;walk_at "w";refine ⟨t,rfl,⟨_,SqT.of h2⟩,λ D hD=> ?_⟩;refine Bk (G:=λ i=>(((2 ^ n - 1) ^^^ rs.getD i 0:Nat):Int)) (Mm (SqT.of h2) rfl) hD (by rw [List.length_map];omega) ?_ ?_
    · intro i H' R hi s kk;rw [Bs hi];walk_at "w";refine ⟨_,_,_,rfl,s _ _ h1,rfl,?_⟩;walk_at "w";refine ⟨x,n,rs,rfl,C1.same s,?_⟩;walk_at "w";exact ⟨_,n,rfl,by omega,kk H' (Same.refl _)⟩
    · intro H1 s1 hl1;have e:((List.range rs.length).map λ i=>(2 ^ n - 1) ^^^ rs.getD i 0)=DF n rs:=A8 (λ r=>(2 ^ n - 1) ^^^ r) rs 0;rw [F5,List.length_map,e] at hl1;walk_at "w";refine MN hl1 (KZ ok) λ H2 y s2 hy C2=> ?_;exact k H2 y (s1.trans s2) (s1.free hy) C2
theorem KC (n:Nat) (rs:List Nat) (one:Th) (h1:one∈Ap n rs.length):∃ vis,End (ovL n rs) one vis:=by
  have cl:∀ t∈Ap n rs.length,∀ x∈ovL n rs t,x∈Ap n rs.length:=λ t _ x hx=>Eo hx;have LA:=Lv.all cl h1;have nx:∀ k,(lv (ovL n rs) one (k+1)).1.length=(lv (ovL n rs) one k).1.length+(lv (ovL n rs) one (k+1)).2.length:=λ k=>(Lv.next cl (LA k)).2;have go:∀ k,(∃ vis,End (ovL n rs) one vis)\/k<=(lv (ovL n rs) one k).1.length:=λ k=>by
    induction k with
    | zero=>exact .inr (Nat.zero_le _)
    | succ k ih=>
      rcases ih with z | z
      · exact .inl z
      · by_cases q:(lv (ovL n rs) one (k+1)).2=[]
        · exact .inl ⟨(lv (ovL n rs) one (k+1)).1,k+1,Prod.ext rfl q⟩
        · have:=nx k;have:=List.length_pos_iff.mpr q;exact .inr (by omega)
  rcases go ((Ap n rs.length).length+1) with z | z
  · exact z
  · have:=(LA ((Ap n rs.length).length+1)).len;omega
theorem E4 {n:Nat} {rs:List Nat} {p e:Nat} (ok:ClOk n rs) (hp:p<rs.length) (he:e<n):((DF n rs).getD p 0).testBit e= !(rs.getD p 0).testBit e:=by
  have e1:(DF n rs).getD p 0=(2 ^ n - 1) ^^^ rs.getD p 0:=by
    unfold DF;rw [List.getD_eq_getElem?_getD,List.getElem?_map,List.getElem?_eq_getElem hp,List.getD_eq_getElem?_getD,List.getElem?_eq_getElem hp];rfl
  rw [e1,Nat.testBit_xor,Nat.testBit_two_pow_sub_one,decide_eq_true he,Bool.true_xor]
theorem Ks {n:Nat} {rs:List Nat} {t x:Th}:x∈ovL n rs t↔okT n rs.length x/\x.1≠t.1/\(if t.1=true then (rs.getD (t.2 - 1) 0).testBit (x.2 - 1)=true else (rs.getD (x.2 - 1) 0).testBit (t.2 - 1)=false):=by
  obtain ⟨a,i⟩:=t;obtain ⟨b,j⟩:=x;unfold ovL okT;cases a with
  | true=>
    rw [if_pos rfl];simp only [List.mem_map,List.mem_filter,List.mem_range,if_true];constructor
    · rintro ⟨k,⟨l,⟨h1,h2⟩,rfl⟩,e⟩;injection e with e1 e2;subst e1 e2;simp;exact ⟨by omega,h2⟩
    · rintro ⟨⟨h1,h2⟩,h3,h4⟩;cases b with
      | true=>exact absurd rfl h3
      | false=>
        simp at h2;exact ⟨j,⟨j - 1,⟨by omega,h4⟩,by omega⟩,rfl⟩
  | false=>
    rw [if_neg (by simp)];simp only [List.mem_map,List.mem_filter,List.mem_range,Bool.false_eq_true,if_false];constructor
    · rintro ⟨k,⟨l,⟨h1,h2⟩,rfl⟩,e⟩;injection e with e1 e2;subst e1 e2;simp at h2 ⊢;exact ⟨by omega,h2⟩
    · rintro ⟨⟨h1,h2⟩,h3,h4⟩;cases b with
      | false=>exact absurd rfl h3
      | true=>
        simp at h2;exact ⟨j,⟨j - 1,⟨by omega,by simp;exact h4⟩,by omega⟩,rfl⟩
theorem Cw (n:Nat) (rs:List Nat):(DF n rs).length=rs.length:=List.length_map ..
theorem Jp {n:Nat} {rs:List Nat} (ok:ClOk n rs) {t x:Th} (ht:t∈Ap n rs.length):x∈ovL n rs t↔x∈Ap n rs.length/\t∈ovL n (DF n rs) x:=by
  rw [Ks,Ks,mem_allT,Cw];rw [mem_allT] at ht;obtain ⟨a,i⟩:=t;obtain ⟨b,j⟩:=x;unfold okT at*;constructor
  · rintro ⟨h1,h2,h3⟩;refine ⟨h1,ht,Ne.symm h2,?_⟩;cases a <;> cases b <;> simp only [ne_eq,not_true_eq_false,Bool.false_eq_true,if_false,if_true,not_false_eq_true,reduceCtorEq] at h1 h2 h3 ht ⊢
    · rw [E4 ok (by omega) (by omega),h3];rfl
    · rw [E4 ok (by omega) (by omega),h3];rfl
  · rintro ⟨h1,_,h2,h3⟩;refine ⟨h1,Ne.symm h2,?_⟩;cases a <;> cases b <;> simp only [ne_eq,not_true_eq_false,Bool.false_eq_true,if_false,if_true,not_false_eq_true,reduceCtorEq] at h1 h2 h3 ht ⊢
    · rw [E4 ok (by omega) (by omega)] at h3;simpa using h3
    · rw [E4 ok (by omega) (by omega)] at h3;simpa using h3
def Ji (n:Nat) (rs:List Nat):Prop:=∀ t∈Ap n rs.length,∀ x∈Ap n rs.length,Rch (ovL n rs) t x
theorem IP {n:Nat} {rs:List Nat} (ok:ClOk n rs) {one:Th} {v w:MG.Vis} (h1:one∈Ap n rs.length) (a:End (ovL n rs) one v) (b:End (ovL n (DF n rs)) one w):
    ((lfL n rs v).length=n+rs.length/\(lfL n (DF n rs) w).length=n+rs.length)↔Ji n rs:=by
  unfold lfL Ji;rw [Cw, <-BQ n rs.length,E7,E7];simp only [a.iff,b.iff];refine Lu h1 (λ t _ x hx=>Eo hx) (λ t _ x hx=>by have:=Eo hx;rwa [Cw] at this) (λ t ht x hx=>((Jp ok ht).mp hx).2) (λ t ht x hx=> ?_);have hx':x∈Ap n rs.length:=by have:=Eo hx;rwa [Cw] at this
  exact (Jp ok hx').mpr ⟨ht,hx⟩
open Classical in
def Gj (n:Nat) (rs:List Nat):Bool:=decide (Ji n rs)
open Classical in
theorem Fq {n:Nat} {rs:List Nat} {b:Bool} (h:b=true↔Ji n rs):b=Gj n rs:=by
  unfold Gj;cases b with
  | true=>exact (decide_eq_true (h.mp rfl)).symm
  | false=>exact (decide_eq_false λ z=>by have:=h.mpr z;cases this).symm
def Fa (c:Cs):Sp:=λ vs H Q _=>∃ x n rs,vs=[.ref x]/\ClAt c.Cloth H x n rs/\ClOk n rs/\n+rs.length<64/\∀ H',Same H H'->Q (.bl (Gj n rs)) H'
abbrev GF:Stmt:=top 31
theorem sc_hangs:FnScope ["cloth","many","one"] ["cloth"] (Aj GF):=⟨rfl,rfl,rfl,by decide +kernel,rfl,by decide +kernel,by decide +kernel⟩
theorem LG {f:Addr} {fd:FuncData} (F:Fun K "hangs" "hangs" GF f fd) (T:Txt K mg c) (d_Cloth_ends:BX P w K mg base c.Cloth "ends" 1 ["self"] (Bp c)) (d_Cloth_picks:BX P w K mg base c.Cloth "picks" 1 ["self"] (A7 c)) (c_lifted_with:Aq P w K mg base "lifted_with" 6 ["cloth","thread"] (BP c)) (c_inverted:Aq P w K mg base "inverted" 6 ["cloth"] (ED c)):FnOk P w K mg base CX0 7 f fd ["cloth"] (Fa c):=by
  refine F.ok sc_hangs (λ vs H Q E h=> ?_) (λ cdv A outer s H vs Q E hr h=> ?_)
  · obtain ⟨x,n,rs,rfl,_⟩:=h;rfl
  · obtain ⟨x,n,rs,rfl,C0,ok,h64,k⟩:=h;have C1:=C0;obtain ⟨dx,t,h1,h2⟩:=C0;have n1:=ok.n1;refine ⟨_,(Ae (Ar (i:=1) sc_hangs.nd rfl (Or.inl rfl) (Af Az (Bh (pv 0) d_Cloth_ends (hr.mono (by decide))) (Bh (pv 0) d_Cloth_picks (hr.mono (by decide)))))
      (Ae (Ar (i:=2) sc_hangs.nd rfl (Or.inl rfl) (A6 (Aa (Jx T.k_END) (Aa Ac Ab))))
      (Ah (An (El (Bo By (Am (BZ (K:=K)) rfl (T.own _ (by decide)) boot_len (Aa (Ag c_lifted_with hr (Aa (pv 0) (Aa (pv 2) Ab))) Ab)) (pv 1) (AF _)) (Et (Bo By (Am (BZ (K:=K)) rfl (T.own _ (by decide)) boot_len (Aa (Ag c_lifted_with hr (Aa (Ag c_inverted hr (Aa (pv 0) Ab)) (Aa (pv 2) Ab))) Ab)) (pv 1) (AF _)))))))),?_⟩
    walk_at "w";refine ⟨_,_,_,rfl,h1,rfl,?_⟩;walk_at "w";refine ⟨x,n,rs,rfl,C1,?_⟩;walk_at "w";refine ⟨_,_,_,rfl,h1,rfl,?_⟩;walk_at "w";refine ⟨x,n,rs,rfl,C1,?_⟩;walk_at "w";intro b hb;walk_at "w";have s1:=Ai (o:=HO.tup [V.str (Str.ofString "end"),V.int 1]) hb;have hb1:upd H b (HO.tup [V.str (Str.ofString "end"),V.int 1]) b=some (.tup (thV (false,1))):=Ad;generalize upd H b (HO.tup [V.str (Str.ofString "end"),V.int 1])=H1 at s1 hb1 ⊢;have o1:((false,1):Th)∈Ap n rs.length:=mem_allT.mpr ⟨Nat.le_refl _,by show 1<=n;exact n1⟩;refine ⟨x,n,rs,b,(false,1),rfl,C1.same s1,ok,h64,hb1,o1,λ H2 q refs v s2 hq hq2 tl en=> ?_⟩;walk_at "w";refine AT (SqL.of hq2) ?_;walk_at "w";have l1:refs.length=(lfL n rs v).length:=tl.len;refine DS (λ e=> ?_) (λ e=> ?_)
    · walk_at "w";refine ⟨x,n,rs,rfl,C1.same (s1.trans s2),ok,λ H3 y s3 hy C3=> ?_⟩;walk_at "w";refine ⟨y,n,DF n rs,b,(false,1),rfl,C3,KZ ok,by rw [Cw];exact h64,(s2.trans s3) _ _ hb1,by rw [Cw];exact o1,λ H4 q4 refs4 w4 s4 _ hq4 tl4 en4=> ?_⟩;walk_at "w";refine AT (SqL.of hq4) ?_;walk_at "w";have l2:refs4.length=(lfL n (DF n rs) w4).length:=tl4.len;refine Eq.mpr (congrArg (λ b=>Q (V.bl b) H4) (Fq (n:=n) (rs:=rs) ?_)) (k H4 (((s1.trans s2).trans s3).trans s4))
      · rw [decide_eq_true_eq, <-IP ok o1 en en4];constructor
        · intro z;exact ⟨by omega,by omega⟩
        · intro z;omega
    · refine Eq.mpr (congrArg (λ b=>Q (V.bl b) H2) (Fq (n:=n) (rs:=rs) ?_)) (k H2 (s1.trans s2))
      · refine ⟨λ z=>(by cases z),λ z=> ?_⟩;obtain ⟨w4,en4⟩:=KC n (DF n rs) (false,1) (by rw [Cw];exact o1);have:=(IP ok o1 en en4).mpr z;omega
open MG
theorem TL.drop {H:Hp} {vs:List V} {ts:List Th} (h:TL H vs ts) (k:Nat):TL H (vs.drop k) (ts.drop k):=by
  refine ⟨by rw [List.length_drop,List.length_drop,h.len],λ i hi=> ?_⟩;rw [List.length_drop] at hi;have:=h.at_ (k+i) (by omega);rw [List.getD_eq_getElem?_getD,List.getElem?_drop, <-List.getD_eq_getElem?_getD,List.getD_eq_getElem?_getD (l:=ts.drop k),List.getElem?_drop, <-List.getD_eq_getElem?_getD];exact this
theorem TL.take {H:Hp} {vs:List V} {ts:List Th} (h:TL H vs ts) (k:Nat):TL H (vs.take k) (ts.take k):=by
  refine ⟨by rw [List.length_take,List.length_take,h.len],λ i hi=> ?_⟩;rw [List.length_take] at hi;have:=h.at_ i (by omega);rw [List.getD_eq_getElem?_getD,List.getElem?_take_of_lt (by omega), <-List.getD_eq_getElem?_getD,List.getD_eq_getElem?_getD (l:=ts.take k),List.getElem?_take_of_lt (by omega), <-List.getD_eq_getElem?_getD];exact this
theorem Re {B D:Bool} {T:TE} {σ:L2.St} {H:Hp} {Kt:VK} (hT:Kt (.bl D) H->T σ H Kt) (h:Kt (.bl (B&&D)) H):if B=true then T σ H Kt else Kt (.bl false) H:=by
  cases B with
  | true=>rw [if_pos rfl];exact hT h
  | false=>rw [if_neg (by decide)];exact h
theorem LF (ts:List Th):∀ x∈ts.map dTh,Calm x:=λ x hx=>by
  obtain ⟨t,_,rfl⟩:=List.mem_map.mp hx;exact Md t
def Dw (c:Cs):Sp:=λ vs H Q _=>∃ (x:Addr) (n:Nat) (rs:List Nat) (a:Addr) (N:Nat),vs=[.ref x,nV n, .ref a,nV N]/\ClAt c.Cloth H x n rs/\ClOk n rs/\n+rs.length<64/\H a=some (.lst (rs.map nV))/\∀ H',Same H H'->Q (.bl true) H'
abbrev CA:Stmt:=top 46
theorem sc__law_right:FnScope ["_law_weave_here","_law_ends","_law_rows","_law_number","_law_some","_law_uppers_here","_law_whole","_law_spot","_law_thread","_law_reach_here","_law_due","_law_told"] ["_law_weave_here","_law_ends","_law_rows","_law_number"] (Aj CA):=⟨rfl,rfl,rfl,by decide +kernel,rfl,by decide +kernel,by decide +kernel⟩
theorem FL {f:Addr} {fd:FuncData} (F:Fun K "_law_right" "_law_right" CA f fd) (T:Txt K mg c) (c__law_threads:Aq P w K mg base "_law_threads" 1 ["_law_ends","_law_picks"] Bw) (c__law_uppers:Aq P w K mg base "_law_uppers" 2 ["_law_ends","_law_rows"] C4) (c__law_reach:Aq P w K mg base "_law_reach" 1 ["_law_uppers_here","_law_thread"] Dv) (c_lifted_with:Aq P w K mg base "lifted_with" 6 ["cloth","thread"] (BP c)) (c_hangs:Aq P w K mg base "hangs" 7 ["cloth"] (Fa c)) (c__law_alike:Aq P w K mg base "_law_alike" (3+1) ["_law_found","_law_due"] (AZ 3)) (c__law_longer:Aq P w K mg base "_law_longer" (3+1) ["_law_told"] (Ba 3)):FnOk P w K mg base CX0 8 f fd ["_law_weave_here","_law_ends","_law_rows","_law_number"] (Dw c):=by
  refine F.ok sc__law_right (λ vs H Q E h=> ?_) (λ cdv A outer s H vs Q E hr h=> ?_)
  · obtain ⟨x,n,rs,a,N,rfl,_⟩:=h;rfl
  · obtain ⟨x,n,rs,a,N,rfl,C0,ok,h64,ha,k⟩:=h;have hu1:=hr.units1;have n1:=ok.n1;have n2:=ok.n2;have p2:=ok.p2;refine ⟨_,(Ae (Ar (i:=4) sc__law_right.nd rfl (Or.inl rfl) (Ag c__law_threads (hr.mono (by decide)) (Aa (pv 1) (Aa (Am (BZ (K:=K)) rfl (T.own _ (by decide)) boot_len (Aa (pv 2) Ab)) Ab))))
      (Ae (Ar (i:=5) sc__law_right.nd rfl (Or.inl rfl) (Ag c__law_uppers (hr.mono (by decide)) (Aa (pv 1) (Aa (pv 2) Ab))))
      (Ae (Ar (i:=6) sc__law_right.nd rfl (Or.inl rfl) Gc)
      (Ae (Ar (i:=7) sc__law_right.nd rfl (Or.inl rfl) (Af Av (pv 3) (Am (BZ (K:=K)) rfl (T.own _ (by decide)) boot_len (Aa (pv 4) Ab))))
      (Ae (Bv PassesOwn.never rfl (Cr (K:=K) (Af (IX (K:=K)) (DU (IU (K:=K)) (pv 4) (Eb (pv 7)) GZ) (DU (IU (K:=K)) (pv 4) GZ (Eb (pv 7))))) (AD (i:=8) sc__law_right.nd rfl (Or.inl rfl)) (Ae (Ar (i:=9) sc__law_right.nd rfl (Or.inr rfl) (Ag c__law_reach (hr.mono (by decide)) (Aa (pv 5) (Aa (pv 8) Ab))))
      (Ae (Fn (i:=10) sc__law_right.nd rfl (Or.inl rfl) (Cr (K:=K) (pv 4)) (λ _ _ _ _=>(E3 (Ie (NI hu1 (pv 0) (pv 1))))) (λ _ _ _ _=>(pv 0)))
      (Ae (Ar (i:=6) sc__law_right.nd rfl (Or.inl rfl) (El (pv 6) (Et (Bo By (Am (BZ (K:=K)) rfl (T.own _ (by decide)) boot_len (Aa (pv 10) Ab)) (Am (BZ (K:=K)) rfl (T.own _ (by decide)) boot_len (Aa (pv 4) Ab)) (AF _)))))
      (Ae (Ar (i:=11) sc__law_right.nd rfl (Or.inl rfl) (Ag c_lifted_with (hr.mono (by decide)) (Aa (pv 0) (Aa (pv 8) Ab))))
      (Ae (A5 (CM (A0 (Ag c__law_alike (hr.mono (by decide)) (Aa (pv 11) (Aa (pv 10) Ab))))) (Ah (An Gc)) AC)
      (Ah (B3 (Ag c__law_longer (hr.mono (by decide)) (Aa (pv 11) Ab))))))))))
      (Ah (An (Ag c__law_alike (hr.mono (by decide)) (Aa (Ag c_hangs hr (Aa (pv 0) Ab)) (Aa (pv 6) Ab)))))))))),?_⟩
    walk_at "w";refine AT (SqL.of ha) ?_;rw [List.length_map];walk_at "w";refine ⟨n,rs.length,rfl,n2,p2,λ H1 m s1 hm r1=> ?_⟩;obtain ⟨m',refs,em,g1,_,t1,_⟩:=Dm r1;cases em;walk_at "w";refine ⟨n,a,rs,rfl,s1 _ _ ha,ok,λ H2 u kvU s2 hu0 hU ov=> ?_⟩;have s12:=s1.trans s2;replace g1:=s2 _ _ g1;replace t1:=t1.same s2;have C2:=C0.same s12;have lr:=t1.len;have lT:(Ap n rs.length).length=n+rs.length:=BQ _ _;walk_at "w";refine AT (SqL.of g1) ?_;walk_at "w";refine Ak (by show (0:Int)<_;omega) ?_;walk_at "w";have eS:((N:Nat):Int)%((refs.length:Nat):Int)=((N%refs.length:Nat):Int):=by push_cast;rfl
    rw [eS];generalize N%refs.length=S;refine Gx (SqL.of g1) λ q3 hq3=> ?_;rw [LN (by omega),Int.toNat_natCast];have s3:=Ai (o:=HO.lst (refs.drop S)) hq3;have h3:upd H2 q3 (HO.lst (refs.drop S)) q3=_:=Ad;generalize upd H2 q3 (HO.lst (refs.drop S))=H3 at s3 h3 ⊢;walk_at "w";refine Gx (SqL.of (s3 _ _ g1)) λ q4 hq4=> ?_;rw [K3 (by omega),Int.toNat_natCast];have s4:=Ai (o:=HO.lst (refs.take S)) hq4;have h4:upd H3 q4 (HO.lst (refs.take S)) q4=_:=Ad;generalize upd H3 q4 (HO.lst (refs.take S))=H4 at s4 h4 ⊢;refine GL (SqL.of (s4 _ _ h3)) (SqL.of h4) (by rw [List.length_drop,List.length_take];omega) λ q5 hq5=> ?_;have s5:=Ai (o:=HO.lst (refs.drop S++refs.take S)) hq5;have h5:upd H4 q5 (HO.lst (refs.drop S++refs.take S)) q5=_:=Ad;generalize upd H4 q5 (HO.lst (refs.drop S++refs.take S))=H5 at s5 h5 ⊢;have s25:=(s3.trans s4).trans s5;have tL:=((t1.drop S).app (t1.take S)).same s25;have hLm:∀ t,t∈(Ap n rs.length).drop S++(Ap n rs.length).take S↔t∈Ap n rs.length:=λ t=>by
      rw [List.mem_append,or_comm, <-List.mem_append,List.take_append_drop]
    generalize (Ap n rs.length).drop S++(Ap n rs.length).take S=L at tL hLm;generalize refs.drop S++refs.take S=Lr at tL h5;have g5:=s25 _ _ g1;have t5:=t1.same s25;have C5:=C2.same s25;have ov5:=ov.same s25;have hU5:=s25 _ _ hU;have s05:=s12.trans s25;have cl:∀ t∈Ap n rs.length,∀ y∈ovL n rs t,y∈Ap n rs.length:=λ t _ y hy=>Eo hy;clear s1 s2 s12 s3 s4 s5 s25 g1 t1 C2 ov hU;refine ⟨q5,rfl,⟨_,SqL.of h5⟩,EZ (CB (SqL.of h5)) (λ i σ H'=>∃ (B:Bool) (x1 x2 x3 x4:Option V),σ=[some (.ref x),some (nV n),some (.ref a),some (nV N),some (.ref m),some (.ref u),some (.bl B),some (.int ((S:Nat):Int)),x1,x2,x3,x4]/\Same H5 H'/\(B=true↔∀ t∈L.take i,∀ y∈Ap n rs.length,Rch (ovL n rs) t y)) ⟨true,_,_,_,_,rfl,Same.refl _,by simp⟩ (λ i σ H' ⟨_,_,_,_,_,_,s,_⟩=>s) ?_ ?_⟩
    · rintro i σ G H6 hi ⟨B,x1,x2,x3,x4,rfl,s',hB⟩ s6;have hi':i<L.length:=by rw [<-tL.len];exact hi
      have sH:=s'.trans s6;obtain ⟨b,eb,hb⟩:=tL.at_ i hi';have hb6:=sH _ _ hb;have ht:L.getD i (false,0)∈Ap n rs.length:=(hLm _).mp (L2.getD_mem hi');rw [eb,EU hi'];generalize L.getD i (false,0)=t at hb hb6 ht ⊢;walk_at "w";refine ⟨u,b,kvU,Ap n rs.length,ovL n rs,t,rfl,sH _ _ hU5,hb6,ov5.same sH,ht,cl,by omega,λ H7 d kvs vis s7 hd hd7 vr en lvv=> ?_⟩;have s57:=sH.trans s7;walk_at "w";refine ⟨m,rfl,⟨_,SqL.of (s57 _ _ g5)⟩,λ D hD=> ?_⟩;refine Df (m:=1) (p:=λ j=>has vis ((Ap n rs.length).getD j (false,0))) (G:=λ j=>dTh ((Ap n rs.length).getD j (false,0))) (Cj (SqL.of (s57 _ _ g5)) rfl) hD (by rw [lr];omega) ?_ ?_ ?_
      · intro j H8 R hj s8 kk;have hj':j<(Ap n rs.length).length:=by rw [<-lr];exact hj
        obtain ⟨bj,ebj,hbj⟩:=t5.at_ j hj';rw [ebj];walk_at "w";refine ⟨d,_,rfl,DGet.t (k:=thK ((Ap n rs.length).getD j (false,0))) (s8 _ _ hd7) ((s57.trans s8) _ _ hbj),?_⟩;rcases vr.val ((Ap n rs.length).getD j (false,0)) with ⟨v1,v2⟩ | ⟨_,_,_,vv,_,v1,_,v2⟩
        · rw [v1];have:=kk H8 (Same.refl _);rw [v2] at this;exact ⟨_,rfl,this⟩
        · rw [v1];have:=kk H8 (Same.refl _);rw [v2] at this;exact ⟨_,rfl,this⟩
      · intro j H8 R hj hp s8 kk;have hj':j<(Ap n rs.length).length:=by rw [<-lr];exact hj
        obtain ⟨bj,ebj,hbj⟩:=t5.at_ j hj';rw [ebj];walk_at "w";exact kk H8 _ (Same.refl _) (LQ ⟨bj,rfl,(s57.trans s8) _ _ hbj⟩)
      intro H8 ys s8 hl8 r8;have e8:((List.range refs.length).filter λ j=>has vis ((Ap n rs.length).getD j (false,0))).map (λ j=>dTh ((Ap n rs.length).getD j (false,0)))=(lfL n rs vis).map dTh:=by
        rw [lr,HL (has vis) dTh (Ap n rs.length) (false,0)];rfl
      rw [e8] at r8;obtain ⟨D',dr,eD,hD8,_,tD,_⟩:=Dm r8;cases eD;have s58:=s57.trans s8;have hkey:(lfL n rs vis).length=(Ap n rs.length).length↔∀ y∈Ap n rs.length,Rch (ovL n rs) t y:=by
        unfold lfL;rw [E7];simp only [en.iff]
      walk_at "w";refine Re (D:=decide ((dr.length:Int)=(refs.length:Int))) (λ hk=> ?_) ?_
      · walk_at "w";refine AT (SqL.of hD8) ?_;walk_at "w";refine AT (SqL.of (s58 _ _ g5)) ?_;exact KL hk
      have hB2:(B&&decide ((dr.length:Int)=(refs.length:Int)))=true↔∀ t_1∈L.take i++[t],∀ y∈Ap n rs.length,Rch (ovL n rs) t_1 y:=by
        rw [Bool.and_eq_true,hB,decide_eq_true_eq];have e1:((dr.length:Int)=(refs.length:Int))↔(lfL n rs vis).length=(Ap n rs.length).length:=by
          rw [tD.len,lr];omega
        rw [e1,hkey];constructor
        · rintro ⟨p,q⟩ z hz;rcases List.mem_append.mp hz with w | w
          · exact p z w
          · rw [List.mem_singleton.mp w];exact q
        · intro p;exact ⟨λ z hz=>p z (List.mem_append_left _ hz),p t (List.mem_append_right _ (List.mem_singleton.mpr rfl))⟩
      generalize (B&&decide ((dr.length:Int)=(refs.length:Int)))=B2 at hB2 ⊢;walk_at "w";refine ⟨x,n,rs,b,t,rfl,C5.same s58,ok,h64,s58 _ _ hb,ht,λ H9 q refs9 vis9 s9 hq hq9 tl9 en9=> ?_⟩;cases en.uniq en9;have s59:=s58.trans s9;walk_at "w";have ll:(lfL n rs vis).length<=1000:=Nat.le_trans (List.length_filter_le _ _) (by omega);refine ⟨_,_,_,rfl,F3 hq9 trivial (by omega) tl9,(r8.mono (λ _ _ q _=>q) λ _ _=>trivial).same s9,λ H10 s10=> ?_⟩;walk_at "w";have hq10:=s10 _ _ hq9;refine ⟨_,_,rfl,F3 hq10 trivial (by omega) (tl9.same s10), .inr ⟨q,refs9,_,rfl,hq10,rfl,LF _,λ H11 s11=> ?_⟩⟩;walk_at "w";refine ⟨B2,_,_,_,_,rfl,?_,hB2⟩;have hq5:H5 q=none:=s58.free hq;exact Bd (s59.trans (s10.trans s11)) hq5
    · rintro σ H6 ⟨B,x1,x2,x3,x4,rfl,s6,hB⟩;have e:L.take Lr.length=L:=by rw [tL.len,List.take_length]
      rw [e] at hB;have hB':B=Gj n rs:=Fq (hB.trans ⟨λ z t ht=>z t ((hLm t).mpr ht),λ z t ht=>z t ((hLm t).mp ht)⟩);walk_at "w";refine ⟨x,n,rs,rfl,C5.same s6,ok,h64,λ H7 s7=> ?_⟩;walk_at "w";rw [hB'];exact ⟨_,_, .bl (Gj n rs),rfl, .bl _, .bl _,λ H8 s8=>k H8 (((s05.trans s6).trans s7).trans s8)⟩
open MG
abbrev Ko:Stmt:=top 47
theorem sc_law:FnScope ["_law_script","_law_ends","_law_rows","_law_other","_law_weaves","_law_number"] ["_law_script"] (Aj Ko):=⟨rfl,rfl,rfl,by decide +kernel,rfl,by decide +kernel,by decide +kernel⟩
theorem Ot {f:Addr} {fd:FuncData} (F:Fun K "law" "law" Ko f fd) (T:Txt K mg c) (c__law_weave:Aq P w K mg base "_law_weave" 3 ["_law_script","_law_most"] (Ds K)) (c__law_mixed:Aq P w K mg base "_law_mixed" 1 ["_law_cell","_law_k"] AY) (c__law_cell_at:Aq P w K mg base "_law_cell_at" 1 ["_law_script","_law_k"] (AK K)) (c__law_right:Aq P w K mg base "_law_right" 8 ["_law_weave_here","_law_ends","_law_rows","_law_number"] (Dw c)) (c_hangs:Aq P w K mg base "hangs" 7 ["cloth"] (Fa c)) (c__law_alike:Aq P w K mg base "_law_alike" (3+1) ["_law_found","_law_due"] (AZ 3)) (m_Cloth:IM P w K mg base "Cloth" c.Cloth 4 ["self","ends","rows"] (AI c)):FnOk P w K mg base CX0 9 f fd ["_law_script"] (IW K):=by
  refine F.ok sc_law (λ vs H Q E h=> ?_) (λ cdv A outer s H vs Q E hr h=> ?_)
  · obtain ⟨a,ns,rfl,_⟩:=h;rfl
  · obtain ⟨a,ns,rfl,sa,hl,k⟩:=h;refine ⟨_,(Ae (Iy (Ag c__law_weave (hr.mono (by decide)) (Aa (pv 0) (Aa Ac Ab))) (Iz (K:=K) rfl (Bq (AD (i:=1) sc_law.nd rfl (Or.inl rfl)) (Bq (AD (i:=2) sc_law.nd rfl (Or.inl rfl)) EY))))
      (Ae (Ar (i:=3) sc_law.nd rfl (Or.inl rfl) (Ag c__law_weave (hr.mono (by decide)) (Aa (Od (K:=K) (pv 0) (Nt K8 Ac)) (Aa Ac Ab))))
      (Ae (Ar (i:=4) sc_law.nd rfl (Or.inl rfl) (AN (Aa (DY m_Cloth (hr.mono (by decide)) (Aa (pv 1) (Aa (Dg (Kn (K:=K)) rfl (T.own _ (by decide)) AJ (Aa (pv 2) Ab)) Ab))) (Aa (DY m_Cloth (hr.mono (by decide)) (Aa (AE (Br (K:=K)) (pv 3) Ac (λ _ _=>rfl)) (Aa (Dg (Kn (K:=K)) rfl (T.own _ (by decide)) AJ (Aa (AE (Br (K:=K)) (pv 3) Ac (λ _ _=>rfl)) Ab)) Ab))) Ab))))
      (Ae (Ar (i:=5) sc_law.nd rfl (Or.inl rfl) (Ag c__law_mixed (hr.mono (by decide)) (Aa (Ag c__law_cell_at (hr.mono (by decide)) (Aa (pv 0) (Aa Ac Ab))) (Aa Ac Ab))))
      (Ae (A5 (PW.pt (Hc (CM (A0 (Ag c__law_right hr (Aa (AE (BC (K:=K)) (pv 4) Ac (λ _ _=>rfl)) (Aa (pv 1) (Aa (pv 2) (Aa (pv 5) Ab))))))) (Fb (CM (A0 (Ag c__law_right hr (Aa (AE (BC (K:=K)) (pv 4) Ac (λ _ _=>rfl)) (Aa (AE (Br (K:=K)) (pv 3) Ac (λ _ _=>rfl)) (Aa (AE (Br (K:=K)) (pv 3) Ac (λ _ _=>rfl)) (Aa (Af Au (pv 5) Ac) Ab)))))))))) (Ah (An Gc)) AC)
      (Ae (A5 (CM (A0 (Ag c__law_alike (hr.mono (by decide)) (Aa (Ag c_hangs (hr.mono (by decide)) (Aa (AE (BC (K:=K)) (pv 4) Ac (λ _ _=>rfl)) Ab)) (Aa (Ag c_hangs (hr.mono (by decide)) (Aa (DY m_Cloth (hr.mono (by decide)) (Aa (pv 1) (Aa (pv 2) Ab))) Ab)) Ab))))) (Ah (An Gc)) AC)
      (Ah (An (Ag c__law_right hr (Aa (AE (BC (K:=K)) (pv 4) Ac (λ _ _=>rfl)) (Aa (AE (Br (K:=K)) (pv 3) Ac (λ _ _=>rfl)) (Aa (AE (Br (K:=K)) (pv 3) Ac (λ _ _=>rfl)) (Aa (Af Au (pv 5) Ac) Ab))))))))))))),?_⟩
    walk_at "w";refine ⟨a,ns,14,rfl,sa,hl,by decide,by decide,λ H1 p1 l1 n1 r1 s1 _ _ hp1 hl1 c1=> ?_⟩;have m1:n1+r1.length<64:=by have:=c1.n2;have:=c1.p2;omega
    walk_at "w";refine GG (SqT.of hp1) rfl ?_;walk_at "w";refine Oe (s1.seq sa) λ q2 hq2=> ?_;rw [<-List.map_reverse];have s2:=Ai (o:=HO.lst (ns.reverse.map V.int)) hq2;have h2:upd H1 q2 (HO.lst (ns.reverse.map V.int)) q2=_:=Ad;replace hl1:=s2 _ _ hl1;have sZ:=s1.trans s2;generalize upd H1 q2 (HO.lst (ns.reverse.map V.int))=H2 at sZ h2 hl1 ⊢;walk_at "w";refine ⟨q2,ns.reverse,7,rfl,SqL.of h2,by simpa using hl,by decide,by decide,λ H3 p3 l3 n3 r3 s3 _ _ hp3 hl3 c3=> ?_⟩;have m3:n3+r3.length<64:=by have:=c3.n2;have:=c3.p2;omega
    replace hl1:=s3 _ _ hl1;replace sZ:=sZ.trans s3;walk_at "w";refine Gr (SqL.of hl1) λ q4 hq4=> ?_;have s4:=Ai (o:=HO.lst (r1.map nV)) hq4;have h4:upd H3 q4 (HO.lst (r1.map nV)) q4=_:=Ad;replace hl1:=s4 _ _ hl1;replace hl3:=s4 _ _ hl3;replace hp3:=s4 _ _ hp3;replace sZ:=sZ.trans s4;generalize upd H3 q4 (HO.lst (r1.map nV))=H4 at sZ h4 hl1 hl3 hp3 ⊢;walk_at "w";refine LW h4 c1.ok λ H5 x5 s5 _ C5=> ?_;replace hl1:=s5 _ _ hl1;replace hl3:=s5 _ _ hl3;replace hp3:=s5 _ _ hp3;replace sZ:=sZ.trans s5;walk_at "w";refine AR (v:=nV n3) (SqT.of hp3) (Ax (j:=0) rfl) ?_;walk_at "w";refine AR (v:= .ref l3) (SqT.of hp3) (Ax (j:=1) rfl) ?_;walk_at "w";refine Gr (SqL.of hl3) λ q6 hq6=> ?_;have s6:=Ai (o:=HO.lst (r3.map nV)) hq6;have h6:upd H5 q6 (HO.lst (r3.map nV)) q6=_:=Ad;replace hl1:=s6 _ _ hl1;replace hl3:=s6 _ _ hl3;replace hp3:=s6 _ _ hp3;replace C5:=C5.same s6;replace sZ:=sZ.trans s6;generalize upd H5 q6 (HO.lst (r3.map nV))=H6 at sZ h6 hl1 hl3 hp3 C5 ⊢;walk_at "w";refine LW h6 c3.ok λ H7 x7 s7 _ C7=> ?_;replace hl1:=s7 _ _ hl1;replace hl3:=s7 _ _ hl3;replace hp3:=s7 _ _ hp3;replace C5:=C5.same s7;replace sZ:=sZ.trans s7;walk_at "w";intro q8 hq8;walk_at "w";have s8:=Ai (o:=HO.lst [V.ref x5,V.ref x7]) hq8;have h8:upd H7 q8 (HO.lst [V.ref x5,V.ref x7]) q8=some (HO.lst [V.ref x5,V.ref x7]):=Ad;replace hl1:=s8 _ _ hl1;replace hl3:=s8 _ _ hl3;replace hp3:=s8 _ _ hp3;replace C5:=C5.same s8;replace C7:=C7.same s8;replace sZ:=sZ.trans s8;generalize upd H7 q8 (HO.lst [V.ref x5,V.ref x7])=H8 at h8 hl1 hl3 hp3 C5 C7 sZ ⊢;refine ⟨a,ns,1,rfl,sZ.seq sa,hl,λ H9 s9=> ?_⟩;replace hl1:=s9 _ _ hl1;replace hl3:=s9 _ _ hl3;replace hp3:=s9 _ _ hp3;replace h8:=s9 _ _ h8;replace C5:=C5.same s9;replace C7:=C7.same s9;walk_at "w";refine ⟨_,_,rfl,⟨by decide,by decide⟩,?_⟩;generalize DM (Cp ns 1) 30=N;walk_at "w";refine AX (v:= .ref x5) (SqL.of h8) (Ax (j:=0) rfl) ?_;walk_at "w";refine ⟨x5,n1,r1,l1,N,rfl,C5,c1.ok,m1,hl1,λ HA sA=> ?_⟩;replace hl1:=sA _ _ hl1;replace hl3:=sA _ _ hl3;replace hp3:=sA _ _ hp3;replace h8:=sA _ _ h8;replace C5:=C5.same sA;replace C7:=C7.same sA;walk_at "w";refine AX (v:= .ref x7) (SqL.of h8) (Ax (j:=1) rfl) ?_;walk_at "w";refine AR (v:=nV n3) (SqT.of hp3) (Ax (j:=0) rfl) ?_;walk_at "w";refine AR (v:= .ref l3) (SqT.of hp3) (Ax (j:=1) rfl) ?_;walk_at "w";refine Ak ⟨by decide,by decide⟩ ?_;rw [show ((N:Nat):Int) / 50=((N / 50:Nat):Int) by push_cast;rfl];walk_at "w";refine ⟨x7,n3,r3,l3,N / 50,rfl,C7,c3.ok,m3,hl3,λ HB sB=> ?_⟩;replace hl1:=sB _ _ hl1;replace hl3:=sB _ _ hl3;replace hp3:=sB _ _ hp3;replace h8:=sB _ _ h8;replace C5:=C5.same sB;replace C7:=C7.same sB;walk_at "w";refine AX (v:= .ref x5) (SqL.of h8) (Ax (j:=0) rfl) ?_;walk_at "w";refine ⟨x5,n1,r1,rfl,C5,c1.ok,m1,λ HC sC=> ?_⟩;replace hl1:=sC _ _ hl1;replace hl3:=sC _ _ hl3;replace hp3:=sC _ _ hp3;replace h8:=sC _ _ h8;replace C7:=C7.same sC;walk_at "w";refine LW hl1 c1.ok λ HD xD sD _ CD=> ?_;replace hl3:=sD _ _ hl3;replace hp3:=sD _ _ hp3;replace h8:=sD _ _ h8;replace C7:=C7.same sD;walk_at "w";refine ⟨xD,n1,r1,rfl,CD,c1.ok,m1,λ HE sE=> ?_⟩;replace hl3:=sE _ _ hl3;replace hp3:=sE _ _ hp3;replace h8:=sE _ _ h8;replace C7:=C7.same sE;walk_at "w";refine ⟨_,_, .bl (Gj n1 r1),rfl, .bl _, .bl _,λ HF sF=> ?_⟩;replace hl3:=sF _ _ hl3;replace hp3:=sF _ _ hp3;replace h8:=sF _ _ h8;replace C7:=C7.same sF;walk_at "w";refine AX (v:= .ref x7) (SqL.of h8) (Ax (j:=1) rfl) ?_;walk_at "w";refine AR (v:=nV n3) (SqT.of hp3) (Ax (j:=0) rfl) ?_;walk_at "w";refine AR (v:= .ref l3) (SqT.of hp3) (Ax (j:=1) rfl) ?_;walk_at "w";refine Ak ⟨by decide,by decide⟩ ?_;rw [show ((N:Nat):Int) / 70=((N / 70:Nat):Int) by push_cast;rfl];walk_at "w";exact ⟨x7,n3,r3,l3,N / 70,rfl,C7,c3.ok,m3,hl3,λ HG sG=>k HG⟩
end
end K22
namespace K22
open PySem L2 PySem.Spec PyProof.Rows
theorem all_mk {l:PySem.W.OpenLaw} {w:World} {K:PySem.W.Frag} {h:Heap} {mg:Str->Option Value} {fa:Addr} (X:K.In h) (G:h.Ns mainGlobals mg) (hfa:mg "law"=some (.ref fa))
    {C_Cloth f0 f1 f2 f3 f4 f5 f6 f7 f8 f9 f10 f11 f12 f13 f14 f15 f16 f17 f18 f19 f20 f21 f22 f23 f24 f25 f26 f27 f28 f29 f30 f31 f32 f33 f34 f35 f36 f37:Addr} {d0 d1 d2 d3 d4 d5 d6 d7 d8 d9 d10 d11 d12 d13 d14 d15 d16 d17 d18 d19 d20 d21 d22 d23 d24 d25 d26 d27 d28 d29 d30 d31 d32 d33 d34 d35 d36 d37:FuncData}
    (T0:Txt K mg ⟨C_Cloth⟩)
    (D0:DefAt K mg "bit_of" E8 ["number"] f0 d0)
    (D1:DefAt K mg "mask_of" Ew ["numbers"] f1 d1)
    (D2:DefAt K mg "mask_to" Eu ["most"] f2 d2)
    (D3:DefAt K mg "has_number" CG ["mask","number"] f3 d3)
    (D4:DefAt K mg "numbers_of" CQ ["mask"] f4 d4)
    (D5:DefAt K mg "other_mask" CF ["mask","most"] f5 d5)
    (D6:DefAt K mg "is_whole" DB ["thing"] f6 d6)
    (D7:DefAt K mg "is_among" Dy ["thing","least","most"] f7 d7)
    (D8:DefAt K mg "need_cloth" Cz ["ends","rows"] f8 d8)
    (j9:Mk K C_Cloth f9)
    (D9:FnA K "__init__" "Cloth.__init__" Bi ["self","ends","rows"] f9 d9)
    (j10:Meth K C_Cloth "ends" f10)
    (D10:FnA K "ends" "Cloth.ends" CC ["self"] f10 d10)
    (j11:Meth K C_Cloth "picks" f11)
    (D11:FnA K "picks" "Cloth.picks" Cd ["self"] f11 d11)
    (j12:Meth K C_Cloth "column_at" f12)
    (D12:FnA K "column_at" "Cloth.column_at" Bc ["self","end"] f12 d12)
    (D13:DefAt K mg "end_threads" B9 ["ends"] f13 d13)
    (D14:DefAt K mg "pick_threads" BR ["picks"] f14 d14)
    (D15:DefAt K mg "threads_of" CN ["cloth"] f15 d15)
    (j16:Meth K C_Cloth "row_at" f16)
    (D16:FnA K "row_at" "Cloth.row_at" BK ["self","pick"] f16 d16)
    (D17:DefAt K mg "over_of" Ef ["cloth","thread"] f17 d17)
    (D18:DefAt K mg "overs_of" DE ["cloth"] f18 d18)
    (D19:DefAt K mg "threads_ahead" Bx ["overs","one"] f19 d19)
    (D20:DefAt K mg "_law_alike" BE ["_law_found","_law_due"] f20 d20)
    (D21:DefAt K mg "_law_mixed" Cu ["_law_cell","_law_k"] f21 d21)
    (D22:DefAt K mg "_law_cell_at" BI ["_law_script","_law_k"] f22 d22)
    (D23:DefAt K mg "_law_turned" Cf ["_law_mask","_law_steps_here","_law_size"] f23 d23)
    (D24:DefAt K mg "_law_told_over" Bj ["_law_script","_law_number","_law_most"] f24 d24)
    (D25:DefAt K mg "_law_laid" C9 ["_law_script","_law_number","_law_ends","_law_picks"] f25 d25)
    (D26:DefAt K mg "_law_steps" CL ["_law_number","_law_ends","_law_most"] f26 d26)
    (D27:DefAt K mg "_law_weave" CP ["_law_script","_law_most"] f27 d27)
    (D28:DefAt K mg "_law_threads" BJ ["_law_ends","_law_picks"] f28 d28)
    (D29:DefAt K mg "_law_is_over" BU ["_law_ends","_law_rows","_law_one","_law_other"] f29 d29)
    (D30:DefAt K mg "_law_uppers" Ce ["_law_ends","_law_rows"] f30 d30)
    (D31:DefAt K mg "_law_reach" Cy ["_law_uppers_here","_law_thread"] f31 d31)
    (D32:DefAt K mg "_law_longer" Bm ["_law_told"] f32 d32)
    (D33:DefAt K mg "lifted_with" B8 ["cloth","thread"] f33 d33)
    (D34:DefAt K mg "inverted" Dz ["cloth"] f34 d34)
    (D35:DefAt K mg "hangs" GF ["cloth"] f35 d35)
    (D36:DefAt K mg "_law_right" CA ["_law_weave_here","_law_ends","_law_rows","_law_number"] f36 d36)
    (D37:DefAt K mg "law" Ko ["_law_script"] f37 d37)
    (hlb:∀ (s:Shared) (u:Value),BindsTo s d37 ⟨[u],[]⟩ [("_law_script",u)])
    : ∃ fd:FuncData,(∀ (s:Shared) (v:Value),BindsTo s fd ⟨[v],[]⟩ [("_law_script",v)])/\∀ base:Heap,K.In base->base.Ns mainGlobals mg->FnOk l.prog w K mg base CX0 9 fa fd ["_law_script"] (IW K):=by
  cases hfa.symm.trans D37.at';have T:=T0;exact ⟨_,hlb,λ base _ _=>by
    have c_bit_of:=D0.call (Kj (P:=l.prog) (w:=w) (base:=base) D0.fn T);have c_mask_of:=D1.call (Ih (P:=l.prog) (w:=w) (base:=base) D1.fn T c_bit_of);have c_mask_to:=D2.call (ID (P:=l.prog) (w:=w) (base:=base) D2.fn T);have c_has_number:=D3.call (FO (P:=l.prog) (w:=w) (base:=base) D3.fn T c_bit_of);have c_numbers_of:=D4.call (FZ (P:=l.prog) (w:=w) (base:=base) D4.fn T c_has_number);have c_other_mask:=D5.call (FY (P:=l.prog) (w:=w) (base:=base) D5.fn T c_mask_to);have c_is_whole:=D6.call (HM (P:=l.prog) (w:=w) (base:=base) D6.fn T);have c_is_among:=D7.call (Hd (P:=l.prog) (w:=w) (base:=base) D7.fn T c_is_whole);have c_need_cloth:=D8.call (FM (P:=l.prog) (w:=w) (base:=base) D8.fn T c_is_among c_mask_to);have m_Cloth:IM l.prog w K mg base "Cloth" C_Cloth 4 ["self","ends","rows"] _:=⟨_,_,T.g_Cloth,j9,DL (P:=l.prog) (w:=w) (base:=base) D9.fn T c_need_cloth,D9.bi⟩;have d_Cloth_ends:BX l.prog w K mg base C_Cloth "ends" 1 ["self"] _:=⟨_,_,T.kd_Cloth.cl,j10,FH (P:=l.prog) (w:=w) (base:=base) D10.fn T,D10.bi⟩;have d_Cloth_picks:BX l.prog w K mg base C_Cloth "picks" 1 ["self"] _:=⟨_,_,T.kd_Cloth.cl,j11,Fd (P:=l.prog) (w:=w) (base:=base) D11.fn T,D11.bi⟩;have d_Cloth_column_at:BX l.prog w K mg base C_Cloth "column_at" 3 ["self","end"] _:=⟨_,_,T.kd_Cloth.cl,j12,DA (P:=l.prog) (w:=w) (base:=base) D12.fn T c_mask_of c_has_number,D12.bi⟩;have c_end_threads:=D13.call (Fo (P:=l.prog) (w:=w) (base:=base) D13.fn T);have c_pick_threads:=D14.call (EJ (P:=l.prog) (w:=w) (base:=base) D14.fn T);have c_threads_of:=D15.call (FU (P:=l.prog) (w:=w) (base:=base) D15.fn T c_end_threads c_pick_threads d_Cloth_ends d_Cloth_picks);have d_Cloth_row_at:BX l.prog w K mg base C_Cloth "row_at" 1 ["self","pick"] _:=⟨_,_,T.kd_Cloth.cl,j16,ET (P:=l.prog) (w:=w) (base:=base) D16.fn T,D16.bi⟩;have c_over_of:=D17.call (IB (P:=l.prog) (w:=w) (base:=base) D17.fn T c_end_threads c_pick_threads c_numbers_of c_other_mask d_Cloth_row_at d_Cloth_column_at d_Cloth_picks);have c_overs_of:=D18.call (HR (P:=l.prog) (w:=w) (base:=base) D18.fn T c_threads_of c_over_of);have c_threads_ahead:=D19.call (Em (P:=l.prog) (w:=w) (base:=base) D19.fn T);have c__law_mixed:=D21.call (F2 (P:=l.prog) (w:=w) (base:=base) D21.fn T);have c__law_cell_at:=D22.call (EH (P:=l.prog) (w:=w) (base:=base) D22.fn T);have c__law_turned:=D23.call (Fp (P:=l.prog) (w:=w) (base:=base) D23.fn T);have c__law_told_over:=D24.call (DP (P:=l.prog) (w:=w) (base:=base) D24.fn T c__law_mixed c__law_cell_at);have c__law_laid:=D25.call (G2 (P:=l.prog) (w:=w) (base:=base) D25.fn T c__law_mixed c__law_cell_at);have c__law_steps:=D26.call (FR (P:=l.prog) (w:=w) (base:=base) D26.fn T c__law_turned);have c__law_weave:=D27.call (FS (P:=l.prog) (w:=w) (base:=base) D27.fn T c__law_mixed c__law_cell_at c__law_told_over c__law_laid c__law_steps);have c__law_threads:=D28.call (EK (P:=l.prog) (w:=w) (base:=base) D28.fn T);have c__law_is_over:=D29.call (ES (P:=l.prog) (w:=w) (base:=base) D29.fn T);have c__law_uppers:=D30.call (Ft (P:=l.prog) (w:=w) (base:=base) D30.fn T c__law_threads c__law_is_over);have c__law_reach:=D31.call (FK (P:=l.prog) (w:=w) (base:=base) D31.fn T);have c_lifted_with:=D33.call (Fh (P:=l.prog) (w:=w) (base:=base) D33.fn T c_overs_of c_threads_ahead);have c_inverted:=D34.call (Hi (P:=l.prog) (w:=w) (base:=base) D34.fn T m_Cloth d_Cloth_ends c_other_mask);have c_hangs:=D35.call (LG (P:=l.prog) (w:=w) (base:=base) D35.fn T d_Cloth_ends d_Cloth_picks c_lifted_with c_inverted);have c__law_right:=D36.call (FL (P:=l.prog) (w:=w) (base:=base) D36.fn T c__law_threads c__law_uppers c__law_reach c_lifted_with c_hangs (D20.call (Cc (P:=l.prog) (w:=w) (base:=base) D20 T 3)) (D32.call (C8 (P:=l.prog) (w:=w) (base:=base) D32 T 3)));exact Ot D37.fn T c__law_weave c__law_mixed c__law_cell_at c__law_right c_hangs (D20.call (Cc (P:=l.prog) (w:=w) (base:=base) D20 T 3)) m_Cloth
    ⟩
theorem walk {l:PySem.W.OpenLaw} {q:Program} {loose:List Str} {XP:(Str->Option Value)->Heap->Prop} {YP:World->Heap->Prop} {d:DefRec} {K:Params->PySem.W.Frag} (hn:l.most=some 63) (hdf:d.params.defaults=[])
    (hY:∀ (w:World) (h:Heap),YP w h->(K w.params).In h)
    (F:∀ (w:World) (mg:Str->Option Value) (fa:Addr) (h:Heap),(K w.params).In h->h.Ns mainGlobals mg->mg d.name=some (.ref fa)->
      ∃ fd:FuncData,(∀ (s:Shared) (v:Value),BindsTo s fd ⟨[v],[]⟩ [("_law_script",v)])/\∀ base:Heap,(K w.params).In base->base.Ns mainGlobals mg->FnOk l.prog w (K w.params) mg base CX0 9 fa fd ["_law_script"] (IW (K w.params))):
    PySem.W.WalkO q loose XP YP l.row.toRowW d [] (λ f vs=>PySem.call f vs):=
  L2.walk_of (n:=63) (k:=9) (x:="_law_script") (CX:=λ _=>CX0) (sp:=λ w=>IW (K w.params)) hn (by decide) hdf ⟨rfl,by decide,by decide⟩ hY F (λ _ _ a ns hl _ hS=>⟨a,ns,rfl,hS,hl,λ _=>rfl⟩) λ _ _ _ _ _ z=>z
end K22
open PySem PySem.W PyProof.Rows
set_option maxRecDepth 100000 in
set_option maxHeartbeats 0 in
theorem PySem.Challenge.cw_loomwright_k22_lifted_and_hanging_holds : PySem.Challenge.rw_loomwright_k22_lifted_and_hanging.Holds := by
  w_on
  refine PySem.W.holds_law K22.wsaid λ said=> ?_;refine PySem.W.holds_open (q:=K22.view) (loose:=[]) (Xt:=K22.Xt) (XP:=PySem.W.XL K22.view []) (Yf:=(PySem.W.kHook K22.frag K22.addrs K22.addrs_eq).obs) (Ya:=(PySem.W.kHook K22.frag K22.addrs K22.addrs_eq).val) (YP:=(PySem.W.kHook K22.frag K22.addrs K22.addrs_eq).says) (N:=K22.fuel) K22.left (PySem.W.kHook K22.frag K22.addrs K22.addrs_eq).of (PySem.W.kHook K22.frag K22.addrs K22.addrs_eq).keeps (λ s e=>PySem.W.xl_of s (Bool.and_eq_true_iff.mp e).1) PySem.W.XL.keeps (by rfl) (by rfl) (by rfl) (λ s e=>PySem.W.recFacts_of (Bool.and_eq_true_iff.mp e).2) (by rfl) (by first | assumption | decide +kernel) (by first | k_qdec | decide +kernel) ⟨rfl,rfl,rfl,rfl,rfl,by decide +kernel⟩ ?hw ?hc
  (case hw=>w_witness2)
  k_fill
  refine K22.walk (l:=PySem.Challenge.rw_loomwright_k22_lifted_and_hanging) rfl rfl (λ w h Y=>PySem.W.kIn_of Y) ?F
  case F=>
    intro w mg fa h KX G hmg;refine' K22.all_mk KX G hmg ?T ?_ ?_ ?_ ?_ ?_ ?_ ?_ ?_ ?_ ?_ ?_ ?_ ?_ ?_ ?_ ?_ ?_ ?_ ?_ ?_ ?_ ?_ ?_ ?_ ?_ ?_ ?_ ?_ ?_ ?_ ?_ ?_ ?_ ?_ ?_ ?_ ?_ ?_ ?_ ?_ ?_ ?_ ?_ ?_
    case T=>
      intros
      constructor
      all_goals try dsimp only
      all_goals try ((with_reducible refine' PySem.W.mg_of KX G ?_);k_is)
      all_goals first
        | ((with_reducible refine' L2.own_cons (PySem.W.mg_none_of KX G ?_) ?_) <;> (repeat' first | (with_reducible exact L2.own_nil) | (with_reducible refine' L2.own_cons (PySem.W.mg_none_of KX G ?_) ?_) | k_is))
        | ((with_reducible first | refine' L2.ci_mk (PySem.W.mg_of KX G ?_) | refine' L2.cs_mk (PySem.W.mg_of KX G ?_)) <;> first | k_is | skip)
        | with_reducible assumption
        | (refine' ⟨⟨?_,?_,?_,?_⟩,?_,?_,?_,?_⟩ <;> k_is)
        | ((with_reducible refine' L2.exc_mk ?_ ?_ ?_ ?_ ?_ ?_ ?_ ?_) <;> k_is)
        | (refine' ⟨?_,?_,?_⟩ <;> first | k_is | kernel_rfl)
        | (unfold L2.NoAttr;k_is)
        | k_is | k_exc | kts_exm | kit_is
    all_goals first
      | (refine' L2.def_mk (PySem.W.mg_of KX G ?_) (L2.fun_mk ?_ ?_ ?_) ?_ <;> first | k_is | exact L2.arg1 λ _=>rfl | exact L2.arg2 λ _ _=>rfl | exact L2.arg3 λ _ _ _=>rfl | exact L2.arg4 λ _ _ _ _=>rfl | exact L2.arg5 λ _ _ _ _ _=>rfl | exact L2.arg6 λ _ _ _ _ _ _=>rfl | exact L2.arg7 λ _ _ _ _ _ _ _=>rfl | exact L2.arg8 λ _ _ _ _ _ _ _ _=>rfl | exact L2.arg9 λ _ _ _ _ _ _ _ _ _=>rfl | skip)
      | (refine' L2.fnA_mk (L2.fun_mk ?_ ?_ ?_) ?_ <;> first | k_is | exact L2.arg1 λ _=>rfl | exact L2.arg2 λ _ _=>rfl | exact L2.arg3 λ _ _ _=>rfl | exact L2.arg4 λ _ _ _ _=>rfl | exact L2.arg5 λ _ _ _ _ _=>rfl | exact L2.arg6 λ _ _ _ _ _ _=>rfl | exact L2.arg7 λ _ _ _ _ _ _ _=>rfl | exact L2.arg8 λ _ _ _ _ _ _ _ _=>rfl | exact L2.arg9 λ _ _ _ _ _ _ _ _ _=>rfl | skip)
      | (refine' ⟨?_,?_,?_,?_⟩;all_goals first | k_is | kernel_rfl | skip)
      | (refine' ⟨?_,?_,?_⟩;all_goals first | k_is | kernel_rfl | skip)
      | k_is
      | exact λ s u=> .of_eq rfl
      | rfl | kernel_rfl | exact List.mem_cons_self | decide | skip
