import PyProof.Rows.All
import Wide.All
import OpenK.AllK
import Wide.FinOn
import Lean
import PyProof.EqAt
import PyProof.EqKinds
import PyProof.TupleCall
import KE.KIntText
import PyProof.EnumFor
import PyProof.EnumMake
import PyProof.ZipIter
import PyProof.LayNew
import KE.KTurns
import PyProof.Rows.Range3
import KE.KRevSl
import KE.KDictList
import PyProof.Draws
import PyProof.Rows.RuleM_int
import PyProof.Rows.BitMore
import PyProof.NeKinds
import KE.KRevIter
import PyProof.JoinWalk
import KE.KTryMore
import PyProof.ExcArgs
import OpenK.KOwn
import PyProof.ExcBaseAll.ValueError
import KE.KLam
import KE.KNestM
import PyProof.AttrMissHeap
import KE.KDictOf
import PySem.Challenge.RW_loomwright_k14_colours_seen
set_option Elab.async false
set_option linter.all false
set_option maxRecDepth 100000
set_option genSizeOf false
set_option bootstrap.genMatcherCode false
set_option compiler.extract_closed false
set_option maxHeartbeats 4000000
noncomputable section
namespace L2
open PySem
def AJ (s:Stmt) (j:Nat):Stmt:=match s with
  | .ClassDef _ _ _ body _ _ _ _ _ _ _=>body.getD j (.Pass ⟨0,0,0,0⟩)
  | _=> .Pass ⟨0,0,0,0⟩
def Ec (s:Stmt):Arguments:=match s with
  | .FunctionDef _ a _ _ _ _ _ _ _ _=>a
  | _=>{ posonlyargs:=[],args:=[],vararg:=none,kwonlyargs:=[],kw_defaults:=[],kwarg:=none,defaults:=[] }
def Dk (s:Stmt):List Stmt:=match s with
  | .FunctionDef _ _ b _ _ _ _ _ _ _=>b
  | _=>[]
def Ah (s:Stmt):Scope:=match s with
  | .FunctionDef _ _ _ _ _ _ sc _ _ _=>sc
  | _=>{ kind:= .function,names:=[],isGenerator:=false,isCoroutine:=false }
end L2
namespace K14
open PySem
def top (i:Nat):Stmt:=PySem.Challenge.pw_loomwright_k14_colours_seen.main.body.getD i (.Pass ⟨0,0,0,0⟩)
end K14
namespace HX
open PySem PySem.W PySem.Calls PyProof.Rows
def topT (tb:String->Option Builtin) (p:Program) (w:World) (n₀:Nat) (ann:Option Value):Nat->SharedT->Thread->Option SharedT
  | 0,_,_=>none
  | n+1,s,t=>match through t with
    | true=>some s
    | false=>match stepOk n₀ ann t with
      | false=>none
      | true=>match stepT (denote tb) p w s t with
        | some (s',t')=>topT tb p w n₀ ann n s' t'
        | none=>none
theorem topT_of {tb:String->Option Builtin} {p:Program} {w:World} {n₀:Nat} {ann:Option Value}:∀ {n:Nat} {s s':SharedT} {t:Thread},topT tb p w n₀ ann n s t=some s'->topRun tb p w n₀ ann n s.abs t=some s'.abs
  | 0,_,_,_,h=>by cases h
  | n+1,s,s',t,h=>by
    unfold topT at h;unfold topRun;cases ht:through t with
    | true=>rw [ht] at h;cases h;rfl
    | false=>
      rw [ht] at h;cases hk:stepOk n₀ ann t with
      | false=>rw [hk] at h;cases h
      | true=>
        rw [hk] at h;cases hs:stepT (denote tb) p w s t with
        | none=>rw [hs] at h;cases h
        | some x=>
          obtain ⟨s2,t2⟩:=x;rw [hs] at h;dsimp only;rw [stepT_spec hs];exact topT_of h
def ofL:List Obj->Nat->BT->BT
  | [],_,t=>t
  | o::r,i,t=>ofL r (i+1) (t.ins i o)
def bootT (P:Params):BT:=ofL (boot_heap P).objs.toList 0 .nil
theorem left_run {p q:Program} {loose:List Str} {Xt:Shared->Bool} {α:Type} {Yf:Shared->α} {Ya:World->α} {N:Nat} {g0:Bool}
    (e:opening p=plainProg p.main.scope.names) (hN:Nat.ble 600 N=true) (f:∀ s,fenceModules? p s=some s)
    (hb:∀ P:Params,(absHeap (bootT P) 11 {},boot_drawn,(boot_heap P).isNs mainGlobals,(boot_heap P).objs.size,(boot_heap P).nsMap mainGlobals "__annotations__")=(boot_heap P,boot_drawn,true,11,some (.ref 6)))
    (run:∀ (w:World) (os:OsState),∃ s:Shared,topRun treeTable p w 11 (some (.ref 6)) N (⟨bootT w.params,11,{},Array.mk [],boot_drawn,boot_toks,os⟩:SharedT).abs (topStub p)=some s/\((staticsOk (importedModules p.main.body) (boot_heap w.params) s.heap&&namesBound p s.heap&&gensDone s&&laidKept (boot_heap w.params) s.heap),openSeen q loose (importedModules p.main.body) Xt g0 s,Yf s)=(true,openGood q loose,Ya w)):LeftO p q loose Xt Yf Ya N g0:=λ w=>by
  obtain ⟨⟨h,gs,d,k,os⟩,e1,e'⟩:=Option.map_eq_some_iff.mp (boot_open (p:=p) (N:=N) e hN f w);obtain ⟨rfl,rfl,rfl,rfl⟩:h=boot_heap w.params/\gs=Array.mk []/\d=boot_drawn/\k=boot_toks:=by simpa using e'
  have hb':=hb w.params;simp only [Prod.mk.injEq] at hb';obtain ⟨b1,_,b2,b3,b4⟩:=hb';obtain ⟨s,r,l⟩:=run w os;obtain ⟨l1,l2,l3⟩:_/\_/\_:=by simpa only [Prod.mk.injEq] using l
  have b0:(⟨bootT w.params,11,{},Array.mk [],boot_drawn,boot_toks,os⟩:SharedT).abs=⟨boot_heap w.params,Array.mk [],boot_drawn,boot_toks,os⟩:=by
    show (⟨absHeap (bootT w.params) 11 {},_,_,_,_⟩:Shared)=_;rw [b1]
  rw [b0] at r;have t:topFrom treeTable p w N ⟨boot_heap w.params,Array.mk [],boot_drawn,boot_toks,os⟩=some s:=by
    unfold topFrom;dsimp only;rw [b2,b3,b4];show Option.bind (topRun treeTable p w 11 (some (.ref 6)) N ⟨boot_heap w.params,Array.mk [],boot_drawn,boot_toks,os⟩ (topStub p)) _=_;rw [r];show (match staticsOk (importedModules p.main.body) (boot_heap w.params) s.heap&&namesBound p s.heap&&gensDone s&&laidKept (boot_heap w.params) s.heap with | true=>_ | false=>_)=_;rw [l1]
  unfold openEnds;rw [e1];show (topFrom treeTable p w N _).map _=_;rw [t];exact congrArg some (Prod.ext l2 l3)
theorem three {α β γ:Type} {a a':α} {b b':β} {c c':γ} (h:(a,c)=(a',c')) (k:b=b'):(a,b,c)=(a',b',c'):=by
  cases h;cases k;rfl
theorem hb (P:Params):(absHeap (bootT P) 11 {},boot_drawn,(boot_heap P).isNs mainGlobals,(boot_heap P).objs.size,(boot_heap P).nsMap mainGlobals "__annotations__")=(boot_heap P,boot_drawn,true,11,some (.ref 6)):=by kernel_rfl
end HX
namespace K14
open PySem L2 PySem.W PySem.Calls PyProof.Rows
abbrev Ob:=Params->Obj
abbrev dE (P:Params) (s:Str) (t:Tok) (v:Value):DictEntry:=⟨PyData.keyHash P s, .str s t,v⟩
abbrev dR (P:Params) (s:Str) (t:Tok) (a:Addr):DictEntry:=⟨PyData.keyHash P s, .str s t, .ref a⟩
abbrev tu (xs:Array Value):Obj:=⟨.type "tuple",none, .seq xs 0, #[]⟩
abbrev di (es:Array DictEntry) (n:Nat):Obj:=⟨.type "dict",none, .dict es n, #[]⟩
abbrev fo (n q:Str) (st:Stmt) (m:Str) (t:Tok) (c:Addr):Obj:=⟨.type "function",none, .func (fnOf n q (Ec st) (Dk st) (Ah st) .none .none .none (.str m t) none (.ref c) .none), #[]⟩
abbrev co (n q:Str) (t:Tok) (l ac nl:Int) (a:Addr) (b:Bool) (r:Addr) (c d e:Value) (k:Int) (t4:Tok):Obj:=⟨.type "code",none, .fields #[.str n t, .str q (t+1), .str "/claim/cut.py" (t+2), .int l 0, .int ac 0, .int 0 0, .int 0 0, .int nl 0, .ref a, .bool b, .int 181 0, .ref r, .none,c,d,e, .int k 0, .int l 0, .str "/claim/cut.py" t4], #[]⟩
def o3:Ob:=λ P=>di #[dE P "__name__" 165 (.str "law_loomwright_k14_colours_seen" 578),dE P "__doc__" 166 .none,dE P "__package__" 167 .none,dE P "__loader__" 168 (.builtin "__main__.__loader__#opaque"),dE P "__spec__" 169 .none,dR P "__annotations__" 170 6,dR P "__builtins__" 171 4,dE P "__file__" 173 (.str "/claim/cut.py" 172),dE P "__cached__" 174 .none,dR P "_wall" 193 21,dR P "bit_of" 202 28,dR P "mask_of" 211 35,dR P "mask_to" 218 42,dR P "has_number" 226 49,dR P "numbers_of" 232 54,dR P "union_of" 241 61,dE P "MOST_SHAFTS" 243 (.int 16 242),dE P "MOST_TREADLES" 245 (.int 16 244),dE P "MOST_ENDS" 247 (.int 60 246),dE P "MOST_PICKS" 249 (.int 60 248),dR P "LoomError" 269 71,dR P "BadDraft" 285 84,dR P "BadCloth" 301 96,dE P "COLOURS" 305 (.str "abcdefghijklmnopqrstuvwxyz" 304),dR P "is_whole" 312 105,dR P "is_among" 321 112,dR P "is_colour" 328 119,dR P "need_cloth" 336 124,dR P "Cloth" 413 183,dR P "lift_by" 421 192,dR P "lifts_of" 427 197,dR P "ends_through" 433 202,dR P "shaft_ends" 439 207,dR P "row_by" 445 212,dR P "woven" 451 217,dR P "seen_row" 459 222,dR P "behind_row" 465 227,dR P "seen" 471 232,dR P "seen_behind" 477 237,dR P "need" 487 244,dR P "is_list" 496 251,dR P "is_rising" 506 258,dR P "are_rising" 512 263,dR P "are_colours" 518 268,dR P "need_draft" 524 273,dR P "Draft" 577 307,dR P "_law_mixed" 587 318,dR P "_law_same" 593 323,dR P "_law_cells" 599 328,dR P "_law_numbers" 605 333,dR P "_law_draft" 611 338,dR P "_law_copied" 617 343,dR P "_law_made" 631 350,dR P "_law_is_up" 641 357,dR P "_law_line" 653 364,dR P "law" 659 369] 56
def o20:Ob:=λ P=>co "_wall" "_wall" 187 1 1 3 15 true 16 (.ref 17) (.ref 18) (.ref 19) 191 192
def o21:Ob:=λ P=>fo "_wall" "_wall" (top 0) "__main__" 164 20
def o27:Ob:=λ P=>co "bit_of" "bit_of" 196 5 1 3 22 true 23 (.ref 24) (.ref 25) (.ref 26) 200 201
def o28:Ob:=λ P=>fo "bit_of" "bit_of" (top 2) "loomwright.masks" 194 27
def o34:Ob:=λ P=>co "mask_of" "mask_of" 203 7 1 3 29 true 30 (.ref 31) (.ref 32) (.ref 33) 209 210
def o35:Ob:=λ P=>fo "mask_of" "mask_of" (top 3) "loomwright.masks" 194 34
def o41:Ob:=λ P=>co "mask_to" "mask_to" 212 12 1 3 36 true 37 (.ref 38) (.ref 39) (.ref 40) 216 217
def o42:Ob:=λ P=>fo "mask_to" "mask_to" (top 4) "loomwright.masks" 194 41
def o48:Ob:=λ P=>co "has_number" "has_number" 219 14 2 3 43 true 44 (.ref 45) (.ref 46) (.ref 47) 224 225
def o49:Ob:=λ P=>fo "has_number" "has_number" (top 5) "loomwright.masks" 194 48
def o53:Ob:=λ P=>co "numbers_of" "numbers_of" 227 16 1 3 50 true 51 .none .none (.ref 52) 230 231
def o54:Ob:=λ P=>fo "numbers_of" "numbers_of" (top 6) "loomwright.masks" 194 53
def o60:Ob:=λ P=>co "union_of" "union_of" 233 18 1 3 55 true 56 (.ref 57) (.ref 58) (.ref 59) 239 240
def o61:Ob:=λ P=>fo "union_of" "union_of" (top 7) "loomwright.masks" 194 60
def o62:Ob:=λ P=>tu #[(.type "ValueError")]
def o69:Ob:=λ P=>tu #[]
def o70:Ob:=λ P=>di #[dE P "__module__" 259 (.str "loomwright.errors" 250),dE P "__firstlineno__" 263 (.int 28 262),dR P "__static_attributes__" 264 69,dR P "__weakref__" 266 72,dE P "__doc__" 267 .none] 3
def o71:Ob:=λ P=>⟨(.type "type"),none,(.cls ⟨"LoomError",[(.type "ValueError")],[(.ref 71),(.type "ValueError"),(.type "Exception"),(.type "BaseException"),(.type "object")],70,"LoomError",true,[],[(.ref 84),(.ref 96)],false,none,false⟩), #[(some (.ref 62)),none,(some (.str "LoomError" 252)),(some (.str "LoomError" 260)),(some (.builtin "ValueError.__new__")),(some (.bool true))]⟩
def o72:Ob:=λ P=>⟨(.type "getset_descriptor"),none,(.fields #[(.str "__weakref__" 265),(.ref 71),(.builtin "ExceptionGroup.__weakref__"), .none]), #[]⟩
def o75:Ob:=λ P=>tu #[(.ref 71)]
def o82:Ob:=λ P=>tu #[]
def o83:Ob:=λ P=>di #[dE P "__module__" 277 (.str "loomwright.errors" 250),dE P "__firstlineno__" 281 (.int 30 280),dR P "__static_attributes__" 282 82,dE P "__doc__" 283 .none] 2
def o84:Ob:=λ P=>⟨(.type "type"),none,(.cls ⟨"BadDraft",[(.ref 71)],[(.ref 84),(.ref 71),(.type "ValueError"),(.type "Exception"),(.type "BaseException"),(.type "object")],83,"BadDraft",true,[],[],false,none,false⟩), #[(some (.ref 75)),none,(some (.str "BadDraft" 270)),(some (.str "BadDraft" 278)),(some (.builtin "ValueError.__new__")),(some (.bool true))]⟩
def o87:Ob:=λ P=>tu #[(.ref 71)]
def o94:Ob:=λ P=>tu #[]
def o95:Ob:=λ P=>di #[dE P "__module__" 293 (.str "loomwright.errors" 250),dE P "__firstlineno__" 297 (.int 32 296),dR P "__static_attributes__" 298 94,dE P "__doc__" 299 .none] 2
def o96:Ob:=λ P=>⟨(.type "type"),none,(.cls ⟨"BadCloth",[(.ref 71)],[(.ref 96),(.ref 71),(.type "ValueError"),(.type "Exception"),(.type "BaseException"),(.type "object")],95,"BadCloth",true,[],[],false,none,false⟩), #[(some (.ref 87)),none,(some (.str "BadCloth" 286)),(some (.str "BadCloth" 294)),(some (.builtin "ValueError.__new__")),(some (.bool true))]⟩
def On:Ob:=λ P=>co "is_whole" "is_whole" 306 36 1 3 99 true 100 (.ref 101) (.ref 102) (.ref 103) 310 311
def Pk:Ob:=λ P=>fo "is_whole" "is_whole" (top 18) "loomwright.words" 302 104
def O2:Ob:=λ P=>co "is_among" "is_among" 313 38 3 3 106 true 107 (.ref 108) (.ref 109) (.ref 110) 319 320
def Oz:Ob:=λ P=>fo "is_among" "is_among" (top 19) "loomwright.words" 302 111
def ON:Ob:=λ P=>co "is_colour" "is_colour" 322 40 1 3 113 true 114 (.ref 115) (.ref 116) (.ref 117) 326 327
def Ol:Ob:=λ P=>fo "is_colour" "is_colour" (top 20) "loomwright.words" 302 118
def O9:Ob:=λ P=>co "need_cloth" "need_cloth" 331 43 2 3 120 true 121 .none .none (.ref 122) 334 335
def NY:Ob:=λ P=>fo "need_cloth" "need_cloth" (top 22) "loomwright.cloth" 329 123
def NT:Ob:=λ P=>co "__init__" "Cloth.__init__" 349 52 3 3 132 true 133 (.ref 134) (.ref 135) (.ref 136) 355 356
def O4:Ob:=λ P=>fo "__init__" "Cloth.__init__" (AJ (top 23) 0) "loomwright.cloth" 329 137
def Ou:Ob:=λ P=>co "told" "Cloth.told" 358 57 1 3 139 true 140 (.ref 141) (.ref 142) (.ref 143) 362 363
def OU:Ob:=λ P=>fo "told" "Cloth.told" (AJ (top 23) 1) "loomwright.cloth" 329 144
def Pf:Ob:=λ P=>co "ends" "Cloth.ends" 365 60 1 3 146 true 147 (.ref 148) (.ref 149) (.ref 150) 369 370
def O1:Ob:=λ P=>fo "ends" "Cloth.ends" (AJ (top 23) 2) "loomwright.cloth" 329 151
def Os:Ob:=λ P=>co "picks" "Cloth.picks" 372 63 1 3 153 true 154 (.ref 155) (.ref 156) (.ref 157) 376 377
def Oq:Ob:=λ P=>fo "picks" "Cloth.picks" (AJ (top 23) 3) "loomwright.cloth" 329 158
def NN:Ob:=λ P=>co "row_at" "Cloth.row_at" 379 66 2 3 160 true 161 (.ref 162) (.ref 163) (.ref 164) 384 385
def OZ:Ob:=λ P=>fo "row_at" "Cloth.row_at" (AJ (top 23) 4) "loomwright.cloth" 329 165
def Of:Ob:=λ P=>co "column_at" "Cloth.column_at" 387 69 2 3 167 true 168 (.ref 169) (.ref 170) (.ref 171) 392 393
def OY:Ob:=λ P=>fo "column_at" "Cloth.column_at" (AJ (top 23) 5) "loomwright.cloth" 329 172
def Pm:Ob:=λ P=>co "is_up" "Cloth.is_up" 395 72 3 3 174 true 175 (.ref 176) (.ref 177) (.ref 178) 401 402
def Oh:Ob:=λ P=>fo "is_up" "Cloth.is_up" (AJ (top 23) 6) "loomwright.cloth" 329 179
def O5:Ob:=λ P=>tu #[(.str "rows" 404),(.str "width" 405)]
def Pq:Ob:=λ P=>di #[dE P "__module__" 344 (.str "loomwright.cloth" 329),dE P "__firstlineno__" 348 (.int 50 347),dR P "__init__" 357 138,dR P "told" 364 145,dR P "ends" 371 152,dR P "picks" 378 159,dR P "row_at" 386 166,dR P "column_at" 394 173,dR P "is_up" 403 180,dR P "__static_attributes__" 406 181,dR P "__dict__" 408 184,dR P "__weakref__" 410 185,dE P "__doc__" 411 .none] 4
def OM:Ob:=λ P=>⟨(.type "type"),none,(.cls ⟨"Cloth",[(.type "object")],[(.ref 183),(.type "object")],182,"Cloth",true,[],[],false,none,false⟩), #[none,none,(some (.str "Cloth" 337)),(some (.str "Cloth" 345)),(some (.builtin "object.__new__")),(some (.bool true))]⟩
def NZ:Ob:=λ P=>⟨(.type "getset_descriptor"),none,(.fields #[(.str "__dict__" 407),(.ref 183),(.builtin "function.__dict__"),(.builtin "function.__dict__#set")]), #[]⟩
def Oa:Ob:=λ P=>⟨(.type "getset_descriptor"),none,(.fields #[(.str "__weakref__" 409),(.ref 183),(.builtin "ExceptionGroup.__weakref__"), .none]), #[]⟩
def N6:Ob:=λ P=>co "lift_by" "lift_by" 416 75 2 3 188 true 189 .none .none (.ref 190) 419 420
def O8:Ob:=λ P=>fo "lift_by" "lift_by" (top 25) "loomwright.weaving" 414 191
def Ow:Ob:=λ P=>co "lifts_of" "lifts_of" 422 77 1 3 193 true 194 .none .none (.ref 195) 425 426
def N3:Ob:=λ P=>fo "lifts_of" "lifts_of" (top 26) "loomwright.weaving" 414 196
def NV:Ob:=λ P=>co "ends_through" "ends_through" 428 80 2 3 198 true 199 .none .none (.ref 200) 431 432
def N1:Ob:=λ P=>fo "ends_through" "ends_through" (top 27) "loomwright.weaving" 414 201
def OR:Ob:=λ P=>co "shaft_ends" "shaft_ends" 434 82 2 3 203 true 204 .none .none (.ref 205) 437 438
def N2:Ob:=λ P=>fo "shaft_ends" "shaft_ends" (top 28) "loomwright.weaving" 414 206
def Oo:Ob:=λ P=>co "row_by" "row_by" 440 84 2 3 208 true 209 .none .none (.ref 210) 443 444
def OL:Ob:=λ P=>fo "row_by" "row_by" (top 29) "loomwright.weaving" 414 211
def Oc:Ob:=λ P=>co "woven" "woven" 446 86 1 3 213 true 214 .none .none (.ref 215) 449 450
def NU:Ob:=λ P=>fo "woven" "woven" (top 30) "loomwright.weaving" 414 216
def N0:Ob:=λ P=>co "seen_row" "seen_row" 454 90 3 3 218 true 219 .none .none (.ref 220) 457 458
def Ps:Ob:=λ P=>fo "seen_row" "seen_row" (top 32) "loomwright.colours" 452 221
def NO:Ob:=λ P=>co "behind_row" "behind_row" 460 92 3 3 223 true 224 .none .none (.ref 225) 463 464
def NH:Ob:=λ P=>fo "behind_row" "behind_row" (top 33) "loomwright.colours" 452 226
def N7:Ob:=λ P=>co "seen" "seen" 466 95 1 3 228 true 229 .none .none (.ref 230) 469 470
def Pb:Ob:=λ P=>fo "seen" "seen" (top 34) "loomwright.colours" 452 231
def Om:Ob:=λ P=>co "seen_behind" "seen_behind" 472 97 1 3 233 true 234 .none .none (.ref 235) 475 476
def Pe:Ob:=λ P=>fo "seen_behind" "seen_behind" (top 35) "loomwright.colours" 452 236
def OT:Ob:=λ P=>co "need" "need" 480 100 2 3 238 true 239 (.ref 240) (.ref 241) (.ref 242) 485 486
def Pj:Ob:=λ P=>fo "need" "need" (top 37) "loomwright.draft" 478 243
def Pp:Ob:=λ P=>co "is_list" "is_list" 488 103 3 3 245 true 246 (.ref 247) (.ref 248) (.ref 249) 494 495
def NM:Ob:=λ P=>fo "is_list" "is_list" (top 38) "loomwright.draft" 478 250
def OO:Ob:=λ P=>co "is_rising" "is_rising" 497 105 2 3 252 true 253 (.ref 254) (.ref 255) (.ref 256) 504 505
def Ov:Ob:=λ P=>fo "is_rising" "is_rising" (top 39) "loomwright.draft" 478 257
def Pn:Ob:=λ P=>co "are_rising" "are_rising" 507 114 2 3 259 true 260 .none .none (.ref 261) 510 511
def OK:Ob:=λ P=>fo "are_rising" "are_rising" (top 40) "loomwright.draft" 478 262
def OJ:Ob:=λ P=>co "are_colours" "are_colours" 513 116 2 3 264 true 265 .none .none (.ref 266) 516 517
def OH:Ob:=λ P=>fo "are_colours" "are_colours" (top 41) "loomwright.draft" 478 267
def Pl:Ob:=λ P=>co "need_draft" "need_draft" 519 118 7 3 269 true 270 .none .none (.ref 271) 522 523
def NI:Ob:=λ P=>fo "need_draft" "need_draft" (top 42) "loomwright.draft" 478 272
def Ox:Ob:=λ P=>co "__init__" "Draft.__init__" 537 131 8 3 281 true 282 .none .none (.ref 283) 540 541
def Pi:Ob:=λ P=>fo "__init__" "Draft.__init__" (AJ (top 43) 0) "loomwright.draft" 478 284
def NR:Ob:=λ P=>co "told" "Draft.told" 543 141 1 3 286 true 287 .none .none (.ref 288) 546 547
def NP:Ob:=λ P=>fo "told" "Draft.told" (AJ (top 43) 1) "loomwright.draft" 478 289
def OB:Ob:=λ P=>co "ends" "Draft.ends" 549 144 1 3 291 true 292 (.ref 293) (.ref 294) (.ref 295) 553 554
def OD:Ob:=λ P=>fo "ends" "Draft.ends" (AJ (top 43) 2) "loomwright.draft" 478 296
def OF:Ob:=λ P=>co "picks" "Draft.picks" 556 147 1 3 298 true 299 (.ref 300) (.ref 301) (.ref 302) 560 561
def OC:Ob:=λ P=>fo "picks" "Draft.picks" (AJ (top 43) 3) "loomwright.draft" 478 303
def Pc:Ob:=λ P=>tu #[(.str "shafts" 563),(.str "threading" 564),(.str "ties" 565),(.str "treading" 566),(.str "treadles" 567),(.str "warp" 568),(.str "weft" 569)]
def OE:Ob:=λ P=>di #[dE P "__module__" 532 (.str "loomwright.draft" 478),dE P "__firstlineno__" 536 (.int 129 535),dR P "__init__" 542 285,dR P "told" 548 290,dR P "ends" 555 297,dR P "picks" 562 304,dR P "__static_attributes__" 570 305,dR P "__dict__" 572 308,dR P "__weakref__" 574 309,dE P "__doc__" 575 .none] 4
def N5:Ob:=λ P=>⟨(.type "type"),none,(.cls ⟨"Draft",[(.type "object")],[(.ref 307),(.type "object")],306,"Draft",true,[],[],false,none,false⟩), #[none,none,(some (.str "Draft" 525)),(some (.str "Draft" 533)),(some (.builtin "object.__new__")),(some (.bool true))]⟩
def NS:Ob:=λ P=>⟨(.type "getset_descriptor"),none,(.fields #[(.str "__dict__" 571),(.ref 307),(.builtin "function.__dict__"),(.builtin "function.__dict__#set")]), #[]⟩
def N8:Ob:=λ P=>⟨(.type "getset_descriptor"),none,(.fields #[(.str "__weakref__" 573),(.ref 307),(.builtin "ExceptionGroup.__weakref__"), .none]), #[]⟩
def Og:Ob:=λ P=>co "_law_mixed" "_law_mixed" 580 150 2 3 312 true 313 (.ref 314) (.ref 315) (.ref 316) 585 586
def OS:Ob:=λ P=>fo "_law_mixed" "_law_mixed" (top 45) "law_loomwright_k14_colours_seen" 578 317
def NX:Ob:=λ P=>co "_law_same" "_law_same" 588 153 2 3 319 true 320 .none .none (.ref 321) 591 592
def O6:Ob:=λ P=>fo "_law_same" "_law_same" (top 46) "law_loomwright_k14_colours_seen" 578 322
def NL:Ob:=λ P=>co "_law_cells" "_law_cells" 594 159 2 3 324 true 325 .none .none (.ref 326) 597 598
def O0:Ob:=λ P=>fo "_law_cells" "_law_cells" (top 47) "law_loomwright_k14_colours_seen" 578 327
def Ot:Ob:=λ P=>co "_law_numbers" "_law_numbers" 600 162 2 3 329 true 330 .none .none (.ref 331) 603 604
def OI:Ob:=λ P=>fo "_law_numbers" "_law_numbers" (top 48) "law_loomwright_k14_colours_seen" 578 332
def OV:Ob:=λ P=>co "_law_draft" "_law_draft" 606 164 2 3 334 true 335 .none .none (.ref 336) 609 610
def Oe:Ob:=λ P=>fo "_law_draft" "_law_draft" (top 49) "law_loomwright_k14_colours_seen" 578 337
def NW:Ob:=λ P=>co "_law_copied" "_law_copied" 612 178 1 3 339 true 340 .none .none (.ref 341) 615 616
def O7:Ob:=λ P=>fo "_law_copied" "_law_copied" (top 50) "law_loomwright_k14_colours_seen" 578 342
def OA:Ob:=λ P=>co "_law_made" "_law_made" 618 184 1 3 344 true 345 (.ref 346) (.ref 347) (.ref 348) 629 630
def OX:Ob:=λ P=>fo "_law_made" "_law_made" (top 51) "law_loomwright_k14_colours_seen" 578 349
def Oy:Ob:=λ P=>co "_law_is_up" "_law_is_up" 632 187 3 3 351 true 352 (.ref 353) (.ref 354) (.ref 355) 639 640
def OQ:Ob:=λ P=>fo "_law_is_up" "_law_is_up" (top 52) "law_loomwright_k14_colours_seen" 578 356
def O3:Ob:=λ P=>co "_law_line" "_law_line" 642 192 3 3 358 true 359 (.ref 360) (.ref 361) (.ref 362) 651 652
def Po:Ob:=λ P=>fo "_law_line" "_law_line" (top 53) "law_loomwright_k14_colours_seen" 578 363
def Oj:Ob:=λ P=>co "law" "law" 654 200 1 3 365 true 366 .none .none (.ref 367) 657 658
def Pg:Ob:=λ P=>fo "law" "law" (top 54) "law_loomwright_k14_colours_seen" 578 368
def frag (P:Params):Frag:=(nat_lit 2,boot_o_2 P)::(nat_lit 3,o3 P)::(nat_lit 20,o20 P)::(nat_lit 21,o21 P)::(nat_lit 27,o27 P)::(nat_lit 28,o28 P)::(nat_lit 34,o34 P)::(nat_lit 35,o35 P)::(nat_lit 41,o41 P)::(nat_lit 42,o42 P)::(nat_lit 48,o48 P)::(nat_lit 49,o49 P)::(nat_lit 53,o53 P)::(nat_lit 54,o54 P)::(nat_lit 60,o60 P)::(nat_lit 61,o61 P)::(nat_lit 62,o62 P)::(nat_lit 69,o69 P)::(nat_lit 70,o70 P)::(nat_lit 71,o71 P)::(nat_lit 72,o72 P)::(nat_lit 75,o75 P)::(nat_lit 82,o82 P)::(nat_lit 83,o83 P)::(nat_lit 84,o84 P)::(nat_lit 87,o87 P)::(nat_lit 94,o94 P)::(nat_lit 95,o95 P)::(nat_lit 96,o96 P)::(nat_lit 104,On P)::(nat_lit 105,Pk P)::(nat_lit 111,O2 P)::(nat_lit 112,Oz P)::(nat_lit 118,ON P)::(nat_lit 119,Ol P)::(nat_lit 123,O9 P)::(nat_lit 124,NY P)::(nat_lit 137,NT P)::(nat_lit 138,O4 P)::(nat_lit 144,Ou P)::(nat_lit 145,OU P)::(nat_lit 151,Pf P)::(nat_lit 152,O1 P)::(nat_lit 158,Os P)::(nat_lit 159,Oq P)::(nat_lit 165,NN P)::(nat_lit 166,OZ P)::(nat_lit 172,Of P)::(nat_lit 173,OY P)::(nat_lit 179,Pm P)::(nat_lit 180,Oh P)::(nat_lit 181,O5 P)::(nat_lit 182,Pq P)::(nat_lit 183,OM P)::(nat_lit 184,NZ P)::(nat_lit 185,Oa P)::(nat_lit 191,N6 P)::(nat_lit 192,O8 P)::(nat_lit 196,Ow P)::(nat_lit 197,N3 P)::(nat_lit 201,NV P)::(nat_lit 202,N1 P)::(nat_lit 206,OR P)::(nat_lit 207,N2 P)::(nat_lit 211,Oo P)::(nat_lit 212,OL P)::(nat_lit 216,Oc P)::(nat_lit 217,NU P)::(nat_lit 221,N0 P)::(nat_lit 222,Ps P)::(nat_lit 226,NO P)::(nat_lit 227,NH P)::(nat_lit 231,N7 P)::(nat_lit 232,Pb P)::(nat_lit 236,Om P)::(nat_lit 237,Pe P)::(nat_lit 243,OT P)::(nat_lit 244,Pj P)::(nat_lit 250,Pp P)::(nat_lit 251,NM P)::(nat_lit 257,OO P)::(nat_lit 258,Ov P)::(nat_lit 262,Pn P)::(nat_lit 263,OK P)::(nat_lit 267,OJ P)::(nat_lit 268,OH P)::(nat_lit 272,Pl P)::(nat_lit 273,NI P)::(nat_lit 284,Ox P)::(nat_lit 285,Pi P)::(nat_lit 289,NR P)::(nat_lit 290,NP P)::(nat_lit 296,OB P)::(nat_lit 297,OD P)::(nat_lit 303,OF P)::(nat_lit 304,OC P)::(nat_lit 305,Pc P)::(nat_lit 306,OE P)::(nat_lit 307,N5 P)::(nat_lit 308,NS P)::(nat_lit 309,N8 P)::(nat_lit 317,Og P)::(nat_lit 318,OS P)::(nat_lit 322,NX P)::(nat_lit 323,O6 P)::(nat_lit 327,NL P)::(nat_lit 328,O0 P)::(nat_lit 332,Ot P)::(nat_lit 333,OI P)::(nat_lit 337,OV P)::(nat_lit 338,Oe P)::(nat_lit 342,NW P)::(nat_lit 343,O7 P)::(nat_lit 349,OA P)::(nat_lit 350,OX P)::(nat_lit 356,Oy P)::(nat_lit 357,OQ P)::(nat_lit 363,O3 P)::(nat_lit 364,Po P)::(nat_lit 368,Oj P)::(nat_lit 369,Pg P)::[]
def addrs:List Addr:=[2,3,20,21,27,28,34,35,41,42,48,49,53,54,60,61,62,69,70,71,72,75,82,83,84,87,94,95,96,104,105,111,112,118,119,123,124,137,138,144,145,151,152,158,159,165,166,172,173,179,180,181,182,183,184,185,191,192,196,197,201,202,206,207,211,212,216,217,221,222,226,227,231,232,236,237,243,244,250,251,257,258,262,263,267,268,272,273,284,285,289,290,296,297,303,304,305,306,307,308,309,317,318,322,323,327,328,332,333,337,338,342,343,349,350,356,357,363,364,368,369]
def view:Program:={ PySem.Challenge.pw_loomwright_k14_colours_seen with main:={ PySem.Challenge.pw_loomwright_k14_colours_seen.main with body:=[top 0,top 2,top 3,top 4,top 5,top 6,top 7,top 8,top 9,top 10,top 11,top 13,top 14,top 15,top 17,top 18,top 19,top 20,top 22,top 23,top 25,top 26,top 27,top 28,top 29,top 30,top 32,top 33,top 34,top 35,top 37,top 38,top 39,top 40,top 41,top 42,top 43,top 45,top 46,top 47,top 48,top 49,top 50,top 51,top 52,top 53,top 54] } }
abbrev Xt:Shared->Bool:=λ s=>xlAt view [] s&&recOk (RowW.records PySem.Challenge.rw_loomwright_k14_colours_seen.row.toRowW) s
theorem addrs_eq:∀ P:Params,addrs=(frag P).map (·.1):=λ _=>by kernel_rfl
abbrev hook:Hook:=kHook frag addrs addrs_eq
abbrev fuel:Nat:=5118
def _root_.PySem.W.Fast.tw16192304345935068539:Program:=PySem.Challenge.pw_loomwright_k14_colours_seen
theorem _root_.PySem.W.Fast.te16192304345935068539:PySem.Challenge.pw_loomwright_k14_colours_seen=PySem.W.Fast.tw16192304345935068539:=rfl
theorem Ny:(λ _=>true) (HX.topT treeTable)=true:=by k_qdec
theorem wsaid:PySem.Challenge.rw_loomwright_k14_colours_seen.wellSaid=true:=by k_qdec
theorem Pd (w:World) (os:OsState):(HX.topT treeTable PySem.Challenge.pw_loomwright_k14_colours_seen w 11 (some (.ref 6)) fuel ⟨HX.bootT w.params,11,{},Array.mk [],boot_drawn,boot_toks,os⟩ (topStub PySem.Challenge.pw_loomwright_k14_colours_seen)).map (λ s=>((staticsOk (importedModules PySem.Challenge.pw_loomwright_k14_colours_seen.main.body) (boot_heap w.params) s.abs.heap&&namesBound PySem.Challenge.pw_loomwright_k14_colours_seen s.abs.heap&&gensDone s.abs&&laidKept (boot_heap w.params) s.abs.heap),addrs.map s.abs.heap.get?))=some (true,((frag w.params).map λ p=>some p.2)):=by
  have _tw:=Ny;rw [PySem.W.Fast.te5923862056798008813,PySem.W.Fast.te14364793385576792824,PySem.W.Fast.te9621378704136392807];kernel_rfl
theorem N4 (w:World) (os:OsState):(HX.topT treeTable PySem.Challenge.pw_loomwright_k14_colours_seen w 11 (some (.ref 6)) fuel ⟨HX.bootT w.params,11,{},Array.mk [],boot_drawn,boot_toks,os⟩ (topStub PySem.Challenge.pw_loomwright_k14_colours_seen)).map (λ s=>(openSeen view [] (importedModules PySem.Challenge.pw_loomwright_k14_colours_seen.main.body) Xt true s.abs))=some (openGood view []):=by
  unfold Xt;rw [PySem.W.Fast.te5923862056798008813,PySem.W.Fast.te4187177175401517315,PySem.W.Fast.te2368527892694137696,PySem.W.Fast.te14364793385576792824,PySem.W.Fast.te9621378704136392807];kernel_rfl
theorem left:LeftO PySem.Challenge.pw_loomwright_k14_colours_seen view [] Xt hook.obs hook.val fuel:=HX.left_run (by kernel_rfl) (by decide) (λ s=>by kernel_rfl) HX.hb λ w os=>by
  obtain ⟨s,r,l⟩:=Option.map_eq_some_iff.mp (Pd w os);obtain ⟨s2,r2,l2⟩:=Option.map_eq_some_iff.mp (N4 w os);cases r.symm.trans r2;exact ⟨s.abs,HX.topT_of r,HX.three l l2⟩
end K14
namespace L2
open PySem PySem.Spec PyProof.Rows
abbrev Key:=Sum Int Str
def Lt:Key->Value->Bool
  | .inl k,v=>Value.isInt k v
  | .inr x,v=>Value.isStrOf x v
def Pr (w:World):Key->Int
  | .inl k=>hashInt k
  | .inr x=>hashStr w x
theorem AD:∀ {k:Key} {v:Value},Lt k v=true->(∃ i t,k=Sum.inl i/\v=Value.int i t)\/(∃ x t,k=Sum.inr x/\v=Value.str x t)
  | .inl i,v,h=>by
    obtain ⟨t,e⟩:=Value.isInt_shape (k:=i) (v:=v) h;exact .inl ⟨i,t,rfl,e⟩
  | .inr x,v,h=>by
    obtain ⟨t,e⟩:=Value.isStrOf_shape (x:=x) (v:=v) h;exact .inr ⟨x,t,rfl,e⟩
theorem L5 (a b:Int):decide ((Sum.inl a:Key)=Sum.inl b)=(a == b):=by
  by_cases e:a=b
  · subst e;simp
  · have h:¬ (Sum.inl a:Key)=Sum.inl b:=λ q=>e (Sum.inl.inj q);rw [decide_eq_false h];exact (beq_eq_false_iff_ne.mpr e).symm
theorem LQ (a b:Str):decide ((Sum.inr a:Key)=Sum.inr b)=decide (a=b):=by
  by_cases e:a=b
  · subst e;simp
  · have h:¬ (Sum.inr a:Key)=Sum.inr b:=λ q=>e (Sum.inr.inj q);rw [decide_eq_false h,decide_eq_false e]
theorem MD (a:Int) (b:Str):decide ((Sum.inl a:Key)=Sum.inr b)=false:=decide_eq_false (λ q=>nomatch q)
theorem L1 (a:Str) (b:Int):decide ((Sum.inr a:Key)=Sum.inl b)=false:=decide_eq_false (λ q=>nomatch q)
def Ga (prog:Program) (w:World):PySem.KeyKind prog w Key where
  is:=Lt
  hash:=Pr w
  inj:=λ v a b ha hb=>by
    rcases AD ha with ⟨i,t,rfl,rfl⟩ | ⟨x,t,rfl,rfl⟩
    · rcases AD hb with ⟨j,u,rfl,e⟩ | ⟨y,u,rfl,e⟩
      · injection e with e1 _;rw [e1]
      · exact nomatch e
    · rcases AD hb with ⟨j,u,rfl,e⟩ | ⟨y,u,rfl,e⟩
      · exact nomatch e
      · injection e with e1 _;rw [e1]
  byValue:=λ k v h=>by
    rcases AD h with ⟨i,t,rfl,rfl⟩ | ⟨x,t,rfl,rfl⟩ <;> rfl
  pyHash:=λ hv h=>by
    rcases AD hv with ⟨i,t,rfl,rfl⟩ | ⟨x,t,rfl,rfl⟩
    · exact wpAny_pyHash_int h
    · exact wpAny_pyHash_str h
  eqBool:=λ hu hv h=>by
    rcases AD hu with ⟨i,t,rfl,rfl⟩ | ⟨x,t,rfl,rfl⟩
    · rcases AD hv with ⟨j,u,rfl,rfl⟩ | ⟨y,u,rfl,rfl⟩
      · rw [L5] at h;exact wpAny_eqBool_int h
      · rw [MD] at h;exact SeqAt.EqAt.int_str i t y u _ _ _ _ h
    · rcases AD hv with ⟨j,u,rfl,rfl⟩ | ⟨y,u,rfl,rfl⟩
      · rw [L1] at h;exact SeqAt.EqAt.str_int x t j u _ _ _ _ h
      · rw [LQ] at h;exact wpAny_eqBool_str h
  «strs» := λ k x t v h=>by
    rcases AD h with ⟨i,u,rfl,e⟩ | ⟨y,u,rfl,e⟩
    · exact nomatch e
    · injection e with e1 _;subst e1;cases v <;> rfl
inductive V where
  | non | bl (b:Bool) | int (i:Int) | str (x:Str) | byt (b:Array UInt8) | flt (b:UInt64) | ref (a:Addr) | ty (n:String)
  deriving DecidableEq
def RelV:V->Value->Prop
  | .non,u=>u=Value.none
  | .bl b,u=>u=Value.bool b
  | .int i,u=>∃ t,u=Value.int i t
  | .str x,u=>∃ t,u=Value.str x t
  | .byt b,u=>∃ t,u=Value.bytes b t
  | .flt b,u=>∃ t,u=Value.float b t
  | .ref a,u=>u=Value.ref a
  | .ty n,u=>u=Value.type n
abbrev Vals:List V->List Value->Prop:=Paired RelV
theorem Vals.length {xs:List V} {us:List Value} (r:Vals xs us):xs.length=us.length:=Paired.length r
theorem Vals.get:∀ {xs:List V} {us:List Value} {i:Nat} {x:V},Vals xs us->xs[i]?=some x->∃ u,us[i]?=some u/\RelV x u
  | _,_,_,_, .nil,e=>by simp at e
  | _,_,0,_, .cons r _,e=>by simp at e;subst e;exact ⟨_,rfl,r⟩
  | _,_,i+1,x, .cons _ t,e=>by
    obtain ⟨u,h1,h2⟩:=Vals.get (i:=i) (x:=x) t (by simpa using e);exact ⟨u,by simpa using h1,h2⟩
theorem Vals.append:∀ {xs ys:List V} {us ws:List Value},Vals xs us->Vals ys ws->Vals (xs++ys) (us++ws)
  | _,_,_,_, .nil,s=>s
  | _,_,_,_, .cons r t,s=> .cons r (Vals.append t s)
theorem Vals.take:∀ {xs:List V} {us:List Value} (n:Nat),Vals xs us->Vals (xs.take n) (us.take n)
  | _,_,0,_=> .nil
  | _,_,_+1, .nil=> .nil
  | _,_,n+1, .cons r t=> .cons r (Vals.take n t)
theorem Vals.drop:∀ {xs:List V} {us:List Value} (n:Nat),Vals xs us->Vals (xs.drop n) (us.drop n)
  | _,_,0,r=>r
  | _,_,_+1, .nil=> .nil
  | _,_,n+1, .cons _ t=>Vals.drop n t
def RelO:Option V->Option Value->Prop
  | some v,some u=>RelV v u
  | none,none=>True
  | _,_=>False
def KV {κ:Type}:List (κ × V)->List (κ × Value)->Prop:=Paired λ (p:κ × V) (q:κ × Value)=>p.1=q.1/\RelV p.2 q.2
def kV:Key->V
  | .inl i=> .int i
  | .inr x=> .str x
inductive HO where
  | lst (xs:List V)
  | tup (xs:List V)
  | dK (kvs:List (Key × V)) | dT (kvs:List (List Key × V))
  | set (S:Int->Bool) (n:Nat)
  | ins (C dx:Addr) (fs:List (Str × V))
  | own (x:Addr)
  | xd (fs:List (Str × V))
  | met (f x:Addr)
  | rng (lo hi:Int)
  | frz (o:Obj) (u:HO)
  | tbl (ps:Array Value)
  | ext (φ:Heap->Prop)
abbrev Hp:=Addr->Option HO
def upd (H:Hp) (a:Addr) (o:HO):Hp:=λ b=>if b=a then some o else H b
theorem Ag {H:Hp} {a:Addr} {o:HO}:upd H a o a=some o:=by unfold upd;rw [if_pos rfl]
theorem Ao {H:Hp} {a b:Addr} {o:HO} (h:b≠a):upd H a o b=H b:=by unfold upd;rw [if_neg h]
theorem DQ {H:Hp} {a b:Addr} {o u:HO} (h:H a=some o) (h':H b=some u) (d:o≠u):a≠b:=by
  intro e;subst e;rw [h] at h';exact d (Option.some.inj h')
theorem Ap {H:Hp} {a b:Addr} {o:HO} (h:H a=some o) (h':H b=none):a≠b:=by
  intro e;subst e;rw [h] at h';cases h'
section
variable (P:Program) (w:World)
def ObjOk (H:Hp) (h:Heap) (a:Addr):HO->Prop
  | .lst xs=>xs.length<=sizeLine/\∃ (its:List Value) (n:Nat),Vals xs its/\h.get? a=some { cls:= .type "list",data:= .seq its.toArray n }
  | .tup xs=>xs.length<=sizeLine/\∃ its:List Value,Vals xs its/\IsTup h a its.toArray
  | .dK kvs=>kvs.length<=sizeLine/\(a == sysModules)=false/\∃ vs,KV kvs vs/\h.DictOf (Ga P w) a vs
  | .dT kvs=>kvs.length<=sizeLine/\(a == sysModules)=false/\∃ xs:List (List Key × Addr × Value),
      Paired (λ (p:List Key × V) (q:List Key × Addr × Value)=>p.1=q.1/\H q.2.1=some (.tup (p.1.map kV))/\RelV p.2 q.2.2) kvs xs/\
      ∃ o es ep,h.get? a=some o/\o.ExactDict/\o.data= .dict es ep/\es.toList=xs.map (entryOfKey (tupleKind (Ga P w)))/\(xs.map (·.1)).Nodup
  | .set S n=>h.SetOf (intKind P w) a S n
  | .ins C dx fs=>H dx=some (.own a)/\fs.length<=1000/\dx≠a/\h.get? a=some (PySem.W.instObj C dx)/\
      ∃ mA,h.Ns1 dx mA/\(∀ f,RelO (fs.lookup f) (mA f))/\PySem.Within mA (fs.map (·.1))
  | .own _=>∃ o,h.get? a=some o
  | .xd fs=>∃ mA,h.Ns1 a mA/\∀ f,RelO (fs.lookup f) (mA f)
  | .rng lo hi=>∃ t u v,h.get? a=some { cls:= .type "range",data:= .fields #[.int lo t, .int hi u, .int 1 v] }
  | .frz o u=>h.get? a=some o/\ObjOk H h a u
  | .tbl ps=>h.get? a=some { cls:= .none,data:= .fields ps }
  | .met f x=>h.get? a=some (PySem.W.methodObj (.ref f) (.ref x))
  | .ext φ=>φ h/\(∃ o,h.get? a=some o)/\∀ h1 h2:Heap,φ h1->(∀ o,h1.get? a=some o->h2.get? a=some o)->φ h2
def HOk (H:Hp) (h:Heap):Prop:=∀ a o,H a=some o->ObjOk P w H h a o
end
section
variable {P:Program} {w:World} {H H':Hp} {h h':Heap} {a:Addr} {o:HO}
theorem ObjOk.lt (x:ObjOk P w H h a o):a<h.objs.size:=by
  cases o with
  | lst xs=>obtain ⟨_,_,_,_,e⟩:=x;exact Heap.lt_size e
  | tup xs=>obtain ⟨_,_,_,p⟩:=x;exact p.lt
  | dK kvs=>obtain ⟨_,_,_,_,o,_,_,e,_⟩:=x;exact Heap.lt_size e
  | dT kvs=>obtain ⟨_,_,_,_,o,_,_,e,_⟩:=x;exact Heap.lt_size e
  | set S n=>obtain ⟨o,_,_,_,e,_⟩:=x;exact Heap.lt_size e
  | ins C dx fs=>obtain ⟨_,_,_,e,_⟩:=x;exact Heap.lt_size e
  | own y=>obtain ⟨_,e⟩:=x;exact Heap.lt_size e
  | xd fs=>obtain ⟨_,⟨_,_,_,e,_⟩,_⟩:=x;exact Heap.lt_size e
  | rng lo hi=>obtain ⟨_,_,_,e⟩:=x;exact Heap.lt_size e
  | frz ob u=>obtain ⟨e,_⟩:=x;exact Heap.lt_size e
  | tbl ps=>exact Heap.lt_size (show h.get? a=some _ from x)
  | met f y=>exact Heap.lt_size (show h.get? a=some _ from x)
  | ext φ=>obtain ⟨_,⟨_,e⟩,_⟩:=x;exact Heap.lt_size e
theorem Paired.mapP {α β:Type} {F G:α->β->Prop}:∀ {l₁:List α} {l₂:List β},Paired F l₁ l₂->(∀ a b,F a b->G a b)->Paired G l₁ l₂
  | _,_, .nil,_=> .nil
  | _,_, .cons r t,f=> .cons (f _ _ r) (Paired.mapP t f)
theorem ObjOk.stay (x:ObjOk P w H h a o) (k:∀ b u,(b=a\/H b=some (.own a))->h.get? b=some u->h'.get? b=some u)
    (ho:∀ b,H b=some (.own a)->H' b=some (.own a)) (ht:∀ b xs,H b=some (.tup xs)->H' b=some (.tup xs)):ObjOk P w H' h' a o:=by
  induction o with
  | lst xs=>obtain ⟨z,its,n,r,e⟩:=x;exact ⟨z,its,n,r,k _ _ (.inl rfl) e⟩
  | tup xs=>obtain ⟨z,its,r,ob,e,c⟩:=x;exact ⟨z,its,r,ob,k _ _ (.inl rfl) e,c⟩
  | dK kvs=>obtain ⟨z,y,vs,r,ob,es,ep,e,c⟩:=x;exact ⟨z,y,vs,r,ob,es,ep,k _ _ (.inl rfl) e,c⟩
  | dT kvs=>
    obtain ⟨z,y,xs,r,ob,es,ep,e,c⟩:=x;exact ⟨z,y,xs,Paired.mapP r λ p q z=>⟨z.1,ht _ _ z.2.1,z.2.2⟩,ob,es,ep,k _ _ (.inl rfl) e,c⟩
  | set S n=>obtain ⟨ob,es,ep,t,e,c⟩:=x;exact ⟨ob,es,ep,t,k _ _ (.inl rfl) e,c⟩
  | ins C dx fs=>
    obtain ⟨d,z,ne,e,mA,⟨od,es,ep,e2,c⟩,r⟩:=x;exact ⟨ho _ d,z,ne,k _ _ (.inl rfl) e,mA,⟨od,es,ep,k _ _ (.inr d) e2,c⟩,r⟩
  | own y=>obtain ⟨ob,e⟩:=x;exact ⟨ob,k _ _ (.inl rfl) e⟩
  | xd fs=>obtain ⟨mA,⟨od,es,ep,e,c⟩,r⟩:=x;exact ⟨mA,⟨od,es,ep,k _ _ (.inl rfl) e,c⟩,r⟩
  | rng lo hi=>obtain ⟨t,u,v,e⟩:=x;exact ⟨t,u,v,k _ _ (.inl rfl) e⟩
  | frz ob u ih=>obtain ⟨e,q⟩:=x;exact ⟨k _ _ (.inl rfl) e,ih q⟩
  | tbl ps=>
    have e:h.get? a=some { cls:= .none,data:= .fields ps }:=x;show h'.get? a=some { cls:= .none,data:= .fields ps };exact k a _ (.inl rfl) e
  | met f y=>
    have e:h.get? a=some (PySem.W.methodObj (.ref f) (.ref y)):=x;show h'.get? a=some (PySem.W.methodObj (.ref f) (.ref y));exact k a _ (.inl rfl) e
  | ext φ=>obtain ⟨p,⟨o,e⟩,st⟩:=x;exact ⟨st _ _ p λ o q=>k _ _ (.inl rfl) q,⟨o,k _ _ (.inl rfl) e⟩,st⟩
theorem HOk.lt (x:HOk P w H h) (e:H a=some o):a<h.objs.size:=(x a o e).lt
theorem HOk.fresh (x:HOk P w H h) (e:h.objs.size<=a):H a=none:=by
  cases q:H a with
  | none=>rfl
  | some u=>exact absurd (Nat.lt_of_lt_of_le (x.lt q) e) (Nat.lt_irrefl _)
theorem HOk.kept (x:HOk P w H h) (k:∀ b u,h.get? b=some u->h'.get? b=some u):HOk P w H h':=λ a o e=>
  (x a o e).stay (λ b u _ q=>k b u q) (λ _ q=>q) λ _ _ q=>q
theorem HOk.laid (x:HOk P w H h) (k:∀ b u,h.get? b=some u->h'.get? b=some u) (hp:h.objs.size<=a) (new:ObjOk P w (upd H a o) h' a o):HOk P w (upd H a o) h':=λ b u e=>by
  have hn:=x.fresh hp;by_cases hb:b=a
  · subst hb;rw [Ag] at e;cases e;exact new
  · rw [Ao hb] at e;exact (x b u e).stay (λ c v _ q=>k c v q) (λ c q=>by rw [Ao (Ap q hn)];exact q) λ c xs q=>by rw [Ao (Ap q hn)];exact q
end
def Rd (H:Hp) (a:Addr) (u:HO):Prop:=H a=some u\/∃ o,H a=some (.frz o u)
theorem Rd.ok {P:Program} {w:World} {H:Hp} {h:Heap} {a:Addr} {u:HO} (r:Rd H a u) (x:HOk P w H h):ObjOk P w H h a u:=by
  rcases r with r | ⟨o,r⟩
  · exact x a u r
  · obtain ⟨_,q⟩:=x a _ r;exact q
def Mut:Option HO->Prop
  | some (.lst _)=>True
  | some (.dK _)=>True
  | some (.dT _)=>True
  | some (.set _ _)=>True
  | some (.ins _ _ _)=>True
  | some (.ext _)=>True
  | _=>False
section
variable {P:Program} {w:World} {H:Hp} {h h':Heap} {x e:Addr} {o':HO}
theorem HOk.write (ok:HOk P w H h) (mu:Mut (H x)) (he:e=x\/H e=some (.own x)) (k:∀ b u,b≠e->h.get? b=some u->h'.get? b=some u) (heo:∃ u,h'.get? e=some u)
    (new:ObjOk P w (upd H x o') h' x o'):HOk P w (upd H x o') h':=λ b u q=>by
  have nown:∀ c y,H c=some (.own y)->c≠x:=λ c y r z=>by subst z;rw [r] at mu;exact mu
  have ntup:∀ c xs,H c=some (.tup xs)->c≠x:=λ c xs r z=>by subst z;rw [r] at mu;exact mu
  by_cases hb:b=x
  · subst hb;rw [Ag] at q;cases q;exact new
  · rw [Ao hb] at q;by_cases hbe:b=e
    · have q':H b=some (.own x):=by
        rcases he with z | z
        · exact absurd (hbe.trans z) hb
        · rw [hbe];exact z
      rw [q] at q';cases q';obtain ⟨v,hv⟩:=heo;exact ⟨v,by rw [hbe];exact hv⟩
    · refine (ok b u q).stay (λ c v hc r=>k c v ?_ r) (λ c r=>by rw [Ao (nown c b r)];exact r) λ c xs r=>by rw [Ao (ntup c xs r)];exact r
      rcases hc with rfl | hc
      · exact hbe
      · rintro rfl;rcases he with z | z
        · exact nown c b hc z
        · rw [hc] at z;cases z;exact hb rfl
end
structure Un (fs ex:List Addr) (H H':Hp) (h h':Heap):Prop where
  keep:∀ b o,h.get? b=some o->H b=none->b∉fs->b∉ex->h'.get? b=some o
  slot:∀ b o,h.get? b=some o->H b=none->b∈fs->b∉ex->∃ sl,h'.get? b=some { o with slots:=sl }
  free:∀ b o,h.get? b=some o->H b=none->b∉ex->H' b=none
  there:∀ b o,h.get? b=some o->b∉ex->∃ o',h'.get? b=some o'
  tups:∀ b xs,H b=some (.tup xs)->H' b=some (.tup xs)
  frzs:∀ b o u,H b=some (.frz o u)->H' b=some (.frz o u)
  tbls:∀ b ps,H b=some (.tbl ps)->∃ more,H' b=some (.tbl (ps++more))
section
variable {fs fs' ex ex':List Addr} {H H1 H2:Hp} {h h1 h2 h':Heap} {a x e:Addr} {o:HO}
theorem Un.any (u:Un fs ex H H1 h h1) {b:Addr} {ob:Obj} (q:h.get? b=some ob) (n:H b=none) (hx:b∉ex):∃ sl,h1.get? b=some { ob with slots:=sl }:=by
  by_cases hb:b∈fs
  · exact u.slot b ob q n hb hx
  · exact ⟨ob.slots,u.keep b ob q n hb hx⟩
theorem Un.kept (k:∀ b u,h.get? b=some u->h'.get? b=some u):Un fs ex H H h h':=
  ⟨λ b ob q _ _ _=>k b ob q,λ b ob q _ _ _=>⟨ob.slots,k b ob q⟩,λ _ _ _ n _=>n,λ b ob q _=>⟨ob,k b ob q⟩,λ _ _ q=>q,λ _ _ _ q=>q,λ _ ps q=>⟨#[],by rw [q];simp⟩⟩
theorem Un.refl:Un fs ex H H h h:=Un.kept λ _ _ q=>q
theorem Un.laid (k:∀ b u,h.get? b=some u->h'.get? b=some u) (hp:h.objs.size<=a) (hn:H a=none):Un fs ex H (upd H a o) h h' where
  keep:=λ b u q _ _ _=>k b u q
  slot:=λ b u q _ _ _=>⟨u.slots,k b u q⟩
  free:=λ b u q n _=>by rw [Ao (Nat.ne_of_lt (Nat.lt_of_lt_of_le (Heap.lt_size q) hp))];exact n
  there:=λ b u q _=>⟨u,k b u q⟩
  tups:=λ b xs q=>by rw [Ao (Ap q hn)];exact q
  frzs:=λ b u xs q=>by rw [Ao (Ap q hn)];exact q
  tbls:=λ b ps q=>⟨#[],by rw [Ao (Ap q hn),q];simp⟩
theorem Un.write (mu:Mut (H x)) (he:e=x\/H e=some (.own x)) (k:∀ b u,b≠e->h.get? b=some u->h'.get? b=some u) (heo:∃ u,h'.get? e=some u):Un fs ex H (upd H x o) h h':=by
  have hx:∀ b,H b=none->b≠x:=λ b n z=>by subst z;rw [n] at mu;exact mu
  have hb:∀ b,H b=none->b≠e:=λ b n z=>by
    subst z;rcases he with r | r
    · exact hx b n r
    · rw [n] at r;cases r
  have hm:∀ b u,H b=some u->¬ Mut (some u)->b≠x:=λ b u q nm z=>by subst z;rw [q] at mu;exact nm mu
  refine ⟨λ b u q n _ _=>k b u (hb b n) q,λ b u q n _ _=>⟨u.slots,k b u (hb b n) q⟩,λ b u q n _=>by rw [Ao (hx b n)];exact n,λ b u q _=> ?_,
    λ b xs q=>by rw [Ao (hm b _ q λ z=>z)];exact q,λ b u xs q=>by rw [Ao (hm b _ q λ z=>z)];exact q,λ b ps q=>⟨#[],by rw [Ao (hm b _ q λ z=>z),q];simp⟩⟩
  by_cases hbe:b=e
  · subst hbe;exact heo
  · exact ⟨u,k b u hbe q⟩
end
def trk (h:Heap) (H:Hp):List Addr:=(List.range h.objs.size).filter λ a=>(H a).isSome
def FK (h:Heap) (H:Hp):Heap:=PySem.W.hideAll h (trk h H)
theorem Iz (h:Heap) (H:Hp):(FK h H).objs.size=h.objs.size:=PySem.W.hideAll_size _ _
theorem JS {h:Heap} {H:Hp} {b:Addr} {o:Obj} (e:h.get? b=some o) (n:H b=none):(FK h H).get? b=some o:=
  PySem.W.hideAll_get _ e λ hm=>by
    have q:(H b).isSome=true:=(List.mem_filter.mp hm).2;rw [n] at q;simp at q
theorem Kl {h:Heap} {H:Hp} {b:Addr} {o:Obj} (e:(FK h H).get? b=some o):h.get? b=some o/\H b=none:=by
  have e':h.get? b=some o:=PySem.W.of_hideAll (trk h H) e;refine ⟨e',?_⟩;cases q:H b with
  | none=>rfl
  | some x=>
    have hm:b∈trk h H:=List.mem_filter.mpr ⟨List.mem_range.mpr (Heap.lt_size e'),by simp [q]⟩;have z:(FK h H).get? b=none:=PySem.W.hideAll_none (trk h H) hm;rw [z] at e;cases e
structure Mod (K:PySem.W.Frag) (mg:Str->Option Value) (base:Heap):Prop where
  kin:K.In base
  glob:base.Ns mainGlobals mg
  blt:∃ mb,base.Ns builtinsNs mb/\∀ x:Str,x≠"__name__"->mb x=bootBuiltins x
  nolimit:base.NoLimit
structure Cx where
  prog:Program
  w:World
  K:PySem.W.Frag
  mg:Str->Option Value
  base:Heap
  A:Around
  N:List Str
  s₀:Shared
  H₀:Hp
  env:Env
  outer:List Env
  stack:List Env
  ex:List Addr
  fn:Str->Bool
  calm:Bool
  pn:List (Addr × Obj)
  xe:Value->Shared->Prop
def frs (l:List Env):List Addr:=l.filterMap (·.frame)
abbrev Cx.fs (X:Cx):List Addr:=frs X.outer
def Vis (sc:Scope) (x:Str):Prop:=sc.names.lookup x=some .local\/sc.names.lookup x=some .cell\/sc.names.lookup x=some .free
def Loc (sc:Scope) (x:Str):Prop:=sc.names.lookup x=some .local\/sc.names.lookup x=some .cell
def OW (env:Env) (h:Heap) (m:Str->Option Value) (x:Str) (u:Value):Prop:=
  (env.kindOf x=some .local/\m x=some u)\/((env.kindOf x=some .cell\/env.kindOf x=some .free)/\∃ c,env.cells.lookup x=some c/\h.IsCell c (some u))
structure Cx.Ok (X:Cx):Prop where
  mod:Mod X.K X.mg X.base
  kind:X.env.scope.kind= .function
  glob:X.env.globals=mainGlobals
  blt:X.env.builtins=builtinsNs
  above:X.s₀.heap.objs.size<=X.env.locals
  inj:∀ x y c,X.env.cells.lookup x=some c->X.env.cells.lookup y=some c->x=y
  has:∀ x,(X.env.kindOf x=some .cell\/X.env.kindOf x=some .free)->∃ c,X.env.cells.lookup x=some c
  cab:∀ x c,X.fn x=true->X.env.cells.lookup x=some c->X.s₀.heap.objs.size<=c
  hd:X.calm=true->X.A.handled=none
  frames:X.A.frames=some X.stack
  stk:X.stack=X.outer\/(X.stack=X.env::X.outer/\X.env.frame=some X.env.locals)
  exf:∀ b∈X.ex,b≠X.env.locals/\∀ x c,X.env.cells.lookup x=some c->c≠b
  bs:∀ b o,X.base.get? b=some o->X.s₀.heap.get? b=some o/\X.H₀ b=none
  bsz:X.base.objs.size<=X.s₀.heap.objs.size
  noex:∀ b o,X.base.get? b=some o->b∉X.ex
  exfs:∀ b∈X.ex,b∉X.fs
  funs:X.s₀.heap.FunFrames X.base X.outer
  frf:∀ b∈X.fs,X.H₀ b=none
structure Inv (X:Cx) (pins:List (Addr × Obj)) (σ:List (Option V)) (H:Hp) (s:Shared):Prop where
  ok:X.Ok
  os:s.os=X.s₀.os
  bare:AllBare s.gens
  base:Un X.fs X.ex X.H₀ H X.s₀.heap s.heap
  loc:∃ m,s.heap.Ns X.env.locals m/\∀ (i:Nat) (x:Str) (v:V),X.N[i]?=some x->σ[i]?=some (some v)->Vis X.env.scope x->∃ u,RelV v u/\OW X.env s.heap m x u
  cell:∀ x c,X.env.cells.lookup x=some c->∃ v,s.heap.IsCell c v
  free:H X.env.locals=none
  freeC:∀ x c,X.env.cells.lookup x=some c->H c=none
  pin:∀ p∈X.pn++pins,s.heap.get? p.1=some p.2/\H p.1=none/\p.1≠X.env.locals/\p.1∉X.fs/\∀ v,p.2.data≠ .cell v
  hok:HOk X.prog X.w H s.heap
  len:σ.length=X.N.length
section
variable {X:Cx} {pins:List (Addr × Obj)} {σ:List (Option V)} {H H':Hp} {s:Shared} {h':Heap}
theorem Cx.Ok.nofr (ok:X.Ok) {b:Addr} {o:Obj} (e:X.base.get? b=some o):b∉X.fs:=λ hb=>by
  have:=(ok.funs.mem hb).1;rw [e] at this;cases this
theorem Inv.bs (I:Inv X pins σ H s):∀ b o,X.base.get? b=some o->s.heap.get? b=some o/\H b=none:=λ b o e=>
  ⟨I.base.keep b o (I.ok.bs b o e).1 (I.ok.bs b o e).2 (I.ok.nofr e) (I.ok.noex b o e),I.base.free b o (I.ok.bs b o e).1 (I.ok.bs b o e).2 (I.ok.noex b o e)⟩
theorem Inv.bk (I:Inv X pins σ H s):∀ b o,X.base.get? b=some o->s.heap.get? b=some o:=λ b o e=>(I.bs b o e).1
theorem Inv.mod (I:Inv X pins σ H s):Mod X.K X.mg X.base:=I.ok.mod
theorem Inv.kIn (I:Inv X pins σ H s):X.K.In s.heap:=I.ok.mod.kin.keeps I.bk
theorem Inv.fr (I:Inv X pins σ H s):∃ m,Fr X.base X.env.locals s.heap m:=
  let ⟨m,hn,_⟩:=I.loc
  ⟨m,hn,I.bk,Nat.le_trans I.ok.bsz I.ok.above⟩
theorem Inv.lt (I:Inv X pins σ H s):X.env.locals<s.heap.objs.size:=let ⟨_,hn,_⟩:=I.loc;hn.lt
theorem Inv.sz (I:Inv X pins σ H s):X.s₀.heap.objs.size<=s.heap.objs.size:=Nat.le_trans I.ok.above (Nat.le_of_lt I.lt)
theorem Inv.nofs (I:Inv X pins σ H s) {a:Addr} (h:s.heap.objs.size<=a):a∉X.fs:=λ hb=>by
  obtain ⟨_,o,ho,_⟩:=I.ok.funs.mem hb;exact absurd (Nat.lt_of_lt_of_le (Heap.lt_size ho) (Nat.le_trans I.sz h)) (Nat.lt_irrefl _)
theorem Inv.cne (I:Inv X pins σ H s):∀ x c,X.env.cells.lookup x=some c->c≠X.env.locals:=λ x c e z=>by
  obtain ⟨v,o,ho,hd⟩:=I.cell x c e;obtain ⟨m,⟨o',es,ep,ho',hd',_⟩,_⟩:=I.loc;rw [z,ho'] at ho;cases ho;rw [hd'] at hd;cases hd
theorem Inv.funs (I:Inv X pins σ H s):s.heap.FunFrames X.base X.outer:=by
  have all:∀ (l:List Env),(∀ b∈frs l,b∈X.fs)->X.s₀.heap.FunFrames X.base l->s.heap.FunFrames X.base l:=by
    intro l
    induction l with
    | nil=>intro _ _;trivial
    | cons env r ih=>
      intro hs hl;obtain ⟨hk,⟨L,o,hf,hn,ho,hd⟩,hr⟩:=hl;have hL:L∈X.fs:=hs L (by unfold frs;rw [List.filterMap_cons,hf];exact List.mem_cons_self);obtain ⟨sl,e⟩:=I.base.slot L o ho (I.ok.frf L hL) hL λ z=>I.ok.exfs L z hL;exact ⟨hk,⟨L,_,hf,hn,e,hd⟩,ih (λ b hb=>hs b (by unfold frs;rw [List.filterMap_cons,hf];exact List.mem_cons_of_mem _ hb)) hr⟩
  exact all X.outer (λ _ hb=>hb) I.ok.funs
theorem Inv.stack (I:Inv X pins σ H s):s.heap.FunFrames X.base X.stack:=by
  rcases I.ok.stk with e | ⟨e,hf⟩
  · rw [e];exact I.funs
  · rw [e];obtain ⟨m,hn,_⟩:=I.loc;refine .cons (by rw [I.ok.kind];decide) hf hn ?_ I.funs;exact Heap.get?_none_of_le (Nat.le_trans I.ok.bsz I.ok.above)
theorem Inv.stkSub (I:Inv X pins σ H s):∀ b∈frs X.stack,b∈X.env.locals::X.fs:=λ b hb=>by
  rcases I.ok.stk with e | ⟨e,hf⟩
  · rw [e] at hb;exact List.mem_cons_of_mem _ hb
  · rw [e] at hb;unfold frs at hb;rw [List.filterMap_cons,hf] at hb;exact hb
theorem Inv.stkFree (I:Inv X pins σ H s):∀ b∈frs X.stack,H b=none:=λ b hb=>by
  rcases List.mem_cons.mp (I.stkSub b hb) with e | hb
  · rw [e];exact I.free
  · obtain ⟨_,o,ho,_⟩:=I.ok.funs.mem hb;exact I.base.free b o ho (I.ok.frf b hb) λ z=>I.ok.exfs b z hb
theorem Inv.step {g':Array GenState} {t':Nat} {d':Drawn} {ch:List Addr} (I:Inv X pins σ H s)
    (hch:∀ b∈ch,(b∈X.ex\/X.s₀.heap.objs.size<=b)/\b≠X.env.locals/\(∀ x c,X.env.cells.lookup x=some c->c≠b)/\∀ p∈X.pn++pins,p.1≠b)
    (keep:∀ b o,b≠X.env.locals->b∉X.fs->b∉ch->s.heap.get? b=some o->H b=none->h'.get? b=some o)
    (slot:∀ b o,b≠X.env.locals->b∈X.fs->b∉ch->s.heap.get? b=some o->H b=none->∃ sl,h'.get? b=some { o with slots:=sl }) (free:∀ b o,b∉ch->s.heap.get? b=some o->H b=none->H' b=none)
    (there:∀ b o,b∉ch->s.heap.get? b=some o->∃ o',h'.get? b=some o')
    (tups:∀ b xs,H b=some (.tup xs)->H' b=some (.tup xs)) (frzs:∀ b o u,H b=some (.frz o u)->H' b=some (.frz o u)) (tbls:∀ b ps,H b=some (.tbl ps)->∃ more,H' b=some (.tbl (ps++more)))
    (ns:∀ m,s.heap.Ns X.env.locals m->h'.Ns X.env.locals m) (hok:HOk X.prog X.w H' h') (hg:AllBare g'):
    Inv X pins σ H' { s with heap:=h',gens:=g',drawn:=d',toks:=t' }:=by
  have neL:∀ b o,X.s₀.heap.get? b=some o->b≠X.env.locals:=λ b o e=>Nat.ne_of_lt (Nat.lt_of_lt_of_le (Heap.lt_size e) I.ok.above);have neC:∀ b o,X.s₀.heap.get? b=some o->b∉X.ex->b∉ch:=λ b o e hx hb=>by
    rcases (hch b hb).1 with z | z
    · exact hx z
    · exact absurd (Nat.lt_of_lt_of_le (Heap.lt_size e) z) (Nat.lt_irrefl _)
  have cellK:∀ x c,X.env.cells.lookup x=some c->∀ v,s.heap.IsCell c v->h'.IsCell c v:=λ x c e v ⟨o,ho,hd⟩=>by
    have nch:c∉ch:=λ z=>(hch c z).2.2.1 x c e rfl;by_cases hc:c∈X.fs
    · obtain ⟨sl,q⟩:=slot c o (I.cne x c e) hc nch ho (I.freeC x c e);exact ⟨_,q,hd⟩
    · exact ⟨o,keep c o (I.cne x c e) hc nch ho (I.freeC x c e),hd⟩
  refine ⟨I.ok,I.os,hg,⟨λ b o e n hb hx=> ?_,λ b o e n hb hx=> ?_,λ b o e n hx=> ?_,λ b o e hx=> ?_,λ b xs e=>tups b xs (I.base.tups b xs e),λ b o xs e=>frzs b o xs (I.base.frzs b o xs e),λ b ps e=> ?_⟩,?_,λ x c e=> ?_,?_,λ x c e=> ?_,λ p hp=> ?_,hok,I.len⟩
  · exact keep b o (neL b o e) hb (neC b o e hx) (I.base.keep b o e n hb hx) (I.base.free b o e n hx)
  · obtain ⟨sl,e1⟩:=I.base.slot b o e n hb hx;obtain ⟨sl',e2⟩:=slot b _ (neL b o e) hb (neC b o e hx) e1 (I.base.free b o e n hx);exact ⟨sl',e2⟩
  · obtain ⟨o',e1⟩:=I.base.there b o e hx;exact free b o' (neC b o e hx) e1 (I.base.free b o e n hx)
  · obtain ⟨o',e1⟩:=I.base.there b o e hx;exact there b o' (neC b o e hx) e1
  · obtain ⟨m1,e1⟩:=I.base.tbls b ps e;obtain ⟨m2,e2⟩:=tbls b _ e1;exact ⟨m1++m2,by rw [e2,Array.append_assoc]⟩
  · obtain ⟨m,hn,hl⟩:=I.loc;refine ⟨m,ns m hn,λ i x v e1 e2 e3=> ?_⟩;obtain ⟨u,r,l⟩:=hl i x v e1 e2 e3;refine ⟨u,r,?_⟩;rcases l with l | ⟨k,c,e,z⟩
    · exact .inl l
    · exact .inr ⟨k,c,e,cellK x c e _ z⟩
  · obtain ⟨v,z⟩:=I.cell x c e;exact ⟨v,cellK x c e v z⟩
  · obtain ⟨m,⟨o,_,_,ho,_⟩,_⟩:=I.loc;exact free _ o (λ z=>(hch _ z).2.1 rfl) ho I.free
  · obtain ⟨v,o,ho,hd⟩:=I.cell x c e;exact free c o (λ z=>(hch c z).2.2.1 x c e rfl) ho (I.freeC x c e)
  · obtain ⟨e,n,ne,nf,d⟩:=I.pin p hp;have nch:p.1∉ch:=λ z=>(hch p.1 z).2.2.2 p hp rfl;exact ⟨keep p.1 p.2 ne nf nch e n,free p.1 p.2 nch e n,ne,nf,d⟩
theorem Inv.un {t':Nat} (I:Inv X pins σ H s) (u:Un X.fs [] H H' s.heap h') (hok:HOk X.prog X.w H' h'):Inv X pins σ H' { s with heap:=h',toks:=t' }:=by
  obtain ⟨m,⟨o,es,ep,ho,r⟩,_⟩:=id I.loc;obtain ⟨sl,hL⟩:=u.any ho I.free (by simp);exact I.step (g':=s.gens) (d':=s.drawn) (ch:=[]) (λ _ z=>nomatch z) (λ b o _ hb _ e n=>u.keep b o e n hb (by simp)) (λ b o _ hb _ e n=>u.slot b o e n hb (by simp)) (λ b o _ e n=>u.free b o e n (by simp)) (λ b o _ e=>u.there b o e (by simp)) u.tups u.frzs u.tbls (λ m' hm=>by
    obtain ⟨o',es',ep',ho',r'⟩:=hm;rw [ho] at ho';cases ho';exact ⟨_,es',ep',hL,r'⟩) hok I.bare
theorem Inv.call {g':Array GenState} {t':Nat} {d':Drawn} {ch:List Addr} (I:Inv X pins σ H s) (u:Un (frs X.stack) ch H H' s.heap h') (hok:HOk X.prog X.w H' h') (hg:AllBare g')
    (hch:∀ b∈ch,(b∈X.ex\/X.s₀.heap.objs.size<=b)/\b≠X.env.locals/\(∀ x c,X.env.cells.lookup x=some c->c≠b)/\∀ p∈X.pn++pins,p.1≠b):
    Inv X pins σ H' { s with heap:=h',gens:=g',drawn:=d',toks:=t' }:=by
  obtain ⟨m,⟨o,es,ep,ho,r⟩,_⟩:=id I.loc;obtain ⟨sl,hL⟩:=u.any ho I.free λ z=>(hch _ z).2.1 rfl;exact I.step (ch:=ch) hch (λ b o hL hb hc e n=>u.keep b o e n (λ z=>(List.mem_cons.mp (I.stkSub b z)).elim hL hb) hc) (λ b o _ _ hc e n=>u.any e n hc) (λ b o hc e n=>u.free b o e n hc) (λ b o hc e=>u.there b o e hc) u.tups u.frzs u.tbls (λ m' hm=>by
    obtain ⟨o',es',ep',ho',r'⟩:=hm;rw [ho] at ho';cases ho';exact ⟨_,es',ep',hL,r'⟩) hok hg
theorem Inv.turned {t':Nat} {it:Addr} (I:Inv X pins σ H s) (k:∀ b o,b≠it->s.heap.get? b=some o->h'.get? b=some o) (hn:H it=none) (hL:it≠X.env.locals)
    (h1:it∈X.ex\/X.s₀.heap.objs.size<=it) (h2:∀ x c,X.env.cells.lookup x=some c->c≠it) (h3:∀ p∈X.pn++pins,p.1≠it):Inv X pins σ H { s with heap:=h',toks:=t' }:=by
  have nit:∀ b u,H b=some u->b≠it:=λ b u e z=>by rw [z,hn] at e;cases e
  refine I.step (g':=s.gens) (d':=s.drawn) (ch:=[it]) (λ b hb=> ?_) (λ b o _ _ hc e _=>k b o (λ z=>hc (by simp [z])) e) (λ b o _ _ hc e _=>⟨o.slots,k b o (λ z=>hc (by simp [z])) e⟩) (λ _ _ _ _ n=>n)
    (λ b o hc e=>⟨o,k b o (λ z=>hc (by simp [z])) e⟩) (λ _ _ e=>e) (λ _ _ _ e=>e) (λ b ps e=>⟨#[],by rw [e];simp⟩) (λ m hm=> ?_) (λ b u e=> ?_) I.bare
  · have e:b=it:=by simpa using hb
    subst e;exact ⟨h1,hL,h2,h3⟩
  · obtain ⟨o,es,ep,ho,r⟩:=hm;exact ⟨o,es,ep,k _ o (Ne.symm hL) ho,r⟩
  · refine (I.hok b u e).stay (λ c v hc q=>k c v ?_ q) (λ _ q=>q) λ _ _ q=>q;rcases hc with z | z
    · rw [z];exact nit b u e
    · exact nit c _ z
theorem Inv.tok (I:Inv X pins σ H s) (t:Nat):Inv X pins σ H { s with toks:=t }:=I.un (h':=s.heap) (t':=t) Un.refl I.hok
theorem Inv.kept {t':Nat} (I:Inv X pins σ H s) (k:∀ b u,s.heap.get? b=some u->h'.get? b=some u):Inv X pins σ H { s with heap:=h',toks:=t' }:=I.un (Un.kept k) (I.hok.kept k)
theorem Inv.laid {a:Addr} {o:HO} {t':Nat} (I:Inv X pins σ H s) (k:∀ b u,s.heap.get? b=some u->h'.get? b=some u) (hp:s.heap.objs.size<=a) (new:ObjOk X.prog X.w (upd H a o) h' a o):
    Inv X pins σ (upd H a o) { s with heap:=h',toks:=t' }:=I.un (Un.laid k hp (I.hok.fresh hp)) (I.hok.laid k hp new)
theorem Inv.write {x e:Addr} {o:HO} {t':Nat} (I:Inv X pins σ H s) (mu:Mut (H x)) (he:e=x\/H e=some (.own x)) (k:∀ b u,b≠e->s.heap.get? b=some u->h'.get? b=some u) (heo:∃ u,h'.get? e=some u)
    (new:ObjOk X.prog X.w (upd H x o) h' x o):Inv X pins σ (upd H x o) { s with heap:=h',toks:=t' }:=I.un (Un.write mu he k heo) (I.hok.write mu he k heo new)
theorem Inv.weak {σ':List (Option V)} (I:Inv X pins σ H s) (hl:σ'.length=σ.length) (w:∀ (i:Nat) v,σ'[i]?=some (some v)->σ[i]?=some (some v)):Inv X pins σ' H s:=
  ⟨I.ok,I.os,I.bare,I.base,let ⟨m,hn,hl'⟩:=I.loc;⟨m,hn,λ i x v e1 e2 e3=>hl' i x v e1 (w i v e2) e3⟩,I.cell,I.free,I.freeC,I.pin,I.hok,hl.trans I.len⟩
theorem Inv.pins_of {pins':List (Addr × Obj)} (I:Inv X pins σ H s) (h:∀ p∈pins',s.heap.get? p.1=some p.2/\H p.1=none/\p.1≠X.env.locals/\p.1∉X.fs/\∀ v,p.2.data≠ .cell v):Inv X pins' σ H s:=
  ⟨I.ok,I.os,I.bare,I.base,I.loc,I.cell,I.free,I.freeC,λ p hp=>(List.mem_append.mp hp).elim (λ z=>I.pin p (List.mem_append_left _ z)) (h p),I.hok,I.len⟩
theorem Gf {N:List Str} (hN:N.Nodup) {i j:Nat} {x:Str} (a:N[i]?=some x) (b:N[j]?=some x):i=j:=by
  obtain ⟨h1,e1⟩:=List.getElem?_eq_some_iff.mp a;obtain ⟨h2,e2⟩:=List.getElem?_eq_some_iff.mp b;exact (List.getElem_inj hN).mp (e1.trans e2.symm)
theorem Il {M:Model} {A:Around} {E:Value->Shared->Prop} {i:Nat} {x:Str} {v:V} {u:Value} {Q:Unit->Shared->Prop} (I:Inv X pins σ H s) (hN:X.N.Nodup) (hi:X.N[i]?=some x) (hx:Loc X.env.scope x) (r:RelV v u)
    (h:∀ s',Inv X pins (σ.set i (some v)) H s'->(∃ a,Heap.SameBut a s.heap s'.heap/\(a=X.env.locals\/X.env.cells.lookup x=some a))->Q () s') (hf:X.fn x=true\/X.env.scope.names.lookup x=some .local:=by first | exact .inl rfl | exact .inr rfl | assumption):wpAny M A (storeName X.env x u) Q E s:=by
  obtain ⟨m,hn,hl⟩:=id I.loc;have hcls:(X.env.scope.kind == .class||(X.env.scope.kind == .module&&X.env.locals != X.env.globals))=false:=by rw [I.ok.kind];rfl
  have hiσ:i<σ.length:=by rw [I.len];exact (List.getElem?_eq_some_iff.mp hi).1
  have cne:=I.cne;have tracked:∀ {a:Addr} {h':Heap},(∃ o,s.heap.get? a=some o/\H a=none)->Heap.SameBut a s.heap h'->HOk X.prog X.w H h':=λ {a h'} ha hs b ob e=>by
    obtain ⟨_,_,hfree⟩:=ha;refine (I.hok b ob e).stay (λ c w' hc q=>(hs.2 c ?_).trans q) (λ _ q=>q) λ _ _ q=>q;rintro rfl;rcases hc with rfl | hc
    · rw [hfree] at e;cases e
    · rw [hfree] at hc;cases hc
  rcases hx with hk | hk
  · refine wpAny_storeName_local hk hn (λ h' hn' hs=> ?_) hcls;obtain ⟨oL,_,_,hoL,_⟩:=id hn;refine h _ ⟨I.ok,I.os,I.bare,⟨λ b o e n hb hx=> ?_,λ b o e n hb hx=> ?_,I.base.free,λ b o e hx=> ?_,I.base.tups,I.base.frzs,I.base.tbls⟩,⟨_,hn',λ j y v' e1 e2 e3=> ?_⟩,λ y c e=> ?_,I.free,I.freeC,λ p hp=> ?_,tracked ⟨oL,hoL,I.free⟩ hs,by simpa using I.len⟩ ⟨_,hs, .inl rfl⟩
    · exact (hs.2 b (Nat.ne_of_lt (Nat.lt_of_lt_of_le (Heap.lt_size e) I.ok.above))).trans (I.base.keep b o e n hb hx)
    · obtain ⟨sl,e1⟩:=I.base.slot b o e n hb hx;exact ⟨sl,(hs.2 b (Nat.ne_of_lt (Nat.lt_of_lt_of_le (Heap.lt_size e) I.ok.above))).trans e1⟩
    · obtain ⟨o',e1⟩:=I.base.there b o e hx;exact ⟨o',(hs.2 b (Nat.ne_of_lt (Nat.lt_of_lt_of_le (Heap.lt_size e) I.ok.above))).trans e1⟩
    · by_cases hj:j=i
      · subst hj;rw [hi] at e1;cases e1;rw [List.getElem?_set_self hiσ] at e2;cases e2;exact ⟨u,r, .inl ⟨hk,by simp⟩⟩
      · rw [List.getElem?_set_ne (Ne.symm hj)] at e2;obtain ⟨u',r',q⟩:=hl j y v' e1 e2 e3;refine ⟨u',r',?_⟩;rcases q with ⟨k,e⟩ | ⟨k,c,e,z⟩
        · refine .inl ⟨k,?_⟩;have:y≠x:=λ e=>hj (Gf hN e1 (e▸hi));simp [this,e]
        · exact .inr ⟨k,c,e,z.sameBut hs (cne y c e)⟩
    · obtain ⟨w',z⟩:=I.cell y c e;exact ⟨w',z.sameBut hs (cne y c e)⟩
    · obtain ⟨e,n,ne,nf,d⟩:=I.pin p hp;exact ⟨(hs.2 p.1 ne).trans e,n,ne,nf,d⟩
  · have hfn:X.fn x=true:=by
      rcases hf with z | z
      · exact z
      · rw [z] at hk;cases hk
    obtain ⟨c,hc⟩:=I.ok.has x (.inl hk);obtain ⟨w',z⟩:=I.cell x c hc;refine wpAny_storeName_cell I.ok.kind hk hc z (λ h' hc' hs=> ?_);obtain ⟨oc,hoc,hocd⟩:=id z;refine h { s with heap:=h' } ⟨I.ok,I.os,I.bare,⟨λ b o e n hb hx=> ?_,λ b o e n hb hx=> ?_,I.base.free,λ b o e hx=> ?_,I.base.tups,I.base.frzs,I.base.tbls⟩,⟨m,hn.sameBut hs (Ne.symm (cne x c hc)),λ j y v' e1 e2 e3=> ?_⟩,λ y c' e=> ?_,I.free,I.freeC,λ p hp=> ?_,tracked ⟨oc,hoc,I.freeC x c hc⟩ hs,by simpa using I.len⟩ ⟨c,hs, .inr hc⟩
    · exact (hs.2 b (Nat.ne_of_lt (Nat.lt_of_lt_of_le (Heap.lt_size e) (I.ok.cab x c hfn hc)))).trans (I.base.keep b o e n hb hx)
    · obtain ⟨sl,e1⟩:=I.base.slot b o e n hb hx;exact ⟨sl,(hs.2 b (Nat.ne_of_lt (Nat.lt_of_lt_of_le (Heap.lt_size e) (I.ok.cab x c hfn hc)))).trans e1⟩
    · obtain ⟨o',e1⟩:=I.base.there b o e hx;exact ⟨o',(hs.2 b (Nat.ne_of_lt (Nat.lt_of_lt_of_le (Heap.lt_size e) (I.ok.cab x c hfn hc)))).trans e1⟩
    · by_cases hj:j=i
      · subst hj;rw [hi] at e1;cases e1;rw [List.getElem?_set_self hiσ] at e2;cases e2;exact ⟨u,r, .inr ⟨.inl hk,c,hc,hc'⟩⟩
      · rw [List.getElem?_set_ne (Ne.symm hj)] at e2;obtain ⟨u',r',q⟩:=hl j y v' e1 e2 e3;refine ⟨u',r',?_⟩;rcases q with q | ⟨k,c',e,z'⟩
        · exact .inl q
        · refine .inr ⟨k,c',e,z'.sameBut hs ?_⟩;rintro rfl;exact hj (Gf hN e1 (I.ok.inj _ _ _ e hc▸hi))
    · by_cases hcc:c'=c
      · subst hcc;exact ⟨_,hc'⟩
      · obtain ⟨w2,z2⟩:=I.cell y c' e;exact ⟨w2,z2.sameBut hs hcc⟩
    · obtain ⟨e,n,ne,nf,d⟩:=I.pin p hp;refine ⟨(hs.2 p.1 ?_).trans e,n,ne,nf,d⟩;intro q;rw [q,hoc] at e;have q':oc=p.2:=Option.some.inj e;exact d w' (by rw [<-q'];exact hocd)
theorem Dg {M:Model} {A:Around} {E:Value->Shared->Prop} {i:Nat} {x:Str} {v:V} {u:Value} {Q:Unit->Shared->Prop} (I:Inv X pins σ H s) (hN:X.N.Nodup) (hi:X.N[i]?=some x) (hx:Loc X.env.scope x) (r:RelV v u)
    (h:∀ s',Inv X pins (σ.set i (some v)) H s'->Q () s') (hf:X.fn x=true\/X.env.scope.names.lookup x=some .local:=by first | exact .inl rfl | exact .inr rfl | assumption):wpAny M A (storeName X.env x u) Q E s:=
  Il I hN hi hx r (λ s' I' _=>h s' I') hf
theorem Inv.call' {s':Shared} {ch:List Addr} (I:Inv X pins σ H s) (ho:s'.os=s.os) (u:Un (frs X.stack) ch H H' s.heap s'.heap) (hok:HOk X.prog X.w H' s'.heap) (hg:AllBare s'.gens)
    (hch:∀ b∈ch,(b∈X.ex\/X.s₀.heap.objs.size<=b)/\b≠X.env.locals/\(∀ x c,X.env.cells.lookup x=some c->c≠b)/\∀ p∈X.pn++pins,p.1≠b):Inv X pins σ H' s':=by
  obtain ⟨h',g',d',t',o'⟩:=s';have e:o'=s.os:=ho;subst e;exact I.call (g':=g') (t':=t') (d':=d') u hok hg hch
end
abbrev XK:=Value->Option Addr->Hp->Prop
abbrev St:=List (Option V)
abbrev VK:=V->Hp->Prop
abbrev TE:=St->Hp->VK->Prop
abbrev TT:=St->Hp->(Bool->Hp->Prop)->Prop
abbrev TA:=St->Hp->(List V->Hp->Prop)->Prop
structure Ends where
  nx:St->Hp->Prop
  rt:VK
  bk:St->Hp->Prop:=λ _ _=>False
  ct:St->Hp->Prop:=λ _ _=>False
abbrev TS:=Ends->St->Hp->Prop
def EP (X:Cx) (pins:List (Addr × Obj)) (σ:St) (Q:VK) (u:Value) (s':Shared):Prop:=∃ v H',Inv X pins σ H' s'/\RelV v u/\Q v H'
def TP (X:Cx) (pins:List (Addr × Obj)) (σ:St) (Q:Bool->Hp->Prop) (b:Bool) (s':Shared):Prop:=∃ H',Inv X pins σ H' s'/\Q b H'
def AP (X:Cx) (pins:List (Addr × Obj)) (σ:St) (Q:List V->Hp->Prop) (us:List Value) (s':Shared):Prop:=∃ vs H',Inv X pins σ H' s'/\Vals vs us/\Q vs H'
def SP (X:Cx) (pins:List (Addr × Obj)) (D:Ends) (f:Flow) (s':Shared):Prop:=
  match f with
  | .next=>∃ σ' H',Inv X pins σ' H' s'/\D.nx σ' H'
  | .brk=>∃ σ' H',Inv X pins σ' H' s'/\D.bk σ' H'
  | .cont=>∃ σ' H',Inv X pins σ' H' s'/\D.ct σ' H'
  | .ret u=>∃ v σ' H',Inv X pins σ' H' s'/\RelV v u/\D.rt v H'
def PE (X:Cx) (e:Expr) (t:TE):Prop:=
  ∀ (pins:List (Addr × Obj)) (s:Shared) (σ:St) (H:Hp) (Q:VK),Inv X pins σ H s->t σ H Q->wpAny (model X.prog X.w) X.A (eval e X.env) (EP X pins σ Q) X.xe s
def PT (X:Cx) (e:Expr) (t:TT):Prop:=
  ∀ (pins:List (Addr × Obj)) (s:Shared) (σ:St) (H:Hp) (Q:Bool->Hp->Prop),Inv X pins σ H s->t σ H Q->wpAny (model X.prog X.w) X.A (isTrue e X.env (eval e X.env)) (TP X pins σ Q) X.xe s
def PW (X:Cx) (e:Expr) (t:TT):Prop:=
  ∀ (whole:Sem Value) (pins:List (Addr × Obj)) (s:Shared) (σ:St) (H:Hp) (Q:Bool->Hp->Prop),Inv X pins σ H s->t σ H Q->wpAny (model X.prog X.w) X.A (isTrue e X.env whole) (TP X pins σ Q) X.xe s
theorem PW.pt {X:Cx} {e:Expr} {t:TT} (h:PW X e t):PT X e t:=h _
def PA (X:Cx) (es:List Expr) (t:TA):Prop:=
  ∀ (pos:Pos) (pins:List (Addr × Obj)) (s:Shared) (σ:St) (H:Hp) (Q:List V->Hp->Prop),Inv X pins σ H s->t σ H Q->wpAny (model X.prog X.w) X.A (spliced (backTo pos (starEach es X.env))) (AP X pins σ Q) X.xe s
def PS (X:Cx) (st:Stmt) (t:TS):Prop:=
  ∀ (pins:List (Addr × Obj)) (s:Shared) (σ:St) (H:Hp) (D:Ends),Inv X pins σ H s->t D σ H->wpAny (model X.prog X.w) X.A (exec st X.env) (SP X pins D) X.xe s
def PSs (X:Cx) (st:List Stmt) (t:TS):Prop:=
  ∀ (pins:List (Addr × Obj)) (s:Shared) (σ:St) (H:Hp) (D:Ends),Inv X pins σ H s->t D σ H->wpAny (model X.prog X.w) X.A (execs st X.env) (SP X pins D) X.xe s
theorem thn {α:Type} {t:Sem α} {Q Q':α->Shared->Prop} {M:Model} {A:Around} {E:Value->Shared->Prop} {s:Shared} (h:wpAny M A t Q E s) (hQ:∀ a s,Q a s->Q' a s):wpAny M A t Q' E s:=wpAny_mono h hQ λ _ _ x=>x
section
variable {X:Cx}
theorem bin {a b:Expr} {ta tb:TE} (ha:PE X a ta) (hb:PE X b tb) {pins:List (Addr × Obj)} {s:Shared} {σ:St} {H:Hp} {R:V->V->Hp->Prop} (I:Inv X pins σ H s) (h:ta σ H λ x H1=>tb σ H1 λ y H2=>R x y H2)
    {α:Type} {Q:α->Shared->Prop} {f:Value->Value->Sem α}
    (hf:∀ v u s2 x y H2,Inv X pins σ H2 s2->RelV x v->RelV y u->R x y H2->wpAny (model X.prog X.w) X.A (f v u) Q X.xe s2):
    wpAny (model X.prog X.w) X.A (eval a X.env) (λ v s₁=>wpAny (model X.prog X.w) X.A (eval b X.env) (λ u s₂=>wpAny (model X.prog X.w) X.A (f v u) Q X.xe s₂) X.xe s₁) X.xe s:=by
  refine thn (ha pins s σ H _ I h) λ v s1 ⟨x,H1,I1,r1,q1⟩=> ?_;refine thn (hb pins s1 σ H1 _ I1 q1) λ u s2 ⟨y,H2,I2,r2,q2⟩=> ?_;exact hf v u s2 x y H2 I2 r1 r2 q2
def Mi (i:Nat):TE:=λ σ H Q=>∃ v,σ[i]?=some (some v)/\Q v H
def tC (v:V):TE:=λ _ H Q=>Q v H
theorem LJ {i:Nat} {x:Str} {pos:Pos} (hN:X.N[i]?=some x) (hv:Vis X.env.scope x) (hd:(x == ("__debug__":Str))=false:=by decide) (hcd:(x == ("__classdict__":Str))=false:=by decide):PE X (.Name x pos) (Mi i):=by
  intro pins s σ H Q I h;obtain ⟨v,e,h⟩:=h;obtain ⟨m,hn,hl⟩:=I.loc;obtain ⟨u,r,l⟩:=hl i x v hN e hv;have fin:EP X pins σ Q u s:=⟨v,H,I,r,h⟩;rcases l with ⟨hk,hm⟩ | ⟨hk,c,hc,hcell⟩
  · exact wpAny_Name (wpAny_loadName_local I.ok.kind hk hn hm fin) hd
  · rcases hk with hk | hk
    · exact wpAny_Name (wpAny_loadName_cell I.ok.kind hk hc hcell fin) hd
    · exact wpAny_Name (wpAny_loadName_free I.ok.kind hk hc hcell fin hcd) hd
theorem Af {i j pos}:PE X (.Constant (.int i) j pos) (tC (.int i)):=λ _ _ _ H _ I h=>wpAny_Constant_int ⟨.int i,H,I.tok _,⟨_,rfl⟩,h⟩
theorem De {b j pos}:PE X (.Constant (.bool b) j pos) (tC (.bl b)):=λ _ _ _ H _ I h=>Constant_bool ⟨.bl b,H,I,rfl,h⟩
theorem AT {x j pos}:PE X (.Constant (.str x) j pos) (tC (.str x)):=λ _ _ _ H _ I h=>Calls.Constant_str ⟨.str x,H,I.tok _,⟨_,rfl⟩,h⟩
def Gl (X:Cx) (x:Str):Prop:=X.env.kindOf x=some .globalImplicit
theorem FU {E:Value->Shared->Prop} {pins:List (Addr × Obj)} {s:Shared} {σ:St} {H:Hp} {x:Str} {u:Value} {pos:Pos} {Q:Value->Shared->Prop} (I:Inv X pins σ H s) (hg:Gl X x) (hm:X.mg x=some u) (h:Q u s)
    (hd:(x == ("__debug__":Str))=false:=by decide):wpAny (model X.prog X.w) X.A (eval (.Name x pos) X.env) Q E s:=
  Calls.Name_function_global I.ok.kind hg (Calls.loadGlobal_global (by rw [I.ok.glob];exact I.mod.glob.keeps I.bk) hm h) hd
theorem BF {E:Value->Shared->Prop} {pins:List (Addr × Obj)} {s:Shared} {σ:St} {H:Hp} {x:Str} {u:Value} {pos:Pos} {Q:Value->Shared->Prop} (I:Inv X pins σ H s) (hg:Gl X x) (hm:X.mg x=none) (hv:bootBuiltins x=some u) (h:Q u s)
    (hn:x≠"__name__":=by decide) (hd:(x == ("__debug__":Str))=false:=by decide):wpAny (model X.prog X.w) X.A (eval (.Name x pos) X.env) Q E s:=by
  obtain ⟨mb,h1,h2⟩:=I.mod.blt;exact Calls.Name_function_global I.ok.kind hg (Calls.loadGlobal_builtin (by rw [I.ok.glob];exact I.mod.glob.keeps I.bk) hm (by rw [I.ok.blt];exact h1.keeps I.bk) ((h2 x hn).trans hv) h) hd
theorem HI {x:Str} {v:V} {u:Value} {pos:Pos} (hg:Gl X x) (hm:X.mg x=some u) (r:RelV v u) (hd:(x == ("__debug__":Str))=false:=by decide):PE X (.Name x pos) (tC v):=
  λ _ _ _ H _ I h=>FU I hg hm ⟨v,H,I,r,h⟩ hd
theorem KN {x:Str} {v:V} {u:Value} {pos:Pos} (hg:Gl X x) (hm:X.mg x=none) (hv:bootBuiltins x=some u) (r:RelV v u) (hn:x≠"__name__":=by decide) (hd:(x == ("__debug__":Str))=false:=by decide):PE X (.Name x pos) (tC v):=
  λ _ _ _ H _ I h=>BF I hg hm hv ⟨v,H,I,r,h⟩ hn hd
variable {a b:Expr} {ta tb:TE} {pos:Pos}
def PC (X:Cx) (op:CmpOp) (a b:Expr) (t:TE):Prop:=
  ∀ (pins:List (Addr × Obj)) (s:Shared) (σ:St) (H:Hp) (Q:VK),Inv X pins σ H s->t σ H Q->
    wpAny (model X.prog X.w) X.A (eval a X.env) (λ v s₁=>wpAny (model X.prog X.w) X.A (eval b X.env) (λ u s₂=>wpAny (model X.prog X.w) X.A (compareOp op v u) (EP X pins σ Q) X.xe s₂) X.xe s₁) X.xe s
theorem JI (b:Expr) {op:CmpOp} (h:op≠ .In) (h2:op≠ .NotIn):behindInMarks op b=false:=by
  have e1:(op == CmpOp.In)=false:=by cases op <;> first | rfl | exact absurd rfl h
  have e2:(op == CmpOp.NotIn)=false:=by cases op <;> first | rfl | exact absurd rfl h2
  cases b <;> simp [behindInMarks,e1,e2]
def tB (t:TE):TT:=λ σ H Q=>t σ H λ x H1=>∃ c,x= .bl c/\Q c H1
theorem NK {op:CmpOp} {t:TE} (h:PC X op a b t) (h1:behindInMarks op b=false:=by first | exact JI _ (by decide) (by decide) | rfl):PT X (.Compare a [op] [b] pos) (tB t):=by
  intro pins s σ H Q I hw;refine wpAny_isTrue_Compare1 (thn (h pins s σ H _ I hw) λ v s1 h1=>thn h1 λ u s2 h2=>thn h2 λ c s3 ⟨x,H1,I1,r1,q1⟩=> ?_) h1;obtain ⟨d,rfl,q⟩:=q1;cases r1;exact wpAny_truthy_bool ⟨H1,I1,q⟩
theorem AV {e:Expr} {t:TE} (h:PE X e t) (he:∀ whole,isTrue e X.env whole=(do let v <-whole;standAt e.pos;holding [v] (truthy v)):=by intro _;rfl):PT X e (tB t):=by
  intro pins s σ H Q I hw;refine isTrue_plain (thn (h pins s σ H _ I hw) λ v s1 ⟨x,H1,I1,r1,q1⟩=> ?_) (he _);obtain ⟨d,rfl,q⟩:=q1;cases r1;exact wpAny_truthy_bool ⟨H1,I1,q⟩
variable {tA tB':TT} {rest:List Expr}
def tOr (t u:TT):TT:=λ σ H Q=>t σ H λ c H1=>if c=true then Q true H1 else u σ H1 Q
def MU (t:TT):TT:=λ σ H Q=>t σ H λ c H1=>Q (!c) H1
theorem JC (ha:PT X a tA):PW X (.BoolOp .Or [a] pos) tA:=by
  intro wh pins s σ H Q I h;refine isTrue_or (thn (ha pins s σ H Q I h) λ c s1 e=> ?_);cases c with
  | false=>exact isTrue_or_nil e
  | true=>exact e
theorem Ln (ha:PT X a tA) (hb:PW X (.BoolOp .Or (b::rest) pos) tB'):PW X (.BoolOp .Or (a::b::rest) pos) (tOr tA tB'):=by
  intro wh pins s σ H Q I h;refine isTrue_or (thn (ha pins s σ H _ I h) λ c s1 ⟨H1,I1,q1⟩=> ?_);cases c with
  | true=>exact ⟨H1,I1,q1⟩
  | false=>exact hb wh pins s1 σ H1 Q I1 q1
theorem Ce (ha:PT X a tA):PT X (.UnaryOp .Not a pos) (MU tA):=by
  intro pins s σ H Q I h;exact isTrue_not (ha pins s σ H (λ c H1=>Q (!c) H1) I h)
def Li (ta tb:TE):TE:=λ σ H Q=>ta σ H λ x H1=>∃ c,x= .bl c/\if c=true then tb σ H1 Q else Q (.bl false) H1
def Lo (ta:TE):TE:=λ σ H Q=>ta σ H λ x H1=>∃ c,x= .bl c/\Q (.bl (!c)) H1
theorem CS {op} {t:TE} (h:PE X a t):PE X (.BoolOp op [a] pos) t:=λ pins s σ H Q I hw=>BoolOp_one (h pins s σ H Q I hw)
theorem Cg (ha:PE X a ta) (hb:PE X (.BoolOp .And (b::rest) pos) tb):PE X (.BoolOp .And (a::b::rest) pos) (Li ta tb):=by
  intro pins s σ H Q I h;refine BoolOp_and (thn (ha pins s σ H _ I h) λ v s1 ⟨x,H1,I1,r1,q1⟩=> ?_);obtain ⟨c,rfl,q1⟩:=q1;cases r1;refine wpAny_truthy_bool ?_;cases c with
  | true=>exact hb pins s1 σ H1 Q I1 q1
  | false=>exact ⟨.bl false,H1,I1,rfl,q1⟩
theorem Mn (ha:PE X a ta):PE X (.UnaryOp .Not a pos) (Lo ta):=by
  intro pins s σ H Q I h;refine UnaryOp_ (thn (ha pins s σ H _ I h) λ v s1 ⟨x,H1,I1,r1,q1⟩=> ?_);obtain ⟨c,rfl,q1⟩:=q1;cases r1;exact not_of (wpAny_truthy_bool ⟨.bl (!c),H1,I1,rfl,q1⟩)
def tIf (t:TT) (ta tb:TE):TE:=λ σ H Q=>t σ H λ c H1=>if c=true then ta σ H1 Q else tb σ H1 Q
theorem EO {c:Expr} (hc:PT X c tA) (ha:PE X a ta) (hb:PE X b tb):PE X (.IfExp c a b pos) (tIf tA ta tb):=by
  intro pins s σ H Q I h;refine wpAny_IfExp (thn (hc pins s σ H _ I h) λ d s1 ⟨H1,I1,q1⟩=> ?_);cases d with
  | true=>exact ha pins s1 σ H1 Q I1 q1
  | false=>exact hb pins s1 σ H1 Q I1 q1
end
def SqL (K:PySem.W.Frag) (H:Hp) (a:Addr) (xs:List V):Prop:=
  Rd H a (.lst xs)\/
    ∃ (o:Obj) (its:Array Value) (n:Nat),K.lookup a=some o/\o.cls= .type "list"/\o.dict=none/\o.data= .seq its n/\its.size<=sizeLine/\Vals xs its.toList
def SqT (K:PySem.W.Frag) (H:Hp) (a:Addr) (xs:List V):Prop:=
  Rd H a (.tup xs)\/
    ∃ (o:Obj) (its:Array Value) (n:Nat),K.lookup a=some o/\o.cls= .type "tuple"/\o.data= .seq its n/\its.size<=sizeLine/\Vals xs its.toList
def Od:Value->Option V
  | .none=>some .non
  | .bool b=>some (.bl b)
  | .int i _=>some (.int i)
  | .str x _=>some (.str x)
  | .bytes b _=>some (.byt b)
  | .float b _=>some (.flt b)
  | .ref a=>some (.ref a)
  | .type n=>some (.ty n)
  | _=>none
theorem RelV.abs {x:V} {u:Value} (r:RelV x u):Od u=some x:=by
  cases x with
  | non=>cases r;rfl
  | bl _=>cases r;rfl
  | int _=>obtain ⟨t,rfl⟩:=r;rfl
  | str _=>obtain ⟨t,rfl⟩:=r;rfl
  | byt _=>obtain ⟨t,rfl⟩:=r;rfl
  | flt _=>obtain ⟨t,rfl⟩:=r;rfl
  | ref _=>cases r;rfl
  | ty _=>cases r;rfl
theorem RelV.inj {x y:V} {u:Value} (r:RelV x u) (q:RelV y u):x=y:=Option.some.inj (r.abs.symm.trans q.abs)
theorem Vals.inj:∀ {xs ys:List V} {us:List Value},Vals xs us->Vals ys us->xs=ys
  | _,_,_, .nil, .nil=>rfl
  | _,_,_, .cons r t, .cons r' t'=>by rw [r.inj r',Vals.inj t t']
section
variable {X:Cx} {pins:List (Addr × Obj)} {σ:St} {H:Hp} {s:Shared} {a:Addr} {xs ys:List V}
theorem SqL.of {K:PySem.W.Frag} (h:H a=some (.lst xs)):SqL K H a xs:= .inl (.inl h)
theorem SqT.of {K:PySem.W.Frag} (h:H a=some (.tup xs)):SqT K H a xs:= .inl (.inl h)
theorem Inv.list (I:Inv X pins σ H s) (h:SqL X.K H a xs):∃ its:List Value,Vals xs its/\PlainL s.heap a its.toArray/\xs.length<=sizeLine:=by
  rcases h with h | ⟨o,its,n,hk,hc,hd,hs,hz,r⟩
  · obtain ⟨z,its,n,r,e⟩:=h.ok I.hok;exact ⟨its,r,⟨_,n,e,rfl,rfl,rfl⟩,z⟩
  · refine ⟨its.toList,r,⟨o,n,I.kIn a o hk,hc,hd,by simpa using hs⟩,?_⟩;have e:=r.length;simp only [Array.length_toList] at e;omega
theorem Inv.tuple (I:Inv X pins σ H s) (h:SqT X.K H a xs):∃ its:List Value,Vals xs its/\IsTup s.heap a its.toArray/\xs.length<=sizeLine:=by
  rcases h with h | ⟨o,its,n,hk,hc,hs,hz,r⟩
  · obtain ⟨z,its,r,p⟩:=h.ok I.hok;exact ⟨its,r,p,z⟩
  · refine ⟨its.toList,r,⟨o,I.kIn a o hk,hc,n,by simpa using hs⟩,?_⟩;have e:=r.length;simp only [Array.length_toList] at e;omega
theorem Inv.list_inj (I:Inv X pins σ H s) (h:SqL X.K H a xs) (h':SqL X.K H a ys):xs=ys:=by
  obtain ⟨its,r,⟨o,n,e,_,_,d⟩,_⟩:=I.list h;obtain ⟨its',r',⟨o',n',e',_,_,d'⟩,_⟩:=I.list h';rw [e] at e';cases e';rw [d] at d';injection d' with d1 _;have:its=its':=by simpa using congrArg Array.toList d1
  subst this;exact r.inj r'
theorem Inv.tuple_inj (I:Inv X pins σ H s) (h:SqT X.K H a xs) (h':SqT X.K H a ys):xs=ys:=by
  obtain ⟨its,r,⟨o,e,_,n,d⟩,_⟩:=I.tuple h;obtain ⟨its',r',⟨o',e',_,n',d'⟩,_⟩:=I.tuple h';rw [e] at e';cases e';rw [d] at d';injection d' with d1 _;have:its=its':=by simpa using congrArg Array.toList d1
  subst this;exact r.inj r'
end
abbrev Cx.wish (X:Cx) (E:Value->Shared->Prop):Cx:={ X with xe:=E }
abbrev Cx.nox (X:Cx):Cx:=X.wish λ _ _=>False
theorem Cx.Ok.wish {X:Cx} (ok:X.Ok) (E:Value->Shared->Prop):(X.wish E).Ok:=
  ⟨ok.mod,ok.kind,ok.glob,ok.blt,ok.above,ok.inj,ok.has,ok.cab,ok.hd,ok.frames,ok.stk,ok.exf,ok.bs,ok.bsz,ok.noex,ok.exfs,ok.funs,ok.frf⟩
theorem Cx.Ok.unwish {X:Cx} {E:Value->Shared->Prop} (ok:(X.wish E).Ok):X.Ok:=
  ⟨ok.mod,ok.kind,ok.glob,ok.blt,ok.above,ok.inj,ok.has,ok.cab,ok.hd,ok.frames,ok.stk,ok.exf,ok.bs,ok.bsz,ok.noex,ok.exfs,ok.funs,ok.frf⟩
section
variable {X:Cx} {pins:List (Addr × Obj)} {σ:St} {H:Hp} {s:Shared} {E:Value->Shared->Prop}
theorem Inv.wish (I:Inv X pins σ H s) (E:Value->Shared->Prop):Inv (X.wish E) pins σ H s:=⟨I.ok.wish E,I.os,I.bare,I.base,I.loc,I.cell,I.free,I.freeC,I.pin,I.hok,I.len⟩
theorem Inv.unwish (I:Inv (X.wish E) pins σ H s):Inv X pins σ H s:=⟨I.ok.unwish,I.os,I.bare,I.base,I.loc,I.cell,I.free,I.freeC,I.pin,I.hok,I.len⟩
theorem SP.unwish {D:Ends} {f:Flow} {s':Shared} (h:SP (X.wish E) pins D f s'):SP X pins D f s':=by
  cases f with
  | next=>obtain ⟨σ',H',I,q⟩:=h;exact ⟨σ',H',I.unwish,q⟩
  | brk=>obtain ⟨σ',H',I,q⟩:=h;exact ⟨σ',H',I.unwish,q⟩
  | cont=>obtain ⟨σ',H',I,q⟩:=h;exact ⟨σ',H',I.unwish,q⟩
  | ret u=>obtain ⟨v,σ',H',I,r,q⟩:=h;exact ⟨v,σ',H',I.unwish,r,q⟩
theorem PSs.nox {st:List Stmt} {t:TS} (h:PSs X.nox st t):PSs X st t:=λ pins s σ H D I hw=>
  wpAny_mono (h pins s σ H D (I.wish _) hw) (λ _ _ q=>q.unwish) λ _ _ z=>False.elim z
end
section
variable {X:Cx} {st:Stmt} {rest:List Stmt} {t u:TS} {e:Expr} {te:TE} {pos:Pos}
def Lp:TS:=λ D σ H=>D.nx σ H
def Nl (t u:TS):TS:=λ D σ H=>t { D with nx:=u D } σ H
theorem AQ:PSs X [] Lp:=λ _ _ σ H _ I h=>wpAny_execs_nil ⟨σ,H,I,h⟩
theorem Ad (h1:PS X st t) (h2:PSs X rest u):PSs X (st::rest) (Nl t u):=by
  intro pins s σ H D I h;refine wpAny_execs_cons (thn (h1 pins s σ H { D with nx:=u D } I h) λ f s1 q=> ?_);cases f with
  | next=>
    obtain ⟨σ',H',I',q⟩:=q;exact h2 pins s1 σ' H' D I' q
  | ret v=>exact q
  | brk=>exact q
  | cont=>exact q
theorem Ae (h1:PS X st t):PSs X [st] t:=by
  intro pins s σ H D I h;refine wpAny_execs_cons (thn (h1 pins s σ H D I h) λ f s1 q=> ?_);cases f with
  | next=>exact wpAny_execs_nil q
  | ret v=>exact q
  | brk=>exact q
  | cont=>exact q
theorem Inv.quiet {pins:List (Addr × Obj)} {σ:St} {H:Hp} {s:Shared} (I:Inv X pins σ H s):interactive X.env=false:=by simp [interactive,I.ok.kind]
def Lj (te:TE):TS:=λ D σ H=>te σ H λ _ H1=>D.nx σ H1
theorem AO (he:PE X e te) (hs:swapsWith e none pos.line X.env=pure false:=by rfl):PS X (.Expr e pos) (Lj te):=by
  intro pins s σ H D I h;exact wpAny_Expr_any (thn (he pins s σ H _ I h) λ v s1 ⟨x,H1,I1,r1,q1⟩=>⟨σ,H1,I1,q1⟩) I.quiet hs
def Nj (te:TE):TS:=λ D σ H=>te σ H D.rt
theorem Ak (he:PE X e te):PS X (.Return (some e) pos) (Nj te):=by
  intro pins s σ H D I h;exact wpAny_Return_some (thn (he pins s σ H _ I h) λ v s1 ⟨x,H1,I1,r1,q1⟩=>⟨x,σ,H1,I1,r1,q1⟩)
def KI (c:TT) (t u:TS):TS:=λ D σ H=>c σ H λ b H1=>if b=true then t D σ H1 else u D σ H1
theorem BA {c:Expr} {a b:List Stmt} {tc:TT} (hc:PT X c tc) (ha:PSs X a t) (hb:PSs X b u):PS X (.If c a b pos) (KI tc t u):=by
  intro pins s σ H D I h;refine wpAny_If (thn (hc pins s σ H _ I h) λ d s1 ⟨H1,I1,q1⟩=> ?_);cases d with
  | true=>exact ha pins s1 σ H1 D I1 q1
  | false=>exact hb pins s1 σ H1 D I1 q1
def MI:TS:=λ _ _ _=>False
theorem Da:PS X st MI:=λ _ _ _ _ _ _ h=>h.elim
end
abbrev TG:=V->St->Hp->(St->Hp->Prop)->Prop
abbrev TGs:=List V->St->Hp->(St->Hp->Prop)->Prop
def PG (X:Cx) (target:Expr) (t:TG):Prop:=
  ∀ (pins:List (Addr × Obj)) (s:Shared) (σ:St) (H:Hp) (v:V) (u:Value) (Q:St->Hp->Prop),Inv X pins σ H s->RelV v u->t v σ H Q->
    wpAny (model X.prog X.w) X.A (assign target X.env u) (λ _ s'=>∃ σ' H',Inv X pins σ' H' s'/\Q σ' H') X.xe s
def PGs (X:Cx) (ts:List Expr) (t:TGs):Prop:=
  ∀ (pins:List (Addr × Obj)) (s:Shared) (σ:St) (H:Hp) (vs:List V) (us:List Value) (Q:St->Hp->Prop),Inv X pins σ H s->Vals vs us->t vs σ H Q->
    wpAny (model X.prog X.w) X.A (assignInOrder ((assignEach ts X.env).map (·.2)) us) (λ _ s'=>∃ σ' H',Inv X pins σ' H' s'/\Q σ' H') X.xe s
abbrev TIp:=V->V->Hp->VK->Prop
def PIp (X:Cx) (op:Operator) (t:TIp):Prop:=
  ∀ (pins:List (Addr × Obj)) (s:Shared) (σ:St) (H:Hp) (x y:V) (v u:Value) (Q:VK),Inv X pins σ H s->RelV x v->RelV y u->t x y H Q->
    wpAny (model X.prog X.w) X.A (inplaceOp op v u) (EP X pins σ Q) X.xe s
section
variable {X:Cx} {pos:Pos}
def Ax (i:Nat):TG:=λ v σ H Q=>Q (σ.set i (some v)) H
theorem AN {i:Nat} {x:Str} (hN:X.N.Nodup) (hi:X.N[i]?=some x) (hx:Loc X.env.scope x) (hf:X.fn x=true\/X.env.scope.names.lookup x=some .local:=by first | exact .inl rfl | exact .inr rfl | assumption):PG X (.Name x pos) (Ax i):=by
  intro pins s σ H v u Q I r h;exact wpAny_assign_Name (Dg I hN hi hx r (λ s' I'=>⟨_,H,I',h⟩) hf)
def Fe:TGs:=λ vs σ H Q=>vs=[]/\Q σ H
def A6 (t:TG) (u:TGs):TGs:=λ vs σ H Q=>∃ v r,vs=v::r/\t v σ H λ σ' H'=>u r σ' H' Q
theorem HF:PGs X [] Fe:=by
  intro pins s σ H vs us Q I r h;obtain ⟨e,h⟩:=h;subst e;cases r;exact assignInOrder_nil ⟨σ,H,I,h⟩
theorem A4 {e:Expr} {es:List Expr} {t:TG} {u:TGs} (h1:PG X e t) (h2:PGs X es u)
    (hs:(assignEach (e::es) X.env).map (·.2)=assign e X.env::(assignEach es X.env).map (·.2):=by rfl):PGs X (e::es) (A6 t u):=by
  intro pins s σ H vs us Q I r h;obtain ⟨v,vr,e1,h⟩:=h;subst e1;cases r with
  | cons r rr=>
    rw [hs];refine assignInOrder_cons (thn (h1 pins s σ H _ _ _ I r h) λ _ s1 ⟨σ1,H1,I1,q1⟩=> ?_);exact h2 pins s1 σ1 H1 _ _ Q I1 rr q1
def Es (K:PySem.W.Frag) (n:Nat) (t:TGs):TG:=λ v σ H Q=>∃ a xs,v= .ref a/\SqT K H a xs/\xs.length=n/\t xs σ H Q
theorem Jl {es:List Expr} {k:Nat} {t:TGs} {n:Nat} (hc:X.calm=true) (h:PGs X es t)
    (hn:(assignEach es X.env).length=n:=by rfl) (hst:(assignEach es X.env).findIdx? (·.1)=none:=by rfl):PG X (.Tuple es k pos) (Es X.K n t):=by
  intro pins s σ H v u Q I r hw;obtain ⟨a,xs,e1,hq,hl,hw⟩:=hw;subst e1;cases r;obtain ⟨its,rv,ht,hz⟩:=I.tuple hq;refine assign_Tuple_tuple (I.ok.hd hc) ht (by simp [hn, <-hl,rv.length]) hst λ h' hx=> ?_;have I1:Inv X pins σ H { s with heap:=h' }:=I.kept (t':=s.toks) λ b o e=>hx b o (Nat.ne_of_lt (Heap.lt_size e)) e;exact h pins _ σ H xs _ Q I1 (by simpa using rv) hw
def IM (te:TE) (g:TG):TS:=λ D σ H=>te σ H λ x H1=>g x σ H1 D.nx
theorem LF {tg e:Expr} {te:TE} {g:TG} (he:PE X e te) (hg:PG X tg g) (hs:swapsWithSole [tg] e pos.line X.env=pure false:=by rfl) (hw:swappedStores [tg] e X.env=pure none:=by rfl)
    (h1:(assignEach [tg] X.env).map (·.2)=[assign tg X.env]:=by rfl):PS X (.Assign [tg] e pos) (IM te g):=by
  intro pins s σ H D I h;refine wpAny_Assign_stores (thn (he pins s σ H _ I h) λ v s1 ⟨x,H1,I1,r1,q1⟩=> ?_) hs hw;rw [h1];exact thn (hg pins s1 σ H1 x v _ I1 r1 q1) λ _ s2 q=>q
theorem AE {i:Nat} {x:Str} {e:Expr} {te:TE} {pos':Pos} (hN:X.N.Nodup) (hi:X.N[i]?=some x) (hx:Loc X.env.scope x) (he:PE X e te) (hs:swapsWith e (some (.Name x pos')) pos.line X.env=pure false:=by rfl) (hf:X.fn x=true\/X.env.scope.names.lookup x=some .local:=by first | exact .inl rfl | exact .inr rfl | assumption):
    PS X (.Assign [.Name x pos'] e pos) (IM te (Ax i)):=by
  intro pins s σ H D I h;refine wpAny_Assign_Name (thn (he pins s σ H _ I h) λ v s1 ⟨y,H1,I1,r1,q1⟩=> ?_) hs;exact Dg I1 hN hi hx r1 (λ s2 I2=>⟨_,H1,I2,q1⟩) hf
def Nu (i:Nat) (te:TE) (ti:TIp):TS:=λ D σ H=>∃ x,σ[i]?=some (some x)/\te σ H λ y H1=>ti x y H1 λ z H2=>D.nx (σ.set i (some z)) H2
theorem JO {i:Nat} {x:Str} {e:Expr} {te:TE} {op:Operator} {ti:TIp} {pos':Pos} (hN:X.N.Nodup) (hi:X.N[i]?=some x) (hx:Loc X.env.scope x) (he:PE X e te) (ho:PIp X op ti) (hf:X.fn x=true\/X.env.scope.names.lookup x=some .local:=by first | exact .inl rfl | exact .inr rfl | assumption):
    PS X (.AugAssign (.Name x pos') op e pos) (Nu i te ti):=by
  intro pins s σ H D I h;obtain ⟨v,e1,h⟩:=h;obtain ⟨m,hn,hl⟩:=I.loc;have vis:Vis X.env.scope x:=by rcases hx with k | k;exact .inl k;exact .inr (.inl k)
  obtain ⟨u,r,l⟩:=hl i x v hi e1 vis;refine wpAny_AugAssign_Name ?_;have go:wpAny (model X.prog X.w) X.A (eval e X.env) (λ w s₂=>wpAny (model X.prog X.w) X.A (inplaceOp op u w) (λ r s₃=>wpAny (model X.prog X.w) X.A (storeName X.env x r) (λ _=>SP X pins D .next) X.xe s₃) X.xe s₂) X.xe s:=by
    refine thn (he pins s σ H _ I h) λ w s1 ⟨y,H1,I1,r1,q1⟩=> ?_;refine thn (ho pins s1 σ H1 v y u w _ I1 r r1 q1) λ z s2 ⟨zv,H2,I2,r2,q2⟩=> ?_;exact Dg I2 hN hi hx r2 (λ s3 I3=>⟨_,H2,I3,q2⟩) hf
  rcases l with ⟨hk,hm⟩ | ⟨hk,c,hc,hcell⟩
  · exact wpAny_loadName_local I.ok.kind hk hn hm go
  · rcases hk with hk | hk
    · exact wpAny_loadName_cell I.ok.kind hk hc hcell go
    · rcases hx with k | k
      · have:X.env.scope.names.lookup x=some .free:=hk;rw [k] at this;cases this
      · have:X.env.scope.names.lookup x=some .free:=hk;rw [k] at this;cases this
end
section
variable {X:Cx} {pos:Pos}
end
structure It where
  go:Nat->Hp->Prop
  yld:Nat->Hp->V->Hp->Prop
  stop:Nat->Hp->Prop
def B0 (X:Cx) (pins:List (Addr × Obj)) (H:Hp) (b:Addr):Prop:=
  H b=none/\b≠X.env.locals/\b∉X.fs/\(b∈X.ex\/X.s₀.heap.objs.size<=b)/\(∀ x c,X.env.cells.lookup x=some c->c≠b)/\∀ p∈X.pn++pins,p.1≠b
theorem Inv.fpOk {X:Cx} {pins:List (Addr × Obj)} {σ:St} {H H':Hp} {s:Shared} {b:Addr} (I:Inv X pins σ H s) (hb:s.heap.objs.size<=b) (hn:H' b=none):B0 X pins H' b:=by
  refine ⟨hn,Nat.ne_of_gt (Nat.lt_of_lt_of_le I.lt hb),I.nofs hb, .inr (Nat.le_trans I.sz hb),λ x c e z=> ?_,λ p hp z=> ?_⟩
  · obtain ⟨v,q⟩:=I.cell x c e;exact absurd (Nat.lt_of_lt_of_le q.lt (by rw [z];exact hb)) (Nat.lt_irrefl _)
  · exact absurd (Nat.lt_of_lt_of_le (Heap.lt_size (I.pin p hp).1) (by rw [z];exact hb)) (Nat.lt_irrefl _)
structure Turn (P:Program) (w:World) (K:PySem.W.Frag) (tg:Expr) (J:It) (fp:List Addr) (it:Addr) (tn:Nat->Heap->Prop):Prop where
  mem:it∈fp
  obj:∀ i h,tn i h->∀ b∈fp,∃ o,h.get? b=some o/\∀ v,o.data≠ .cell v
  keep:∀ i h h',tn i h->(∀ b∈fp,∀ o,h.get? b=some o->h'.get? b=some o)->tn i h'
  item:∀ (X:Cx),X.prog=P->X.w=w->X.K=K->X.calm=true->∀ (i:Nat) (pins:List (Addr × Obj)) (s:Shared) (σ:St) (H:Hp) (E:Value->Shared->Prop),Inv X pins σ H s->(∀ b∈fp,B0 X pins H b)->tn i s.heap->J.go i H->
    wpAny (model P w) X.A (pyNext (.ref it)) (λ r s1=>∃ u,r=some u/\
      wpAny (model P w) X.A (letOwnedTupleGo tg (.ref it) u) (λ _ s2=>∃ x H',Inv X pins σ H' s2/\RelV x u/\J.yld i H x H'/\tn (i+1) s2.heap/\∀ b∈fp,H' b=none) E s1) E s
  done:∀ (X:Cx),X.prog=P->X.w=w->X.K=K->X.calm=true->∀ (i:Nat) (pins:List (Addr × Obj)) (s:Shared) (σ:St) (H:Hp) (E:Value->Shared->Prop),Inv X pins σ H s->(∀ b∈fp,B0 X pins H b)->tn i s.heap->J.stop i H->
    wpAny (model P w) X.A (pyNext (.ref it)) (λ r s1=>r=none/\Inv X pins σ H s1) E s
  self:∀ (A:Around) (i:Nat) (s:Shared) (Q:Value->Shared->Prop) (E:Value->Shared->Prop),tn i s.heap->Q (.ref it) s->wpAny (model P w) A (pyIter (.ref it)) Q E s
abbrev TI:=St->Hp->(It->Hp->Prop)->Prop
def PIE (X:Cx) (pins:List (Addr × Obj)) (σ:St) (tg:Expr) (R:It->Hp->Prop) (itv:Value) (s2:Shared):Prop:=
  ∃ (it:Addr) (fp:List Addr) (tn:Nat->Heap->Prop) (J:It) (H':Hp),itv= .ref it/\Inv X pins σ H' s2/\Turn X.prog X.w X.K tg J fp it tn/\tn 0 s2.heap/\(∀ b∈fp,B0 X pins H' b)/\R J H'
def PI (X:Cx) (tg iter:Expr) (wi:TI):Prop:=
  ∀ (pins:List (Addr × Obj)) (s:Shared) (σ:St) (H:Hp) (R:It->Hp->Prop),Inv X pins σ H s->wi σ H R->
    wpAny (model X.prog X.w) X.A (eval iter X.env) (λ v s1=>wpAny (model X.prog X.w) X.A (pyIter v) (PIE X pins σ tg R) X.xe s1) X.xe s
theorem HJ {M:Model} {A:Around} {E:Value->Shared->Prop} {s:Shared} {tg:Expr} {it:Addr} {u:Value} {o:Obj} {n:String} {vs:Array Value} {Q:Unit->Shared->Prop} (ho:s.heap.get? it=some o) (hc:o.cls= .type n) (hd:o.data= .fields vs)
    (hn:["enumerate","zip","dict_itemiterator","dict_reverseitemiterator","odict_iterator","itertools.zip_longest","itertools.pairwise"].contains n=false) (hQ:Q () s):wpAny M A (letOwnedTupleGo tg (.ref it) u) Q E s:=by
  unfold letOwnedTupleGo;cases tg <;> first
    | exact wpAny_pure hQ
    | (cases u <;> first
        | exact wpAny_pure hQ
        | (refine wpAny_bind (wpAny_load ho ?_)
           rw [hc,hd];show wpAny M A (if (["enumerate","zip","dict_itemiterator","dict_reverseitemiterator","odict_iterator","itertools.zip_longest","itertools.pairwise"].contains n&&vs[0]? == some (rawInt _))=true then _ else _) Q E s;rw [if_neg (by intro h;rw [hn,Bool.false_and] at h;cases h)];exact wpAny_pure hQ))
def Itl (K:PySem.W.Frag) (a:Addr):It:=
  ⟨λ i H=>∃ xs x,SqL K H a xs/\xs[i]?=some x,λ i H x H'=>H'=H/\∀ xs,SqL K H a xs->xs[i]?=some x,λ i H=>∃ xs,SqL K H a xs/\xs.length<=i⟩
def Itt (K:PySem.W.Frag) (a:Addr):It:=
  ⟨λ i H=>∃ xs x,SqT K H a xs/\xs[i]?=some x,λ i H x H'=>H'=H/\∀ xs,SqT K H a xs->xs[i]?=some x,λ i H=>∃ xs,SqT K H a xs/\xs.length<=i⟩
def Itr (lo:Int) (n:Nat):It:=⟨λ i _=>i<n,λ i H x H'=>H'=H/\x= .int (lo+i),λ i _=>n<=i⟩
theorem Ft {P:Program} {w:World} {K:PySem.W.Frag} {tg:Expr} (a it:Addr):Turn P w K tg (Itl K a) [it] it (λ i h=>h.IsListIter it a i) where
  mem:=by simp
  obj:=λ i h st b hb=>by
    have e:b=it:=by simpa using hb
    subst e;obtain ⟨o,e,c,d⟩:=st;exact ⟨o,e,λ v z=>by rw [d] at z;cases z⟩
  keep:=λ i h h' st k=>st.at λ o e=>k it (by simp) o e
  item:=by
    intro X hP hw hK hc i pins s σ H E I hf st hg;subst hP hw hK;obtain ⟨xs,x,hq,hx⟩:=hg;obtain ⟨its,rv,p,hz⟩:=I.list hq;obtain ⟨u,hu,ru⟩:=rv.get hx;obtain ⟨f0,f1,f2,f3,f4,f5⟩:=hf it (by simp);refine wpAny_pyNext_list_item st p.isList (x:=u) (by simpa using hu) λ h' st' sb=> ?_;have I1:Inv X pins σ H { s with heap:=h' }:=I.turned (t':=s.toks) (λ b o hb e=>(sb.2 b hb).trans e) f0 f1 f3 f4 f5;obtain ⟨o,e,c,d⟩:=id st';exact ⟨u,rfl,HJ (s:={ s with heap:=h' }) e c d (by decide) ⟨x,H,I1,ru,⟨rfl,λ ys hy=>by rw [I.list_inj hy hq];exact hx⟩,st',λ b hb=>(hf b hb).1⟩⟩
  done:=by
    intro X hP hw hK hc i pins s σ H E I hf st hg;subst hP hw hK;obtain ⟨xs,hq,hx⟩:=hg;obtain ⟨its,rv,p,hz⟩:=I.list hq;obtain ⟨f0,f1,f2,f3,f4,f5⟩:=hf it (by simp);have hl:=rv.length;exact wpAny_pyNext_list_end (I.ok.hd hc) st p.isList (by simp;omega) λ h' eb=>⟨rfl,I.turned (t':=s.toks) (λ b o hb e=>eb b o hb e) f0 f1 f3 f4 f5⟩
  self:=λ _ _ _ _ _ st h=>wpAny_pyIter_listiter st h
theorem Ey {P:Program} {w:World} {K:PySem.W.Frag} {tg:Expr} (a it:Addr):Turn P w K tg (Itt K a) [it] it (λ i h=>h.IsTupleIter it a i) where
  mem:=by simp
  obj:=λ i h st b hb=>by
    have e:b=it:=by simpa using hb
    subst e;obtain ⟨o,e,c,d⟩:=st;exact ⟨o,e,λ v z=>by rw [d] at z;cases z⟩
  keep:=λ i h h' st k=>st.at λ o e=>k it (by simp) o e
  item:=by
    intro X hP hw hK hc i pins s σ H E I hf st hg;subst hP hw hK;obtain ⟨xs,x,hq,hx⟩:=hg;obtain ⟨its,rv,p,hz⟩:=I.tuple hq;obtain ⟨u,hu,ru⟩:=rv.get hx;obtain ⟨f0,f1,f2,f3,f4,f5⟩:=hf it (by simp);refine wpAny_pyNext_tuple_item st (show s.heap.IsTuple a its.toArray from p) (x:=u) (by simpa using hu) λ h' st' sb=> ?_;have I1:Inv X pins σ H { s with heap:=h' }:=I.turned (t':=s.toks) (λ b o hb e=>(sb.2 b hb).trans e) f0 f1 f3 f4 f5;obtain ⟨o,e,c,d⟩:=id st';exact ⟨u,rfl,HJ (s:={ s with heap:=h' }) e c d (by decide) ⟨x,H,I1,ru,⟨rfl,λ ys hy=>by rw [I.tuple_inj hy hq];exact hx⟩,st',λ b hb=>(hf b hb).1⟩⟩
  done:=by
    intro X hP hw hK hc i pins s σ H E I hf st hg;subst hP hw hK;obtain ⟨xs,hq,hx⟩:=hg;obtain ⟨its,rv,p,hz⟩:=I.tuple hq;obtain ⟨f0,f1,f2,f3,f4,f5⟩:=hf it (by simp);have hl:=rv.length;exact wpAny_pyNext_tuple_end (I.ok.hd hc) st (show s.heap.IsTuple a its.toArray from p) (by simp;omega) λ h' eb=>⟨rfl,I.turned (t':=s.toks) (λ b o hb e=>eb b o hb e) f0 f1 f3 f4 f5⟩
  self:=λ _ _ _ _ _ st h=>wpAny_pyIter_tupleiter st h
theorem GX {P:Program} {w:World} {K:PySem.W.Frag} {tg:Expr} (it:Addr) (lo:Int) (n:Nat):Turn P w K tg (Itr lo n) [it] it (λ i h=>IsRangeIter h it (lo+(i:Nat)*1) ((n:Int) - (i:Nat)) 1) where
  mem:=by simp
  obj:=λ i h st b hb=>by
    have e:b=it:=by simpa using hb
    subst e;exact ⟨_,st,λ v z=>by
      have z':Data.fields _=Data.cell v:=z;cases z'⟩
  keep:=λ i h h' st k=>k it (by simp) _ st
  item:=by
    intro X hP hw hK hc i pins s σ H E I hf st hg;subst hP hw hK;obtain ⟨f0,f1,f2,f3,f4,f5⟩:=hf it (by simp);have W:=Walks.range (prog:=X.prog) (w:=X.w) (I.ok.hd hc) it lo 1 n;refine W.item i s _ _ hg st λ v h' tk hv st' kk=> ?_;obtain ⟨t,rfl⟩:=hv;have I1:Inv X pins σ H { s with heap:=h',toks:=tk }:=I.turned (λ b o hb e=>kk b o (by simpa using hb) e) f0 f1 f3 f4 f5;refine ⟨_,rfl,HJ (s:={ s with heap:=h',toks:=tk }) (n:="range_iterator") st' rfl rfl (by decide) ⟨.int (lo+i),H,I1,⟨t,?_⟩,⟨rfl,rfl⟩,st',λ b hb=>(hf b hb).1⟩⟩;rw [Int.mul_one]
  done:=by
    intro X hP hw hK hc i pins s σ H E I hf st hg;subst hP hw hK;obtain ⟨f0,f1,f2,f3,f4,f5⟩:=hf it (by simp);exact wpAny_pyNext_range_end (I.ok.hd hc) st (by have:n<=i:=hg;omega) λ h' eb=>⟨rfl,I.turned (t':=s.toks) (λ b o hb e=>eb b o hb e) f0 f1 f3 f4 f5⟩
  self:=λ _ _ _ _ _ st h=>wpAny_pyIter_rangeiter st h
section
variable {X:Cx} {tg:Expr}
def JF (K:PySem.W.Frag) (tl:TE):TI:=λ σ H R=>tl σ H λ x H1=>∃ a,x= .ref a/\(∃ xs,SqL K H1 a xs)/\R (Itl K a) H1
def LS (K:PySem.W.Frag) (tl:TE):TI:=λ σ H R=>tl σ H λ x H1=>∃ a,x= .ref a/\(∃ xs,SqT K H1 a xs)/\R (Itt K a) H1
theorem La {l:Expr} {tl:TE} (hl:PE X l tl):PI X tg l (JF X.K tl):=by
  intro pins s σ H R I h;refine thn (hl pins s σ H _ I h) λ v s1 ⟨x,H1,I1,r1,q1⟩=> ?_;obtain ⟨a,e,⟨xs,hq⟩,q⟩:=q1;subst e;cases r1;obtain ⟨its,rv,p,hz⟩:=I1.list hq;refine wpAny_pyIter_list p.isList ?_;refine ⟨s1.heap.objs.size,[s1.heap.objs.size],_,_,H1,rfl,I1.kept (t':=s1.toks) λ b o e=>Heap.get?_push_of_some _ e,Ft a _,⟨_,Heap.get?_push_size _ rfl,rfl,rfl⟩,λ b hb=> ?_,q⟩;have e:b=s1.heap.objs.size:=by simpa using hb
  subst e;exact I1.fpOk (Nat.le_refl _) (I1.hok.fresh (Nat.le_refl _))
theorem MC {l:Expr} {tl:TE} (hl:PE X l tl):PI X tg l (LS X.K tl):=by
  intro pins s σ H R I h;refine thn (hl pins s σ H _ I h) λ v s1 ⟨x,H1,I1,r1,q1⟩=> ?_;obtain ⟨a,e,⟨xs,hq⟩,q⟩:=q1;subst e;cases r1;obtain ⟨its,rv,p,hz⟩:=I1.tuple hq;refine wpAny_pyIter_tuple (show s1.heap.IsTuple a its.toArray from p) ?_;refine ⟨s1.heap.objs.size,[s1.heap.objs.size],_,_,H1,rfl,I1.kept (t':=s1.toks) λ b o e=>Heap.get?_push_of_some _ e,Ey a _,⟨_,Heap.get?_push_size _ rfl,rfl,rfl⟩,λ b hb=> ?_,q⟩;have e:b=s1.heap.objs.size:=by simpa using hb
  subst e;exact I1.fpOk (Nat.le_refl _) (I1.hok.fresh (Nat.le_refl _))
theorem GE {pins:List (Addr × Obj)} {σ:St} {H:Hp} {s:Shared} {R:It->Hp->Prop} {E:Value->Shared->Prop} {lo hi:Int} {t u v:Tok} {tk:Nat} (I:Inv X pins σ H s) (h1: -(2 ^ 62)<=lo) (h2:lo<2 ^ 62) (h3: -(2 ^ 62)<=hi) (h4:hi<2 ^ 62)
    (q:R (Itr lo (hi - lo).toNat) H):wpAny (model X.prog X.w) X.A (pyIter (.ref s.heap.objs.size)) (PIE X pins σ tg R) E { s with heap:=s.heap.push { cls:= .type "range",data:= .fields #[.int lo t, .int hi u, .int 1 v] },toks:=tk }:=by
  refine wpAny_pyIter_range (IsRange.new ..) (small_one h1 h2 h3 h4) ?_;have I1:Inv X pins σ H { s with heap:=s.heap.push { cls:= .type "range",data:= .fields #[.int lo t, .int hi u, .int 1 v] },toks:=tk }:=I.kept λ b o e=>Heap.get?_push_of_some _ e;refine ⟨(s.heap.push { cls:= .type "range",data:= .fields #[.int lo t, .int hi u, .int 1 v] }).objs.size,[(s.heap.push { cls:= .type "range",data:= .fields #[.int lo t, .int hi u, .int 1 v] }).objs.size],_,_,H,rfl,
    I1.kept (t':=tk) λ b o e=>Heap.get?_push_of_some _ e,GX _ lo (hi - lo).toNat,?_,λ b hb=> ?_,q⟩
  · have e1:lo+((0:Nat):Int)*1=lo:=by simp
    have e2:(((hi - lo).toNat:Nat):Int) - ((0:Nat):Int)=Builtin.Range.rangeSize lo hi 1:=by rw [rangeSize_one];split <;> omega
    show IsRangeIter _ _ (lo+((0:Nat):Int)*1) ((((hi - lo).toNat:Nat):Int) - ((0:Nat):Int)) 1;rw [e1,e2];exact Heap.get?_push_size _ rfl
  · have e:b=(s.heap.push { cls:= .type "range",data:= .fields #[.int lo t, .int hi u, .int 1 v] }).objs.size:=by simpa using hb
    subst e;exact I1.fpOk (Nat.le_refl _) (I1.hok.fresh (Nat.le_refl _))
def Lu (ta:TA):TI:=λ σ H R=>ta σ H λ vs H1=>∃ j:Int,vs=[.int j]/\ -(2 ^ 62)<=j/\j<2 ^ 62/\R (Itr 0 j.toNat) H1
def LA (ta:TA):TI:=λ σ H R=>ta σ H λ vs H1=>∃ i j:Int,vs=[.int i, .int j]/\(-(2 ^ 62)<=i/\i<2 ^ 62/\ -(2 ^ 62)<=j/\j<2 ^ 62)/\R (Itr i (j - i).toNat) H1
theorem Br {a:Expr} {ta:TA} {p pos:Pos} (hg:Gl X "range") (hm:X.mg "range"=none) (ha:PA X [a] ta) (hs:starEach [a] X.env=[(false,eval a X.env)]:=by rfl):PI X tg (.Call (.Name "range" p) [a] [] pos) (Lu ta):=by
  intro pins s σ H R I h;refine Call_ (BF I hg hm boot_range (PyProof.Rows.callWith_type1 (thn (ha pos pins s σ H _ I h) λ us s1 ⟨vs,H1,I1,r1,q1⟩=> ?_) hs rfl));obtain ⟨j,e,q1,q2,q⟩:=q1;subst e;cases r1 with
  | cons r rr=>
    cases rr;obtain ⟨t,rfl⟩:=r;exact call_range_1 (GE I1 (by omega) (by omega) q1 q2 (by simpa using q))
theorem Fl {a b:Expr} {ta:TA} {p pos:Pos} (hg:Gl X "range") (hm:X.mg "range"=none) (ha:PA X [a,b] ta) (hs:starEach [a,b] X.env=[(false,eval a X.env),(false,eval b X.env)]:=by rfl) (hs2:starEach [b] X.env=[(false,eval b X.env)]:=by rfl):
    PI X tg (.Call (.Name "range" p) [a,b] [] pos) (LA ta):=by
  intro pins s σ H R I h;refine Call_ (BF I hg hm boot_range (PyProof.Rows.callWith_type1 (thn (ha pos pins s σ H _ I h) λ us s1 ⟨vs,H1,I1,r1,q1⟩=> ?_) (by rw [hs,hs2]) (by rw [hs2];rfl)));obtain ⟨i,j,e,⟨q1,q2,q3,q4⟩,q⟩:=q1;subst e;cases r1 with
  | cons r rr=>
    cases rr with
    | cons r' rr=>
      cases rr;obtain ⟨t,rfl⟩:=r;obtain ⟨t',rfl⟩:=r';exact call_range_2 (GE I1 q1 q2 q3 q4 q)
def Nw (wi:TI) (g:TG) (tb:TS):TS:=λ D σ H=>wi σ H λ J H1=>∃ W:Nat->Nat->St->Hp->Prop,(∃ m,W 0 m σ H1)/\∀ i m σ H,W i m σ H->
  (J.stop i H/\D.nx σ H)\/(J.go i H/\∃ N:St->Hp->Prop,(∀ σ' H',N σ' H'->∃ m',m'<m/\W (i+1) m' σ' H')/\∀ x H',J.yld i H x H'->g x σ H' λ σ2 H2=>tb { D with nx:=N,ct:=N,bk:=D.nx } σ2 H2)
def EF (fp:List Addr) (h:Heap):List (Addr × Obj):=fp.filterMap λ b=>(h.get? b).map λ o=>(b,o)
theorem BN {fp:List Addr} {h:Heap} {b:Addr} {o:Obj} (hb:b∈fp) (e:h.get? b=some o):(b,o)∈EF fp h:=List.mem_filterMap.mpr ⟨b,hb,by rw [e];rfl⟩
theorem Ig {fp:List Addr} {h:Heap} {p:Addr × Obj} (hp:p∈EF fp h):p.1∈fp/\h.get? p.1=some p.2:=by
  obtain ⟨b,hb,e⟩:=List.mem_filterMap.mp hp;cases q:h.get? b with
  | none=>rw [q] at e;cases e
  | some o=>
    rw [q] at e;have e':(b,o)=p:=Option.some.inj e;subst e';exact ⟨hb,q⟩
theorem Inv.pinned {pins:List (Addr × Obj)} {σ:St} {H:Hp} {s:Shared} {fp:List Addr} (I:Inv X pins σ H s) (hf:∀ b∈fp,B0 X pins H b) (ho:∀ b∈fp,∃ o,s.heap.get? b=some o/\∀ v,o.data≠ .cell v):Inv X (pins++EF fp s.heap) σ H s:=
  I.pins_of λ p hp=>(List.mem_append.mp hp).elim (λ z=>I.pin p (List.mem_append_right _ z)) λ z=>by
    obtain ⟨hb,e⟩:=Ig z;obtain ⟨f0,f1,f2,_⟩:=hf p.1 hb;obtain ⟨o,e',d⟩:=ho p.1 hb;rw [e] at e';cases e';exact ⟨e,f0,f1,f2,d⟩
theorem Inv.unpinned {pins pl:List (Addr × Obj)} {σ:St} {H:Hp} {s:Shared} (I:Inv X (pins++pl) σ H s):Inv X pins σ H s:=I.pins_of λ p hp=>I.pin p (List.mem_append_right _ (List.mem_append_left _ hp))
theorem DB {iter:Expr} {body:List Stmt} {wi:TI} {g:TG} {tb:TS} {pos:Pos} (hp:PassesOwn (model X.prog X.w) X.A X.env X.xe) (hc:X.calm=true) (hi:PI X tg iter wi) (hg:PG X tg g) (hb:PSs X body tb)
    (hs:∀ x,foldedSetIterable iter X.env x=pure x:=by intro _;rfl):PS X (.For tg iter body [] pos) (Nw wi g tb):=by
  intro pins s σ H D I h;refine wpAny_For (thn (hi pins s σ H _ I h) λ v s1 h1=>thn h1 λ itv s2 h2=> ?_) hs;obtain ⟨it,fp,tn,J,H2,e,I2,T,st2,f2,W,⟨m0,w0⟩,turn⟩:=h2;subst e;have stat:∀ {H':Hp},(∀ b∈fp,H' b=none)->∀ b∈fp,B0 X pins H' b:=λ hn b hb=>⟨hn b hb,(f2 b hb).2⟩;refine codeAny_forLoop_any (λ n s'=>∃ i σ' H',Inv X pins σ' H' s'/\tn i s'.heap/\(∀ b∈fp,H' b=none)/\W i n σ' H') ?_ m0 ⟨0,σ,H2,I2,st2,λ b hb=>(f2 b hb).1,w0⟩;rintro n s3 ⟨i,σ3,H3,I3,st3,fr3,w3⟩;rcases turn i n σ3 H3 w3 with ⟨stop,qn⟩ | ⟨go,N,hN,step⟩
  · refine wpAny_passesOwn hp (thn (T.done X rfl rfl rfl hc i pins s3 σ3 H3 X.xe I3 (stat fr3) st3 stop) λ r s4 ⟨hr,I4⟩=> ?_);subst hr;exact wpAny_execs_nil ⟨σ3,H3,I4,qn⟩
  · refine wpAny_passesOwn hp (thn (T.item X rfl rfl rfl hc i pins s3 σ3 H3 X.xe I3 (stat fr3) st3 go) λ r s4 ⟨u,hr,h4⟩=> ?_);subst hr;refine wpAny_passesOwn hp (thn h4 λ _ s5 ⟨x,H5,I5,r5,y5,st5,fr5⟩=> ?_);have I5':=I5.pinned (stat fr5) (T.obj _ _ st5);refine wpAny_passesOwn hp (thn (hg _ s5 σ3 H5 x u _ I5' r5 (step x H5 y5)) λ _ s6 ⟨σ6,H6,I6,q6⟩=> ?_);refine wpAny_passesOwn hp (thn (hb _ s6 σ6 H6 _ I6 q6) λ f s7 q7=> ?_);have again:∀ {σ7:St} {H7:Hp},Inv X (pins++EF fp s5.heap) σ7 H7 s7->N σ7 H7->∃ m,m<n/\∃ i σ' H',Inv X pins σ' H' s7/\tn i s7.heap/\(∀ b∈fp,H' b=none)/\W i m σ' H':=λ {σ7 H7} I7 n7=>by
      obtain ⟨m',hm,w7⟩:=hN σ7 H7 n7;refine ⟨m',hm,i+1,σ7,H7,I7.unpinned,T.keep _ _ _ st5 λ b hb o e=>(I7.pin (b,o) (List.mem_append_right _ (List.mem_append_right _ (BN hb e)))).1,λ b hb=> ?_,w7⟩;obtain ⟨o,e,d⟩:=T.obj _ _ st5 b hb;exact (I7.pin (b,o) (List.mem_append_right _ (List.mem_append_right _ (BN hb e)))).2.1
    cases f with
    | next=>obtain ⟨σ7,H7,I7,n7⟩:=q7;exact again I7 n7
    | cont=>obtain ⟨σ7,H7,I7,n7⟩:=q7;exact again I7 n7
    | brk=>obtain ⟨σ7,H7,I7,q7⟩:=q7;exact ⟨σ7,H7,I7.unpinned,q7⟩
    | ret v=>obtain ⟨x7,σ7,H7,I7,r7,q7⟩:=q7;exact ⟨x7,σ7,H7,I7.unpinned,r7,q7⟩
end
abbrev R2:=V->V->Hp->VK->Prop
def OpR (X:Cx) (f:Value->Value->Sem Value) (r:R2):Prop:=
  ∀ (pins:List (Addr × Obj)) (s:Shared) (σ:St) (H:Hp) (x y:V) (v u:Value) (Q:VK),Inv X pins σ H s->RelV x v->RelV y u->r x y H Q->
    wpAny (model X.prog X.w) X.A (f v u) (EP X pins σ Q) X.xe s
def Bg (X:Cx) (f:Value) (r:List V->Hp->VK->Prop):Prop:=
  ∀ (pins:List (Addr × Obj)) (s:Shared) (σ:St) (H:Hp) (xs:List V) (us:List Value) (Q:VK),Inv X pins σ H s->Vals xs us->r xs H Q->
    wpAny (model X.prog X.w) X.A (call f us) (EP X pins σ Q) X.xe s
def NQ (X:Cx) (r:V->Hp->(Bool->Hp->Prop)->Prop):Prop:=
  ∀ (pins:List (Addr × Obj)) (s:Shared) (σ:St) (H:Hp) (x:V) (v:Value) (Q:Bool->Hp->Prop),Inv X pins σ H s->RelV x v->r x H Q->
    wpAny (model X.prog X.w) X.A (truthy v) (TP X pins σ Q) X.xe s
def tOp (r:R2) (ta tb:TE):TE:=λ σ H Q=>ta σ H λ x H1=>tb σ H1 λ y H2=>r x y H2 Q
def rI (C:Int->Int->Prop) (g:Int->Int->V):R2:=λ x y H Q=>∃ i j,x= .int i/\y= .int j/\C i j/\Q (g i j) H
def rI0 (g:Int->Int->V):R2:=λ x y H Q=>∃ i j,x= .int i/\y= .int j/\Q (g i j) H
section
variable {X:Cx} {a b c:Expr} {ta tb tc:TE} {pos:Pos}
theorem Mu (ha:PE X a ta) (hb:PE X b tb) {pins:List (Addr × Obj)} {s:Shared} {σ:St} {H:Hp} {R:V->V->Hp->Prop} (I:Inv X pins σ H s)
    (h:ta σ H λ x H1=>tb σ H1 λ y H2=>R x y H2) {Q:Value->Shared->Prop} {f:Value->Value->Sem Value}
    (hf:∀ v u s2 x y H2,Inv X pins σ H2 s2->RelV x v->RelV y u->R x y H2->wpAny (model X.prog X.w) X.A (f v u) Q X.xe s2):
    wpAny (model X.prog X.w) X.A (eval a X.env) (λ v s₁=>wpAny (model X.prog X.w) X.A (eval b X.env) (λ u s₂=>wpAny (model X.prog X.w) X.A (f v u) Q X.xe s₂) X.xe s₁) X.xe s:=by
  refine thn (ha pins s σ H _ I h) λ v s1 ⟨x,H1,I1,r1,q1⟩=> ?_;refine thn (hb pins s1 σ H1 _ I1 q1) λ u s2 ⟨y,H2,I2,r2,q2⟩=> ?_;exact hf v u s2 x y H2 I2 r1 r2 q2
theorem Am {op:Operator} {r:R2} (ho:OpR X (binaryOp op) r) (ha:PE X a ta) (hb:PE X b tb):PE X (.BinOp a op b pos) (tOp r ta tb):=by
  intro pins s σ H Q I h;exact wpAny_BinOp (Mu ha hb I h λ v u s2 x y H2 I2 rx ry q=>ho pins s2 σ H2 x y v u Q I2 rx ry q)
theorem opI {f:Value->Value->Sem Value} {C:Int->Int->Prop} {g:Int->Int->Int}
    (rule:∀ (i j:Int) (t u:Tok) (s:Shared) (Q:Value->Shared->Prop) (E:Value->Shared->Prop),C i j->Q (.int (g i j) s.toks) { s with toks:=s.toks+1 }->wpAny (model X.prog X.w) X.A (f (.int i t) (.int j u)) Q E s):
    OpR X f (rI C λ i j=> .int (g i j)):=by
  intro pins s σ H x y v u Q I rx ry h;obtain ⟨i,j,rfl,rfl,hc,q⟩:=h;obtain ⟨t,rfl⟩:=rx;obtain ⟨t',rfl⟩:=ry;exact rule i j t t' s _ _ hc ⟨.int (g i j),H,I.tok _,⟨_,rfl⟩,q⟩
theorem K5 {f:Value->Value->Sem Value} {g:Int->Int->Int}
    (rule:∀ (i j:Int) (t u:Tok) (s:Shared) (Q:Value->Shared->Prop) (E:Value->Shared->Prop),Q (.int (g i j) s.toks) { s with toks:=s.toks+1 }->wpAny (model X.prog X.w) X.A (f (.int i t) (.int j u)) Q E s):
    OpR X f (rI0 λ i j=> .int (g i j)):=by
  intro pins s σ H x y v u Q I rx ry h;obtain ⟨i,j,rfl,rfl,q⟩:=h;obtain ⟨t,rfl⟩:=rx;obtain ⟨t',rfl⟩:=ry;exact rule i j t t' s _ _ ⟨.int (g i j),H,I.tok _,⟨_,rfl⟩,q⟩
theorem N9 {f:Value->Value->Sem Value} {g:Int->Int->Bool}
    (rule:∀ (i j:Int) (t u:Tok) (s:Shared) (Q:Value->Shared->Prop) (E:Value->Shared->Prop),Q (.bool (g i j)) s->wpAny (model X.prog X.w) X.A (f (.int i t) (.int j u)) Q E s):
    OpR X f (rI0 λ i j=> .bl (g i j)):=by
  intro pins s σ H x y v u Q I rx ry h;obtain ⟨i,j,rfl,rfl,q⟩:=h;obtain ⟨t,rfl⟩:=rx;obtain ⟨t',rfl⟩:=ry;exact rule i j t t' s _ _ ⟨.bl (g i j),H,I,rfl,q⟩
def Ph (i j:Int):Prop:=0<=j/\j<=1000000/\i.natAbs<2 ^ 64
def CMul (i j:Int):Prop:=(-(2 ^ 64)<i/\i<2 ^ 64)\/(-(2 ^ 64)<j/\j<2 ^ 64)
theorem CMul.ok {i j:Int} (h:CMul i j):IntMulOk i j:=by
  rcases h with ⟨h1,h2⟩ | ⟨h1,h2⟩
  · exact .of_left (intBits_le_64 h1 h2)
  · exact .of_right (intBits_le_64 h1 h2)
theorem Hc (k:Nat):(0:Int)<=2 ^ k:=by
  rw [two_pow_cast];exact Int.natCast_nonneg _
theorem AZ:OpR X (binaryOp .Add) (rI0 λ i j=> .int (i+j)):=K5 λ _ _ _ _ _ _ _ q=>add_int q
theorem Eh:OpR X (binaryOp .Sub) (rI0 λ i j=> .int (i - j)):=K5 λ _ _ _ _ _ _ _ q=>sub_int q
theorem Gb:OpR X (binaryOp .Mult) (rI CMul λ i j=> .int (i*j)):=opI λ _ _ _ _ _ _ _ hc q=>mul_int q hc.ok
theorem AU:OpR X (binaryOp .Mod) (rI (λ _ j=>0<j) λ i j=> .int (i%j)):=opI λ i j _ _ _ _ _ hc q=>by
  have h1:(0:Int)<j:=hc;exact mod_int' (by omega) (by rw [Int.fmod_eq_emod_of_nonneg i (by omega)];exact q)
theorem F6:OpR X (binaryOp .LShift) (rI Ph λ i j=> .int (i*2 ^ j.toNat)):=opI λ _ _ _ _ _ _ _ hc q=>lshift_int_small hc.1 hc.2.1 hc.2.2 q
theorem ML:OpR X (binaryOp .RShift) (rI (λ _ j=>0<=j) λ i j=> .int (i / 2 ^ j.toNat)):=opI λ i j _ _ _ _ _ hc q=>
  rshift_int hc (by rw [Int.fdiv_eq_ediv_of_nonneg i (Hc _)];exact q)
theorem Jd:OpR X (binaryOp .BitAnd) (rI0 λ i j=> .int (Builtin.bitAnd i j)):=K5 λ _ _ _ _ _ _ _ q=>and_int q
theorem Jx:OpR X (inplaceOp .BitOr) (rI0 λ i j=> .int (Builtin.bitOr i j)):=K5 λ _ _ _ _ _ _ _ q=>ior_int q
end
def Mo:V->V->Bool
  | .non, .non=>true | .non, .int _=>true | .int _, .non=>true | .non, .bl _=>true | .bl _, .non=>true | .non, .str _=>true | .str _, .non=>true
  | .int _, .int _=>true | .bl _, .bl _=>true | .str _, .str _=>true | .byt _, .byt _=>true
  | .int _, .str _=>true | .str _, .int _=>true | .bl _, .str _=>true | .str _, .bl _=>true
  | _,_=>false
def rEq:R2:=λ x y H Q=>Mo x y=true/\Q (.bl (decide (x=y))) H
def rNe:R2:=λ x y H Q=>Mo x y=true/\Q (.bl (!decide (x=y))) H
theorem Hq {i j:Int}:decide (V.int i=V.int j)=(i == j):=by
  rw [Bool.eq_iff_iff];simp
theorem Jn {i j:Bool}:decide (V.bl i=V.bl j)=(i == j):=by
  rw [Bool.eq_iff_iff];simp
theorem HN {i j:Str}:decide (V.str i=V.str j)=(i == j):=by
  rw [Bool.eq_iff_iff];simp
theorem Ho {i j:Array UInt8}:decide (V.byt i=V.byt j)=(i.toList == j.toList):=by
  rw [Bool.eq_iff_iff];cases i;cases j;simp
section
variable {X:Cx} {a b c:Expr} {ta tb tc:TE} {pos:Pos}
theorem Aq {pins:List (Addr × Obj)} {σ:St} {H:Hp} {s:Shared} {Q:VK} {k k':Bool} (I:Inv X pins σ H s) (q:Q (.bl k) H) (e:k=k'):EP X pins σ Q (.bool k') s:=by
  subst e;exact ⟨.bl k,H,I,rfl,q⟩
theorem En:OpR X (compareOp .Eq) rEq:=by
  intro pins s σ H x y v u Q I rx ry h;obtain ⟨hs,q⟩:=h;cases x with
  | non=>
    cases rx;cases y with
    | non=>cases ry;exact PySem.EqNone.eq_none_none (Aq I q (by simp))
    | bl j=>cases ry;exact PySem.EqNone.eq_none_bool (Aq I q (by simp))
    | int j=>obtain ⟨t',rfl⟩:=ry;exact PySem.EqNone.eq_none_int (Aq I q (by simp))
    | str j=>obtain ⟨t',rfl⟩:=ry;exact PySem.EqNone.eq_none_str (Aq I q (by simp))
    | _=>exact absurd (show false=true from hs) Bool.false_ne_true
  | bl i=>
    cases rx;cases y with
    | non=>cases ry;exact PySem.EqNone.eq_bool_none (Aq I q (by simp))
    | bl j=>cases ry;exact eq_bool (Aq I q Jn)
    | str j=>obtain ⟨t',rfl⟩:=ry;exact PySem.EqMixed.eq_bool_str (Aq I q (by simp))
    | _=>exact absurd (show false=true from hs) Bool.false_ne_true
  | int i=>
    obtain ⟨t,rfl⟩:=rx;cases y with
    | non=>cases ry;exact PySem.EqNone.eq_int_none (Aq I q (by simp))
    | int j=>obtain ⟨t',rfl⟩:=ry;exact eq_int (Aq I q Hq)
    | str j=>obtain ⟨t',rfl⟩:=ry;exact PySem.EqMixed.eq_int_str (Aq I q (by simp))
    | _=>exact absurd (show false=true from hs) Bool.false_ne_true
  | str i=>
    obtain ⟨t,rfl⟩:=rx;cases y with
    | non=>cases ry;exact PySem.EqNone.eq_str_none (Aq I q (by simp))
    | bl j=>cases ry;exact PySem.EqMixed.eq_str_bool (Aq I q (by simp))
    | int j=>obtain ⟨t',rfl⟩:=ry;exact PySem.EqMixed.eq_str_int (Aq I q (by simp))
    | str j=>obtain ⟨t',rfl⟩:=ry;exact eq_str (Aq I q HN)
    | _=>exact absurd (show false=true from hs) Bool.false_ne_true
  | byt i=>
    obtain ⟨t,rfl⟩:=rx;cases y with
    | byt j=>obtain ⟨t',rfl⟩:=ry;exact PySem.W.eq_bytes (Aq I q Ho)
    | _=>exact absurd (show false=true from hs) Bool.false_ne_true
  | _=>cases y <;> exact absurd (show false=true from hs) Bool.false_ne_true
theorem Hw:OpR X (compareOp .NotEq) rNe:=by
  intro pins s σ H x y v u Q I rx ry h;obtain ⟨hs,q⟩:=h;cases x with
  | non=>
    cases rx;cases y with
    | non=>cases ry;exact PySem.EqNone.ne_none_none (Aq I q (by simp))
    | bl j=>cases ry;exact PySem.EqNone.ne_none_bool (Aq I q (by simp))
    | int j=>obtain ⟨t',rfl⟩:=ry;exact PySem.EqNone.ne_none_int (Aq I q (by simp))
    | str j=>obtain ⟨t',rfl⟩:=ry;exact PySem.EqNone.ne_none_str (Aq I q (by simp))
    | _=>exact absurd (show false=true from hs) Bool.false_ne_true
  | bl i=>
    cases rx;cases y with
    | non=>cases ry;exact PySem.EqNone.ne_bool_none (Aq I q (by simp))
    | bl j=>cases ry;exact ne_bool (Aq I q (congrArg not Jn))
    | str j=>obtain ⟨t',rfl⟩:=ry;exact PySem.EqMixed.ne_bool_str (Aq I q (by simp))
    | _=>exact absurd (show false=true from hs) Bool.false_ne_true
  | int i=>
    obtain ⟨t,rfl⟩:=rx;cases y with
    | non=>cases ry;exact PySem.EqNone.ne_int_none (Aq I q (by simp))
    | int j=>obtain ⟨t',rfl⟩:=ry;exact ne_int (Aq I q (congrArg not Hq))
    | str j=>obtain ⟨t',rfl⟩:=ry;exact PySem.EqMixed.ne_int_str (Aq I q (by simp))
    | _=>exact absurd (show false=true from hs) Bool.false_ne_true
  | str i=>
    obtain ⟨t,rfl⟩:=rx;cases y with
    | non=>cases ry;exact PySem.EqNone.ne_str_none (Aq I q (by simp))
    | bl j=>cases ry;exact PySem.EqMixed.ne_str_bool (Aq I q (by simp))
    | int j=>obtain ⟨t',rfl⟩:=ry;exact PySem.EqMixed.ne_str_int (Aq I q (by simp))
    | str j=>obtain ⟨t',rfl⟩:=ry;exact ne_str (Aq I q (congrArg not HN))
    | _=>exact absurd (show false=true from hs) Bool.false_ne_true
  | byt i=>
    obtain ⟨t,rfl⟩:=rx;cases y with
    | byt j=>obtain ⟨t',rfl⟩:=ry;exact PySem.W.ne_bytes (Aq I q (congrArg not Ho))
    | _=>exact absurd (show false=true from hs) Bool.false_ne_true
  | _=>cases y <;> exact absurd (show false=true from hs) Bool.false_ne_true
theorem Lr:OpR X (compareOp .LtE) (rI0 λ i j=> .bl (decide (i<=j))):=N9 λ _ _ _ _ _ _ _ q=>le_int q
theorem ID:OpR X (compareOp .In) (λ x y H Q=>∃ i j,x= .str i/\y= .str j/\Q (.bl (!(Builtin.Str.occurrences j i 0 j.length 1).isEmpty)) H):=by
  intro pins s σ H x y v u Q I rx ry h;obtain ⟨i,j,rfl,rfl,q⟩:=h;obtain ⟨t,rfl⟩:=rx;obtain ⟨t',rfl⟩:=ry;exact in_str (Aq I q rfl)
theorem Bh (b:Expr) {op:CmpOp} (h:op≠ .In:=by decide) (h2:op≠ .NotIn:=by decide):behindInMarks op b=false:=by
  have e1:(op == CmpOp.In)=false:=by cases op <;> first | rfl | exact absurd rfl h
  have e2:(op == CmpOp.NotIn)=false:=by cases op <;> first | rfl | exact absurd rfl h2
  cases b <;> simp [behindInMarks,e1,e2]
theorem B3 {op:CmpOp} {r:R2} (ho:OpR X (compareOp op) r) (ha:PE X a ta) (hb:PE X b tb) (hm:behindInMarks op b=false):PE X (.Compare a [op] [b] pos) (tOp r ta tb):=by
  intro pins s σ H Q I h;exact wpAny_Compare1 (Mu ha hb I h λ v u s2 x y H2 I2 rx ry q=>ho pins s2 σ H2 x y v u Q I2 rx ry q) hm
def Lg (t:TE):TT:=λ σ H Q=>t σ H λ x H'=>∃ k,x= .bl k/\Q k H'
theorem BY {op:CmpOp} {r:R2} (ho:OpR X (compareOp op) r) (ha:PE X a ta) (hb:PE X b tb) (hm:behindInMarks op b=false):PT X (.Compare a [op] [b] pos) (Lg (tOp r ta tb)):=by
  intro pins s σ H Q I h;refine wpAny_isTrue_Compare1 (thn (ha pins s σ H _ I h) λ v s1 ⟨x,H1,I1,r1,q1⟩=>thn (hb pins s1 σ H1 _ I1 q1) λ u s2 ⟨y,H2,I2,r2,q2⟩=>
    thn (ho pins s2 σ H2 x y v u _ I2 r1 r2 q2) λ c s3 ⟨z,H3,I3,r3,k,e,q3⟩=> ?_) hm
  subst e;cases r3;exact wpAny_truthy_bool ⟨H3,I3,q3⟩
def IY (r r':R2) (ta tb tc:TE):TE:=λ σ H Q=>ta σ H λ x H1=>tb σ H1 λ y H2=>r x y H2 λ z H3=>∃ k,z= .bl k/\
  (if k=true then tc σ H3 λ w' H4=>r' y w' H4 Q else Q (.bl false) H3)
theorem Jy {op op':CmpOp} {r r':R2} (ho:OpR X (compareOp op) r) (ho':OpR X (compareOp op') r') (ha:PE X a ta) (hb:PE X b tb) (hc:PE X c tc)
    (hm:lastMarks [op,op'] [b,c]=false:=by with_unfolding_all rfl):PE X (.Compare a [op,op'] [b,c] pos) (IY r r' ta tb tc):=by
  intro pins s σ H Q I h;refine Compare_chain (thn (ha pins s σ H _ I h) λ v s1 ⟨x,H1,I1,r1,q1⟩=>chain_link (thn (hb pins s1 σ H1 _ I1 q1) λ u s2 ⟨y,H2,I2,r2,q2⟩=>
    thn (ho pins s2 σ H2 x y v u _ I2 r1 r2 q2) λ d s3 ⟨z,H3,I3,r3,k,e,q3⟩=> ?_)) hm
  subst e;cases r3;refine wpAny_truthy_bool ?_;cases k with
  | false=>exact ite_ff ⟨.bl false,H3,I3,rfl,q3⟩
  | true=>exact ite_tt (chain_last (thn (hc pins s3 σ H3 _ I3 q3) λ w' s4 ⟨z',H4,I4,r4,q4⟩=>ho' pins s4 σ H4 y z' u w' Q I4 r2 r4 q4))
def Pa (K:PySem.W.Frag) (x:V) (H:Hp) (k:Bool):Prop:=
  match x with
  | .non=>k=false
  | .bl b=>k=b
  | .int i=>k=(i != 0)
  | .str y=>y.length<=sizeLine/\k=((y.length:Int) != 0)
  | .byt y=>y.size<=sizeLine/\k=((y.size:Int) != 0)
  | .ref p=>(∃ xs,SqL K H p xs/\k= !xs.isEmpty)\/(∃ xs,SqT K H p xs/\k= !xs.isEmpty)\/∃ kvs,H p=some (.dK kvs)/\k= !kvs.isEmpty
  | _=>False
theorem GR {κ:Type} {kvs:List (κ × V)} {vs:List (κ × Value)} (r:KV kvs vs):(!vs.isEmpty)= !kvs.isEmpty:=by
  cases r <;> rfl
theorem Eu {xs:List V} {its:List Value} (r:Vals xs its):(!its.toArray.isEmpty)= !xs.isEmpty:=by
  cases r <;> simp
theorem EM:(sizeLine:Nat)<2 ^ 63:=by rw [sizeLine_eq];decide
theorem OP:NQ X (λ x H Q=>∃ k,Pa X.K x H k/\Q k H):=by
  intro pins s σ H x v Q I rx h;obtain ⟨k,e,q⟩:=h;have hl:=EM;have hs:sizeLine=16777216:=sizeLine_eq;cases x with
  | non=>
    cases rx;have e':k=false:=e;subst e';exact truthy_none ⟨H,I,q⟩
  | bl b=>
    cases rx;have e':k=b:=e;subst e';exact wpAny_truthy_bool ⟨H,I,q⟩
  | int i=>
    obtain ⟨t,rfl⟩:=rx;have e':k=(i != 0):=e;subst e';exact PySem.P.truthy_int ⟨H,I,q⟩
  | str y=>
    obtain ⟨t,rfl⟩:=rx;obtain ⟨hy,e'⟩:y.length<=sizeLine/\k=((y.length:Int) != 0):=e;subst e';exact PySem.P.truthy_str (by omega) ⟨H,I.tok _,q⟩
  | byt y=>
    obtain ⟨t,rfl⟩:=rx;obtain ⟨hy,e'⟩:y.size<=sizeLine/\k=((y.size:Int) != 0):=e;subst e';exact PySem.W.truthy_bytes (by omega) ⟨H,I.tok _,q⟩
  | ref p=>
    cases rx;have e':(∃ xs,SqL X.K H p xs/\k= !xs.isEmpty)\/(∃ xs,SqT X.K H p xs/\k= !xs.isEmpty)\/∃ kvs,H p=some (.dK kvs)/\k= !kvs.isEmpty:=e;rcases e' with ⟨xs,hx,e'⟩ | ⟨xs,hx,e'⟩ | ⟨kvs,hx,e'⟩
    · subst e';obtain ⟨its,r,pl,hz⟩:=I.list hx;have hlen:=r.length;exact wpAny_truthy_list pl.isList (by simp only [List.size_toArray];omega) ⟨H,I.tok _,by rw [Eu r];exact q⟩
    · subst e';obtain ⟨its,r,pl,hz⟩:=I.tuple hx;have hlen:=r.length;exact truthy_tuple pl (by simp only [List.size_toArray];omega) ⟨H,I.tok _,by rw [Eu r];exact q⟩
    · subst e';obtain ⟨hz,hS,vs,r,m⟩:kvs.length<=sizeLine/\(p == sysModules)=false/\∃ vs,KV kvs vs/\s.heap.DictOf (Ga X.prog X.w) p vs:=I.hok p _ hx;have hlen:kvs.length=vs.length:=Paired.length r;exact wpAny_truthy_dict hS m (by omega) ⟨H,I.tok _,by rw [GR r];exact q⟩
  | _=>exact (show False from e).elim
theorem Ek:OpR X (binaryOp .Add) (λ x y H Q=>∃ i j,x= .str i/\y= .str j/\i.length+j.length<=sizeLine/\Q (.str (i++j)) H):=by
  intro pins s σ H x y v u Q I rx ry h;obtain ⟨i,j,rfl,rfl,hz,q⟩:=h;obtain ⟨t,rfl⟩:=rx;obtain ⟨t',rfl⟩:=ry;exact add_str (λ t' tk=>⟨.str (i++j),H,I.tok _,⟨_,rfl⟩,q⟩) hz
theorem EL {x:V} {us:List Value} (r:Vals [x] us):∃ u,us=[u]/\RelV x u:=by
  cases r with
  | cons r1 r2=>cases r2;exact ⟨_,rfl,r1⟩
theorem Lq {x y:V} {us:List Value} (r:Vals [x,y] us):∃ u w',us=[u,w']/\RelV x u/\RelV y w':=by
  cases r with
  | cons r1 r2=>
    cases r2 with
    | cons r3 r4=>cases r4;exact ⟨_,_,rfl,r1,r3⟩
theorem IG:Bg X (.type "int") (λ xs H Q=>(∃ i,xs=[.int i]/\Q (.int i) H)\/∃ k,xs=[.bl k]/\Q (.int (if k then 1 else 0)) H):=by
  intro pins s σ H xs us Q I r h;rcases h with ⟨i,rfl,q⟩ | ⟨k,rfl,q⟩
  · obtain ⟨u,rfl,t,rfl⟩:=EL r;exact call_int_int ⟨.int i,H,I,⟨_,rfl⟩,q⟩
  · obtain ⟨u,rfl,r1⟩:=EL r;cases r1;exact call_int_bool ⟨.int (if k then 1 else 0),H,I.tok _,⟨_,rfl⟩,q⟩
def MQ (K:PySem.W.Frag) (x:V) (H:Hp) (n:Nat):Prop:=
  match x with
  | .str y=>y.length<=sizeLine/\n=y.length
  | .byt y=>y.size<=sizeLine/\n=y.size
  | .ref p=>(∃ xs,SqL K H p xs/\n=xs.length)\/∃ xs,SqT K H p xs/\n=xs.length
  | _=>False
theorem IX:Bg X (.builtin "len") (λ xs H Q=>∃ x n,xs=[x]/\MQ X.K x H n/\Q (.int n) H):=by
  intro pins s σ H xs us Q I r h;obtain ⟨x,n,rfl,e,q⟩:=h;obtain ⟨u,rfl,rx⟩:=EL r;have hl:=EM;have hs:sizeLine=16777216:=sizeLine_eq;cases x with
  | str y=>
    obtain ⟨t,rfl⟩:=rx;obtain ⟨hy,e'⟩:y.length<=sizeLine/\n=y.length:=e;subst e';exact len_str (by omega) ⟨.int _,H,I.tok _,⟨_,rfl⟩,q⟩
  | byt y=>
    obtain ⟨t,rfl⟩:=rx;obtain ⟨hy,e'⟩:y.size<=sizeLine/\n=y.size:=e;subst e';exact PySem.W.len_bytes (by omega) ⟨.int _,H,I.tok _,⟨_,rfl⟩,q⟩
  | ref p=>
    cases rx;have e':(∃ xs,SqL X.K H p xs/\n=xs.length)\/∃ xs,SqT X.K H p xs/\n=xs.length:=e;rcases e' with ⟨xs,hx,e'⟩ | ⟨xs,hx,e'⟩
    · subst e';obtain ⟨its,r',pl,hz⟩:=I.list hx;have hlen:=r'.length;exact Calls.call_len_list pl.isList (by simp only [List.size_toArray];omega) ⟨.int xs.length,H,I.tok _,⟨_,by simp only [List.size_toArray];rw [hlen]⟩,q⟩
    · subst e';obtain ⟨its,r',pl,hz⟩:=I.tuple hx;have hlen:=r'.length;exact len_tuple pl (by simp only [List.size_toArray];omega) ⟨.int xs.length,H,I.tok _,⟨_,by simp only [List.size_toArray];rw [hlen]⟩,q⟩
  | _=>exact (show False from e).elim
end
structure ObjM (h:Heap) (x dx C:Addr) (mA:Str->Option Value):Prop where
  obj:h.get? x=some (PySem.W.instObj C dx)
  ns:h.Ns1 dx mA
  ne:dx≠x
theorem II {h:Heap} {dx:Addr} {mA:Str->Option Value} (n:h.Ns1 dx mA):∃ od,h.get? dx=some od/\∀ name,PySem.W.lookIn name od=some (mA name):=by
  obtain ⟨o,es,ep,ho,hd,hk,_,hm⟩:=n;refine ⟨o,ho,λ name=> ?_⟩;have e:=hm name;unfold nsFind findBy at e;rw [<-Array.find?_toList] at e;unfold PySem.W.lookIn;rw [hd];dsimp only;split
  · rename_i y q
    rw [q] at e;exact congrArg some e
  · rename_i q
    rw [q] at e;have a:es.toList.any (·.refKey)=false:=by
      rw [List.any_eq_false];intro y hy;obtain ⟨z,t,hkey⟩:=hk y (Array.mem_toList_iff.mp hy);simp [DictEntry.refKey,hkey]
    have a':¬ es.toList.any (·.refKey)=true:=by rw [a];exact Bool.false_ne_true
    rw [if_neg a'];exact congrArg some e
theorem ObjM.look {h:Heap} {x dx C:Addr} {mA:Str->Option Value} (I:ObjM h x dx C mA):∃ od,PySem.W.InstAt h x (PySem.W.instObj C dx) C (some od)/\∀ name,PySem.W.lookIn name od=some (mA name):=
  let ⟨od,ho,hl⟩:=II I.ns
  ⟨od,⟨I.obj,rfl,rfl,ho⟩,hl⟩
section
variable {prog:Program} {w:World} {A:Around} {E:Value->Shared->Prop} {s:Shared} {K:PySem.W.Frag} {x dx C f:Addr} {mA:Str->Option Value} {name:Str} {v:Value}
theorem Ks {expr:Bool} {Q:Value->Shared->Prop} (X:K.In s.heap) (I:ObjM s.heap x dx C mA) (hg:PySem.W.plainGet K C name=true) (hh:PySem.W.hasDictIn K C=true)
    (ha:PySem.W.findIn K (.ref C) name=some none) (hv:mA name=some v) (hv':PySem.W.handedIn v=true) (h:Q v { s with toks:=s.toks+1 }):
    wpAny (model prog w) A (getAttr (.ref x) name expr) Q E s:=by
  obtain ⟨od,J,hl⟩:=I.look;exact PySem.W.get_value X J (PySem.W.plainGet_of hg).1 (PySem.W.findObj_own hh ha rfl (by rw [hl,hv])) hv' h
theorem JR {pl:Sem Bool} {Q:Value × List Value->Shared->Prop} (X:K.In s.heap) (I:ObjM s.heap x dx C mA) (hg:PySem.W.plainGet K C name=true)
    (hf:PySem.W.findIn K (.ref C) name=some (some (.ref f))) (ht:PySem.W.isFn K (.ref f)=true) (hv:mA name=none) (h:Q (.ref f,[.ref x]) s):
    wpAny (model prog w) A (getMethod (.ref x) name pl) Q E s:=by
  obtain ⟨od,J,hl⟩:=I.look;exact PySem.W.method_fn X J (PySem.W.plainGet_of hg).1 (PySem.W.plainGet_of hg).2 hf (beq_iff_eq.mp ht) (by show (PySem.W.lookIn name od).map (·.isSome)=some false;rw [hl,hv];rfl) h
theorem Kv {ns:List Str} {Q:Unit->Shared->Prop} (X:K.In s.heap) (I:ObjM s.heap x dx C mA)
    (hs:PySem.W.findIn K (.ref C) "__setattr__"=some (some (.builtin "object.__setattr__"))) (hp:PySem.W.plainOver K C=true) (ht:PySem.W.takerIn K C name=some none) (hh:PySem.W.hasDictIn K C=true)
    (hw:PySem.Within mA ns) (hsz:ns.length<=sizeLine)
    (h:∀ h',ObjM h' x dx C (λ y=>if y=name then some v else mA y)->Heap.SameBut dx s.heap h'->Q () { s with heap:=h',toks:=s.toks+2 }):
    wpAny (model prog w) A (setAttr (.ref x) name v) Q E s:=by
  obtain ⟨od,J,hl⟩:=I.look;refine PySem.W.set_plain X J hs (PySem.W.osa_open (s:={ s with toks:=s.toks+1 }) (r:=none) X J hp ht λ b=> ?_);obtain ⟨cd,hc,hd'⟩:=PySem.W.any_some hh;have hx:s.heap.get? x=some ⟨.ref C,some dx, .plain, #[]⟩:=I.obj;refine wpAny_bind (wpAny_pure (wpAny_bind (wpAny_bind (wpAny_loadPart hx (wpAny_bind (PySem.W.Looks.here (s:={ s with toks:=s.toks+1 }) (PySem.W.looks_clsIn X hc) ?_))))));rw [hd'];refine wpAny_pure (a:=some dx) (wpAny_bind (wpAny_pure (wpAny_bind ?_)));refine wpAny_nsSet1 (s:={ s with toks:=s.toks+1 }) I.ns λ h' hn2 hs2=> ?_;obtain ⟨oD,esD,epD,hoD,hdD,hcD⟩:=hn2.count (PySem.Within.cons name v hw);refine wpAny_bind (wpAny_lookBehind hoD (by rw [hdD];exact pastItsLine_dict (Nat.le_trans hcD (by rw [List.length_cons];omega))) ?_);exact wpAny_pure (h _ ⟨(hs2.2 _ (Ne.symm I.ne)).trans I.obj,hn2,I.ne⟩ hs2)
theorem JA {R:Result->Shared->Prop} {vs:List Value} {kw:List (Str × Value)} (X:K.In s.heap) (hm:PySem.W.makesIn K C=true)
    (hi:PySem.W.findIn K (.ref C) "__init__"=some (some (.ref f))) (hf:PySem.W.typeIn K (.ref f)=some (.type "function"))
    (h:codeAny (model prog w) (A.under (.builtin "type.__call__" ⟨.ref C::vs,kw⟩)) (.call (.ref f) ⟨.ref (s.heap.objs.size+1)::vs,kw⟩) (PySem.W.InitBack (s.heap.objs.size+1) R)
      { s with heap:=(s.heap.push PySem.W.emptyDict).push (PySem.W.instObj C s.heap.objs.size) }):
    codeAny (model prog w) A (.call (.ref C) ⟨vs,kw⟩) R s:=by
  obtain ⟨hh,g,d,t,os⟩:=s;exact PySem.W.make_core (PySem.W.makes_of X hm) (PySem.W.looks_findIn X hi) (λ self=>PySem.W.bind_fn X self hf) (.inl rfl) h
end
def AB (f:Str) (v:V):List (Str × V)->List (Str × V)
  | []=>[(f,v)]
  | (g,x)::r=>if g=f then (g,v)::r else (g,x)::AB f v r
theorem DK (f g:Str) (v:V):∀ fs:List (Str × V),(AB f v fs).lookup g=if g=f then some v else fs.lookup g
  | []=>by
    show List.lookup g [(f,v)]=_;by_cases h:g=f
    · have hb:(g == f)=true:=beq_iff_eq.mpr h;simp only [List.lookup,hb,if_pos h]
    · have hb:(g == f)=false:=beq_eq_false_iff_ne.mpr h;simp only [List.lookup,hb,if_neg h]
  | (k,x)::r=>by
    have ih:=DK f g v r;rw [show AB f v ((k,x)::r)=(if k=f then (k,v)::r else (k,x)::AB f v r) from rfl];by_cases hk:k=f
    · rw [if_pos hk];by_cases h:g=k
      · have hb:(g == k)=true:=beq_iff_eq.mpr h;simp only [List.lookup,hb,if_pos (h.trans hk)]
      · have hb:(g == k)=false:=beq_eq_false_iff_ne.mpr h;simp only [List.lookup,hb,if_neg (λ e:g=f=>h (e.trans hk.symm))]
    · rw [if_neg hk];by_cases h:g=k
      · have hb:(g == k)=true:=beq_iff_eq.mpr h;simp only [List.lookup,hb,if_neg (λ e:g=f=>hk (h.symm.trans e))]
      · have hb:(g == k)=false:=beq_eq_false_iff_ne.mpr h;simp only [List.lookup,hb];exact ih
theorem DJ (f:Str) (v:V):∀ fs:List (Str × V),f∈(AB f v fs).map (·.1)/\∀ g,g∈fs.map (·.1)->g∈(AB f v fs).map (·.1)
  | []=>⟨by simp [AB],λ g h=>by simp at h⟩
  | (k,x)::r=>by
    obtain ⟨i1,i2⟩:=DJ f v r;rw [show AB f v ((k,x)::r)=(if k=f then (k,v)::r else (k,x)::AB f v r) from rfl];by_cases hk:k=f
    · rw [if_pos hk];subst hk;exact ⟨by simp,λ g h=>by simpa using h⟩
    · rw [if_neg hk];refine ⟨?_,λ g h=> ?_⟩
      · rw [List.map_cons];exact List.mem_cons_of_mem _ i1
      · rw [List.map_cons] at h ⊢;rcases List.mem_cons.mp h with e | e
        · exact List.mem_cons.mpr (.inl e)
        · exact List.mem_cons_of_mem _ (i2 g e)
theorem DL (f:Str) (v:V):∀ fs:List (Str × V),(AB f v fs).length<=fs.length+1
  | []=>by simp [AB]
  | (k,x)::r=>by
    have ih:=DL f v r;rw [show AB f v ((k,x)::r)=(if k=f then (k,v)::r else (k,x)::AB f v r) from rfl];by_cases hk:k=f
    · rw [if_pos hk,List.length_cons,List.length_cons];omega
    · rw [if_neg hk,List.length_cons,List.length_cons];omega
theorem RelO.some_of {v:V} {o:Option Value} (r:RelO (some v) o):∃ u,o=some u/\RelV v u:=by
  cases o with
  | none=>exact (show False from r).elim
  | some u=>exact ⟨u,rfl,r⟩
theorem RelO.none_of {o:Option Value} (r:RelO none o):o=none:=by
  cases o with
  | none=>rfl
  | some u=>exact (show False from r).elim
theorem Ii {v:V} {u:Value} (r:RelV v u):PySem.W.handedIn u=true:=by
  cases v with
  | non=>cases (show u=Value.none from r);rfl
  | bl b=>cases (show u=Value.bool b from r);rfl
  | int i=>obtain ⟨t,e⟩:=(show ∃ t,u=Value.int i t from r);cases e;rfl
  | str x=>obtain ⟨t,e⟩:=(show ∃ t,u=Value.str x t from r);cases e;rfl
  | byt b=>obtain ⟨t,e⟩:=(show ∃ t,u=Value.bytes b t from r);cases e;rfl
  | flt b=>obtain ⟨t,e⟩:=(show ∃ t,u=Value.float b t from r);cases e;rfl
  | ref a=>cases (show u=Value.ref a from r);rfl
  | ty n=>cases (show u=Value.type n from r);rfl
section
variable {P:Program} {w:World} {H H':Hp} {h h':Heap} {a C dx:Addr} {fs fs':List (Str × V)}
theorem C6 (hok:HOk P w H h) (e:H a=some (.ins C dx fs)):∃ mA,ObjM h a dx C mA/\(∀ f,RelO (fs.lookup f) (mA f))/\PySem.Within mA (fs.map (·.1))/\fs.length<=1000/\H dx=some (.own a):=by
  obtain ⟨d,z,ne,ob,mA,n,r,q⟩:=(show ObjOk P w H h a (.ins C dx fs) from hok a _ e);exact ⟨mA,⟨ob,n,ne⟩,r,q,z,d⟩
end
structure Cls (K:PySem.W.Frag) (C:Addr):Prop where
  pg:PySem.W.plainGet K C Str.empty=true
  hd:PySem.W.hasDictIn K C=true
  po:PySem.W.plainOver K C=true
  sa:PySem.W.findIn K (.ref C) "__setattr__"=some (some (.builtin "object.__setattr__"))
theorem Cls.get {K:PySem.W.Frag} {C:Addr} (c:Cls K C) (f:Str):PySem.W.plainGet K C f=true:=c.pg
def NoAttr (K:PySem.W.Frag) (C:Addr) (f:Str):Prop:=PySem.W.findIn K (.ref C) f=some none
theorem NoAttr.taker {K:PySem.W.Frag} {C:Addr} {f:Str} (n:NoAttr K C f):PySem.W.takerIn K C f=some none:=by
  unfold PySem.W.takerIn;rw [show PySem.W.findIn K (.ref C) f=some none from n];rfl
structure Con (K:PySem.W.Frag) (C:Addr) (f:Str) (v:V) (u:Value):Prop where
  at_:PySem.W.findIn K (.ref C) f=some (some u)
  rel:RelV v u
  get:PySem.W.specialIn K u "__get__"=some none
  cp:PySem.W.copiedNames.contains f=false
structure Meth (K:PySem.W.Frag) (C:Addr) (m:Str) (f:Addr):Prop where
  at_:PySem.W.findIn K (.ref C) m=some (some (.ref f))
  fn:PySem.W.isFn K (.ref f)=true
  kp:PySem.W.keepIn K (.ref f)=true
section
variable {X:Cx} {pins:List (Addr × Obj)} {σ:St} {H:Hp} {s:Shared} {a C dx:Addr} {fs:List (Str × V)} {f:Str} {v:V} {A:Around} {E:Value->Shared->Prop}
theorem Hi {b:Bool} {Q:Value->Shared->Prop} (I:Inv X pins σ H s) (e:H a=some (.ins C dx fs)) (c:Cls X.K C) (n:NoAttr X.K C f) (l:fs.lookup f=some v)
    (h:∀ u s',Inv X pins σ H s'->RelV v u->Q u s'):wpAny (model X.prog X.w) A (getAttr (.ref a) f b) Q E s:=by
  obtain ⟨mA,O,r,_,_,_⟩:=C6 I.hok e;obtain ⟨u,hu,ru⟩:=RelO.some_of (v:=v) (o:=mA f) (by rw [<-l];exact r f);exact Ks I.kIn O (c.get f) c.hd n hu (Ii ru) (h u _ (I.tok _) ru)
theorem CW {m:Str} {g:Addr} {pl:Sem Bool} {Q:Value × List Value->Shared->Prop} (I:Inv X pins σ H s) (e:H a=some (.ins C dx fs)) (c:Cls X.K C) (k:Meth X.K C m g) (l:fs.lookup m=none)
    (h:Q (.ref g,[.ref a]) s):wpAny (model X.prog X.w) A (getMethod (.ref a) m pl) Q E s:=by
  obtain ⟨mA,O,r,_,_,_⟩:=C6 I.hok e;have hn:mA m=none:=RelO.none_of (by rw [<-l];exact r m);exact JR I.kIn O (c.get m) k.at_ k.fn hn h
theorem G6 {y:V} {u:Value} {Q:Unit->Shared->Prop} (I:Inv X pins σ H s) (e:H a=some (.ins C dx fs)) (c:Cls X.K C) (n:NoAttr X.K C f) (hl:fs.length<1000) (ry:RelV y u)
    (h:∀ s',Inv X pins σ (upd H a (.ins C dx (AB f y fs))) s'->Q () s'):wpAny (model X.prog X.w) A (setAttr (.ref a) f u) Q E s:=by
  obtain ⟨mA,O,r,wi,_,ho⟩:=C6 I.hok e;have hz:(fs.map (·.1)).length<=sizeLine:=by rw [List.length_map,sizeLine_eq];omega
  refine Kv I.kIn O c.sa c.po n.taker c.hd wi hz λ h' O' sb=>h _ ?_;have hd:∃ o,h'.get? dx=some o:=let ⟨o,_,_,e',_⟩:=O'.ns;⟨o,e'⟩;refine I.write (x:=a) (e:=dx) (by rw [e];exact True.intro) (.inr ho) (λ b q hb z=>(sb.2 b hb).trans z) hd ?_;refine ⟨by rw [Ao O.ne];exact ho,?_,O.ne,O'.obj,_,O'.ns,λ g=> ?_,λ g hg=> ?_⟩
  · have:=DL f y fs;omega
  · show RelO ((AB f y fs).lookup g) (if g=f then some u else mA g);rw [DK];by_cases q:g=f
    · rw [if_pos q,if_pos q];exact ry
    · rw [if_neg q,if_neg q];exact r g
  · by_cases q:g=f
    · rw [q];exact (DJ f y fs).1
    · refine (DJ f y fs).2 g (wi g λ z=>hg ?_);show (if g=f then some u else mA g)=none;rw [if_neg q];exact z
theorem Inv.made (I:Inv X pins σ H s):Inv X pins σ (upd (upd H s.heap.objs.size (.own (s.heap.objs.size+1))) (s.heap.objs.size+1) (.ins C s.heap.objs.size []))
    { s with heap:=(s.heap.push PySem.W.emptyDict).push (PySem.W.instObj C s.heap.objs.size) }:=by
  have e1:(s.heap.push PySem.W.emptyDict).get? s.heap.objs.size=some PySem.W.emptyDict:=Heap.get?_push_size s.heap rfl;have e2:((s.heap.push PySem.W.emptyDict).push (PySem.W.instObj C s.heap.objs.size)).get? (s.heap.objs.size+1)=some (PySem.W.instObj C s.heap.objs.size):=by
    have:=Heap.get?_push_size (s.heap.push PySem.W.emptyDict) (o:=PySem.W.instObj C s.heap.objs.size) rfl
    rwa [Heap.size_push] at this
  have e3:(s.heap.push PySem.W.emptyDict).Ns s.heap.objs.size (λ _=>none):=⟨PySem.W.emptyDict, #[],_,e1,rfl,(λ e he=>absurd he (by simp)),λ _=>rfl⟩;have I1:=I.laid (a:=s.heap.objs.size) (o:= .own (s.heap.objs.size+1)) (h':=s.heap.push PySem.W.emptyDict) (t':=s.toks) (λ b u q=>Heap.get?_push_of_some _ q) (Nat.le_refl _) ⟨_,e1⟩;refine I1.laid (a:=s.heap.objs.size+1) (o:= .ins C s.heap.objs.size []) (t':=s.toks) (λ b u q=>Heap.get?_push_of_some _ q) (Nat.le_of_eq (Heap.size_push _ _)) ?_;have ne:s.heap.objs.size≠s.heap.objs.size+1:=Nat.ne_of_lt (Nat.lt_succ_self _);refine ⟨by rw [Ao ne,Ag],Nat.zero_le _,ne,e2,λ _=>none,(Heap.Ns1.of_empty e3).at λ o q=>Heap.get?_push_of_some _ q,λ _=>True.intro,λ y hy=>absurd rfl hy⟩
theorem KS {prog:Program} {w:World} {env:Env} {e:Expr} {f:Str} {pos:Pos} {s:Shared} {Q:Value->Shared->Prop} (hb:attributeBase e f env (eval e env)=eval e env)
    (h:wpAny (model prog w) A (eval e env) (λ o s₁=>wpAny (model prog w) A (getAttr o f true) Q E s₁) E s):wpAny (model prog w) A (eval (.Attribute e f pos) env) Q E s:=
  Attribute_any_ h (by rw [arm_eval_Attribute,hb])
end
def MH (K:PySem.W.Frag) (ta:TE) (f:Str):TE:=λ σ H Q=>ta σ H λ x H1=>∃ a C dx fs v,x= .ref a/\H1 a=some (.ins C dx fs)/\Cls K C/\NoAttr K C f/\fs.lookup f=some v/\Q v H1
def Nr (K:PySem.W.Frag) (ta tv:TE) (f:Str):TS:=λ D σ H=>tv σ H λ y H1=>ta σ H1 λ x H2=>∃ a C dx fs,x= .ref a/\H2 a=some (.ins C dx fs)/\Cls K C/\NoAttr K C f/\fs.length<1000/\
  D.nx σ (upd H2 a (.ins C dx (AB f y fs)))
section
variable {X:Cx} {o e value:Expr} {f:Str} {pos pos' tpos:Pos} {ta tv:TE}
theorem MK (he:PE X e ta) (hb:attributeBase e f X.env (eval e X.env)=eval e X.env):PE X (.Attribute e f pos) (MH X.K ta f):=by
  intro pins s σ H Q I h;refine KS hb (thn (he pins s σ H _ I h) λ u s1 ⟨x,H1,I1,rx,a,C,dx,fs,v,ex,ea,c,n,l,q⟩=> ?_);subst ex;obtain rfl:u=Value.ref a:=rx;exact Hi I1 ea c n l λ u' s2 I2 ru=>⟨v,H1,I2,ru,q⟩
theorem BS (ha:PE X o ta) (hv:PE X value tv) (hs:swapsWith value (some (.Attribute o f pos')) pos.line X.env=pure false):PS X (.Assign [.Attribute o f pos'] value pos) (Nr X.K ta tv f):=by
  intro pins s σ H D I h;refine plainObj_wpAny_Assign_Attribute (thn (hv pins s σ H _ I h) λ u s1 ⟨y,H1,I1,ry,q⟩=>thn (ha pins s1 σ H1 _ I1 q) λ ov s2 ⟨x,H2,I2,rx,a,C,dx,fs,ex,ea,c,n,l,q2⟩=> ?_) hs;subst ex;obtain rfl:ov=Value.ref a:=rx;exact G6 I2 ea c n l ry λ s3 I3=>⟨σ,_,I3,q2⟩
theorem Lw {pl:Sem Bool} {m:Str} {apos:Pos} {args:List Expr} {pins:List (Addr × Obj)} {s:Shared} {σ:St} {H:Hp} {Q:Value->Shared->Prop} {te:TE} (he:PE X e te) (I:Inv X pins σ H s)
    (h:te σ H λ x H1=>∃ a C dx fs g,x= .ref a/\H1 a=some (.ins C dx fs)/\Cls X.K C/\Meth X.K C m g/\fs.lookup m=none/\
      ∀ s1,Inv X pins σ H1 s1->wpAny (model X.prog X.w) X.A (callWith pos (.ref g) [.ref a] (backTo pos (starEach args X.env)) (backToKw pos (keywordEach [] X.env))) Q X.xe s1)
    (ht:eval (.Call (.Attribute e m apos) args [] pos) X.env=(do
      let ov <-eval e X.env
      standAt apos.atName
      let (f,first) <-holding [ov] (getMethod ov m pl)
      callWith pos f first (backTo pos (starEach args X.env)) (backToKw pos (keywordEach [] X.env)))):
    wpAny (model X.prog X.w) X.A (eval (.Call (.Attribute e m apos) args [] pos) X.env) Q X.xe s:=by
  refine PySem.W.methodCall_KW (pl:=pl) (thn (he pins s σ H _ I h) λ u s1 ⟨x,H1,I1,rx,a,C,dx,fs,g,ex,ea,c,k,l,q⟩=> ?_) ht;subst ex;obtain rfl:u=Value.ref a:=rx;exact CW I1 ea c k l (q s1 I1)
end
section
variable {X:Cx} {pins:List (Addr × Obj)} {σ:St} {H:Hp} {s:Shared} {A:Around} {E:Value->Shared->Prop} {Q:Value->Shared->Prop} {c:Value} {b:Bool}
inductive TyOf (K:PySem.W.Frag) (H:Hp):V->Value->Prop where
  | non:TyOf K H .non (.type "NoneType")
  | bl (x:Bool):TyOf K H (.bl x) (.type "bool")
  | int (i:Int):TyOf K H (.int i) (.type "int")
  | str (x:Str):TyOf K H (.str x) (.type "str")
  | flt (x:UInt64):TyOf K H (.flt x) (.type "float")
  | lst {a:Addr} {xs:List V} (e:H a=some (.lst xs)):TyOf K H (.ref a) (.type "list")
  | frz {a:Addr} {o:Obj} {xs:List V} (e:H a=some (.frz o (.lst xs))):TyOf K H (.ref a) (.type "list")
  | tup {a:Addr} {xs:List V} (e:H a=some (.tup xs)):TyOf K H (.ref a) (.type "tuple")
  | dK {a:Addr} {kvs:List (Key × V)} (e:H a=some (.dK kvs)):TyOf K H (.ref a) (.type "dict")
  | dT {a:Addr} {kvs:List (List Key × V)} (e:H a=some (.dT kvs)):TyOf K H (.ref a) (.type "dict")
  | ins {a C dx:Addr} {fs:List (Str × V)} (e:H a=some (.ins C dx fs)) (cl:Cls K C) (ha:PySem.W.findIn K (.ref C) "__class__"=some (some (.builtin "object.__class__")))
      (hn:PySem.W.specialIn K (.builtin "object.__class__") "__get__"=some (some (.builtin "getset_descriptor.__get__"))) (htk:PySem.W.takesIn K (.builtin "object.__class__")=some true)
      (hm:PySem.W.mroIn K C (.type "object")=some true):TyOf K H (.ref a) (.ref C)
theorem IA {x:V} {u t:Value} (I:Inv X pins σ H s) (rx:RelV x u) (ty:TyOf X.K H x t) (e:PySem.W.kitOne X.K t c=some b) (h:∀ tk,Q (.bool b) { s with toks:=tk }):
    wpAny (model X.prog X.w) A (call (.builtin "isinstance") [u,c]) Q E s:=by
  cases ty with
  | non=>cases (show u=Value.none from rx);exact PySem.W.kia_one PySem.W.kitx_none I.kIn True.intro e (λ z=>nomatch z) h
  | bl y=>cases (show u=Value.bool y from rx);exact PySem.W.kia_one PySem.W.kitx_bool I.kIn True.intro e (λ z=>nomatch z) h
  | int i=>obtain ⟨t,q⟩:=(show ∃ t,u=Value.int i t from rx);cases q;exact PySem.W.kia_one PySem.W.kitx_int I.kIn True.intro e (λ z=>nomatch z) h
  | str y=>obtain ⟨t,q⟩:=(show ∃ t,u=Value.str y t from rx);cases q;exact PySem.W.kia_one PySem.W.kitx_str I.kIn True.intro e (λ z=>nomatch z) h
  | flt y=>obtain ⟨t,q⟩:=(show ∃ t,u=Value.float y t from rx);cases q;exact PySem.W.kia_one PySem.W.kitx_float I.kIn True.intro e (λ z=>nomatch z) h
  | @lst a xs ea=>
    cases (show u=Value.ref a from rx);obtain ⟨_,_,n,_,h1⟩:=(show ObjOk X.prog X.w H s.heap a (.lst xs) from I.hok a _ ea);exact PySem.W.kia_one PySem.W.kitx_list I.kIn ⟨_,h1,rfl⟩ e (λ z=>nomatch z) h
  | @frz a ob xs ea=>
    cases (show u=Value.ref a from rx);obtain ⟨_,_,_,n,_,h1⟩:=(show ObjOk X.prog X.w H s.heap a (.frz ob (.lst xs)) from I.hok a _ ea);exact PySem.W.kia_one PySem.W.kitx_list I.kIn ⟨_,h1,rfl⟩ e (λ z=>nomatch z) h
  | @tup a xs ea=>
    cases (show u=Value.ref a from rx);obtain ⟨_,_,_,p⟩:=(show ObjOk X.prog X.w H s.heap a (.tup xs) from I.hok a _ ea);obtain ⟨o,h1,h2,_⟩:=p;exact PySem.W.kia_one PySem.W.kitx_tuple I.kIn ⟨o,h1,h2⟩ e (λ z=>nomatch z) h
  | @dK a kvs ea=>
    cases (show u=Value.ref a from rx);obtain ⟨_,_,vs,_,p⟩:=(show ObjOk X.prog X.w H s.heap a (.dK kvs) from I.hok a _ ea);obtain ⟨o,es,ep,h1,h2,_⟩:=p;exact PySem.W.kia_one PySem.W.kitx_dict I.kIn ⟨o,h1,h2.1⟩ e (λ z=>nomatch z) h
  | @dT a kvs ea=>
    cases (show u=Value.ref a from rx);obtain ⟨_,_,xs,_,o,es,ep,h1,h2,_⟩:=(show ObjOk X.prog X.w H s.heap a (.dT kvs) from I.hok a _ ea);exact PySem.W.kia_one PySem.W.kitx_dict I.kIn ⟨o,h1,h2.1⟩ e (λ z=>nomatch z) h
  | @ins a C dx fs ea cl ha hn htk hm=>
    cases (show u=Value.ref a from rx);obtain ⟨mA,O,_⟩:=C6 I.hok ea;obtain ⟨od,J,_⟩:=O.look;exact PySem.W.kia_one (PySem.W.kitx_own (cl.get _) cl.hd ha hn htk hm) I.kIn J e (λ z=>nomatch z) h
end
structure Room (k:Nat) (A:Around):Prop where
  hd:A.handled=none
  dp:A.depth+3*k+5<recursionLimit
  un:A.units+16*k+200<cLine
theorem Room.mono {j k:Nat} {A:Around} (r:Room k A) (h:j<=k):Room j A:=⟨r.hd,by have:=r.dp;omega,by have:=r.un;omega⟩
theorem Room.deeper {k:Nat} {A:Around} (r:Room (k+1) A) (env:Env):Room k (A.deeper env):=
  ⟨r.hd,by have:=r.dp;show A.depth+1+3*k+5<_;omega,by have:=r.un;show A.units+3+16*k+200<_;omega⟩
theorem Ha {A:Around} {C:Addr} {us:List Value} {kw:List (Str × Value)}:(A.under (.builtin "type.__call__" ⟨.ref C::us,kw⟩)).depth=A.depth+1:=by
  first | rfl | simp [Around.under,Code.weight,Code.isCreation,Code.isGuard,Code.isCaller,Code.frames,Code.isFrame,guardIds]
theorem G8 {A:Around} {C:Addr} {us:List Value} {kw:List (Str × Value)}:(A.under (.builtin "type.__call__" ⟨.ref C::us,kw⟩)).units=A.units+1:=by
  first | rfl | simp [Around.under,Code.cUnits,Code.frames,Code.isFrame]
theorem Room.make {k:Nat} {A:Around} (r:Room (k+1) A) (C:Addr) (us:List Value) (kw:List (Str × Value)):Room k (A.under (.builtin "type.__call__" ⟨.ref C::us,kw⟩)):=
  ⟨r.hd,by have:=r.dp;rw [Ha];omega,by have:=r.un;rw [G8];omega⟩
theorem Room.depth {k:Nat} {A:Around} (r:Room k A):A.depth<recursionLimit:=by have:=r.dp;omega
theorem Room.units0 {k:Nat} {A:Around} (r:Room k A):A.units<cLine:=by have:=r.un;omega
def K6:TA:=λ _ H Q=>Q [] H
def Lx (ta:TE) (tr:TA):TA:=λ σ H Q=>ta σ H λ x H1=>tr σ H1 λ xs H2=>Q (x::xs) H2
section
variable {X:Cx} {e:Expr} {es:List Expr} {te:TE} {t:TA} {pos:Pos}
theorem Ab:PA X [] K6:=λ _ _ _ _ H Q I h=>Calls.spliced_nil ⟨[],H,I, .nil,h⟩
theorem Aa (ha:PE X e te) (hr:PA X es t) (hs:starEach (e::es) X.env=(false,eval e X.env)::starEach es X.env:=by rfl):PA X (e::es) (Lx te t):=by
  intro pos pins s σ H Q I h;rw [hs];show wpAny _ _ (spliced ((false,eval e X.env)::backTo pos (starEach es X.env))) _ _ s;refine Calls.spliced_cons (thn (ha pins s σ H _ I h) λ u s1 ⟨x,H1,I1,r1,q1⟩=> ?_);exact thn (hr pos pins s1 σ H1 _ I1 q1) λ us s2 ⟨xs,H2,I2,r2,q2⟩=>⟨x::xs,H2,I2, .cons r1 r2,q2⟩
def Nq (t:TA):TE:=λ σ H Q=>t σ H λ xs H1=>xs.length<=sizeLine/\∀ p,H1 p=none->Q (.ref p) (upd H1 p (.tup xs))
def NA (t:TA):TE:=λ σ H Q=>t σ H λ xs H1=>xs.length<=sizeLine/\∀ p,H1 p=none->Q (.ref p) (upd H1 p (.lst xs))
theorem G4 {x1} (h:PA X es t):PE X (.Tuple es x1 pos) (Nq t):=by
  intro pins s σ H Q I hq;refine wpAny_Tuple_spliced (thn (h pos pins s σ H _ I hq) λ us s1 ⟨xs,H1,I1,r,z,q⟩=>⟨by rw [<-r.length];exact z,?_⟩);have hf:H1 s1.heap.objs.size=none:=I1.hok.fresh (Nat.le_refl _);refine ⟨.ref s1.heap.objs.size,upd H1 s1.heap.objs.size (.tup xs),I1.laid (t':=s1.toks) (λ b u e=>Heap.get?_push_of_some _ e) (Nat.le_refl _) ?_,rfl,q _ hf⟩;exact ⟨z,us,r,⟨_,Heap.get?_push_size _ rfl,rfl,_,rfl⟩⟩
theorem EJ (h:PA X es t):PE X (.List es pos) (NA t):=by
  intro pins s σ H Q I hq;refine wpAny_List_spliced (thn (h pos pins s σ H _ I hq) λ us s1 ⟨xs,H1,I1,r,z,q⟩=>⟨by rw [<-r.length];exact z,?_⟩);have hf:H1 s1.heap.objs.size=none:=I1.hok.fresh (Nat.le_refl _);refine ⟨.ref s1.heap.objs.size,upd H1 s1.heap.objs.size (.lst xs),I1.laid (t':=s1.toks) (λ b u e=>Heap.get?_push_of_some _ e) (Nat.le_refl _) ?_,rfl,q _ hf⟩;exact ⟨z,us,0,r,Heap.get?_push_size _ rfl⟩
end
abbrev Sp:=List V->Hp->VK->XK->Prop
abbrev CXT:=List Env->Hp->Shared->XK->Value->Shared->Prop
structure Env0 (P:Program) (w:World) (K:PySem.W.Frag) (mg:Str->Option Value) (base:Heap) (A:Around) (outer:List Env) (s:Shared) (H:Hp):Prop where
  frames:A.frames=some outer
  mod:Mod K mg base
  bs:∀ b o,base.get? b=some o->s.heap.get? b=some o/\H b=none
  bsz:base.objs.size<=s.heap.objs.size
  funs:s.heap.FunFrames base outer
  frf:∀ b∈frs outer,H b=none
  hok:HOk P w H s.heap
  bare:AllBare s.gens
def CE (outer:List Env) (P:Program) (w:World) (H:Hp) (s:Shared) (Q:VK) (u:Value) (s':Shared):Prop:=
  ∃ v H',s'.os=s.os/\AllBare s'.gens/\Un (frs outer) [] H H' s.heap s'.heap/\HOk P w H' s'.heap/\RelV v u/\Q v H'
def CR (CX:CXT) (outer:List Env) (P:Program) (w:World) (H:Hp) (s:Shared) (Q:VK) (E:XK) (r:Result) (s':Shared):Prop:=
  match r with
  | .ok (.ret u)=>CE outer P w H s Q u s'
  | .ok _=>False
  | .error e=>CX outer H s E e s'
structure FnOk (P:Program) (w:World) (K:PySem.W.Frag) (mg:Str->Option Value) (base:Heap) (CX:CXT) (k:Nat) (f:Addr) (fd:FuncData) (ps:List Str) (sp:Sp):Prop where
  len:∀ vs H Q E,sp vs H Q E->vs.length=ps.length
  run:∀ (A:Around) (outer:List Env) (s:Shared) (H:Hp) (args:Args) (us:List Value) (vs:List V) (Q:VK) (E:XK),Room k A->Env0 P w K mg base A outer s H->BindsTo s fd args (ps.zip us)->Vals vs us->sp vs H Q E->
    codeAny (model P w) A (.call (.ref f) args) (CR CX outer P w H s Q E) s
theorem Env0.make {P:Program} {w:World} {K:PySem.W.Frag} {mg:Str->Option Value} {base:Heap} {A:Around} {outer:List Env} {s:Shared} {H:Hp} (e:Env0 P w K mg base A outer s H) (C:Addr) (us:List Value) (kw:List (Str × Value)):
    Env0 P w K mg base (A.under (.builtin "type.__call__" ⟨.ref C::us,kw⟩)) outer s H:=⟨by first | exact e.frames | (simpa [Around.under,Code.envs,Code.isFrame,pushEnvs] using e.frames),e.mod,e.bs,e.bsz,e.funs,e.frf,e.hok,e.bare⟩
section
variable {X:Cx} {pins:List (Addr × Obj)} {σ:St} {H:Hp} {s s':Shared}
theorem Inv.env0 (I:Inv X pins σ H s):Env0 X.prog X.w X.K X.mg X.base X.A X.stack s H:=
  ⟨I.ok.frames,I.ok.mod,I.bs,Nat.le_trans I.ok.bsz I.sz,I.stack,I.stkFree,I.hok,I.bare⟩
theorem Inv.after {Q:VK} {u:Value} (I:Inv X pins σ H s) (h:CE X.stack X.prog X.w H s Q u s'):EP X pins σ Q u s':=by
  obtain ⟨v,H',os,bare,un,hok,r,q⟩:=h;obtain ⟨hh,g,d,t,os'⟩:=s';obtain rfl:os'=s.os:=os;exact ⟨v,H',I.call (h':=hh) (g':=g) (d':=d) (t':=t) (ch:=[]) un hok bare (λ b z=>absurd z (by simp)),r,q⟩
end
def HM (sp:Sp) (dvs:List V) (E:XK) (t:TA):TE:=λ σ H Q=>t σ H λ vs H1=>sp (vs++dvs) H1 Q E
def FB (C:Addr) (m:Str) (sp:Sp) (dvs:List V) (E:XK) (ta:TE) (t:TA):TE:=λ σ H Q=>ta σ H λ x H1=>∃ a dx fs,x= .ref a/\H1 a=some (.ins C dx fs)/\fs.lookup m=none/\
  t σ H1 λ vs H2=>sp (x::(vs++dvs)) H2 Q E
def HP (C:Addr) (sp:Sp) (dvs:List V) (E:XK) (t:TA):TE:=λ σ H Q=>t σ H λ vs H1=>∀ x dx,H1 x=none->H1 dx=none->dx≠x->
  sp (.ref x::(vs++dvs)) (upd (upd H1 dx (.own x)) x (.ins C dx [])) (λ v H2=>v= .non/\Q (.ref x) H2) E
def Binds (K:PySem.W.Frag) (fd:FuncData) (ps:List Str) (ds:List Value):Prop:=
  ∀ (s:Shared) (us:List Value),K.In s.heap->(us++ds).length=ps.length->BindsTo s fd ⟨us,[]⟩ (ps.zip (us++ds))
theorem Binds.all {K:PySem.W.Frag} {fd:FuncData} {ps:List Str} (h:∀ us:List Value,us.length=ps.length->bindArgs fd ⟨us,[]⟩=pure (ps.zip us)):Binds K fd ps []:=λ s us _ hl=>by
  rw [List.append_nil] at hl ⊢;exact .of_eq (h us hl)
def CZ (CX:CXT) (X:Cx) (E:XK):Prop:=∀ (pins:List (Addr × Obj)) (σ:St) (H:Hp) (s:Shared) (e:Value) (s':Shared),Inv X pins σ H s->CX X.stack H s E e s'->X.xe e s'
section
variable {X:Cx} {CX:CXT} {k:Nat} {f C:Addr} {fd:FuncData} {ps:List Str} {sp:Sp} {dvs:List V} {ds:List Value} {E:XK} {x m:Str} {p pos apos:Pos} {e o:Expr} {es:List Expr} {ta:TE} {t:TA}
theorem GV {pins:List (Addr × Obj)} {σ:St} {H:Hp} {s:Shared} {Q:VK} {us:List Value} {vs:List V} (F:FnOk X.prog X.w X.K X.mg X.base CX k f fd ps sp) (hr:Room k X.A) (hb:Binds X.K fd ps ds) (hd:Vals dvs ds) (hx:CZ CX X E)
    (I:Inv X pins σ H s) (r:Vals vs us) (h:sp (vs++dvs) H Q E):wpAny (model X.prog X.w) X.A (call (.ref f) us) (EP X pins σ Q) X.xe s:=by
  have r2:Vals (vs++dvs) (us++ds):=r.append hd;have hl:(us++ds).length=ps.length:=by rw [<-r2.length];exact F.len _ _ _ _ h
  refine wpAny_call (codeAny_mono (F.run X.A X.stack s H ⟨us,[]⟩ (us++ds) (vs++dvs) Q E hr I.env0 (hb s us I.kIn hl) r2 h) λ r s' hq=> ?_);cases r with
  | error e=>exact hx pins σ H s e s' I hq
  | ok fl=>
    cases fl with
    | ret u=>exact I.after hq
    | next=>exact False.elim hq
    | brk=>exact False.elim hq
    | cont=>exact False.elim hq
theorem KA (F:FnOk X.prog X.w X.K X.mg X.base CX k f fd ps sp) (hr:Room k X.A) (hg:Gl X x) (hm:X.mg x=some (.ref f)) (hk:PySem.W.keepIn X.K (.ref f)=true) (hb:Binds X.K fd ps ds) (hd:Vals dvs ds) (hx:CZ CX X E)
    (ha:PA X (e::es) t) (hdb:(x == ("__debug__":Str))=false:=by decide) (he:starEach (e::es) X.env=(false,eval e X.env)::starEach es X.env:=by rfl) (hpl:(backTo pos (starEach es X.env)).any (·.1)=false:=by rfl):
    PE X (.Call (.Name x p) (e::es) [] pos) (HM sp dvs E t):=by
  intro pins s σ H Q I h;refine wpAny_Call_Name_kw (FU I hg hm ?_ hdb);refine PySem.W.callWith_K (h₀:=X.base) I.ok.mod.kin hk (thn (ha pos pins s σ H _ I h) λ us s1 ⟨vs,H1,I1,r,q⟩=>⟨I1.kIn,?_⟩) he hpl;exact GV F hr hb hd hx I1 r q
theorem KJ {pl:Sem Bool} (he:PE X o ta) (c:Cls X.K C) (hm:Meth X.K C m f) (F:FnOk X.prog X.w X.K X.mg X.base CX k f fd ps sp) (hr:Room k X.A) (hb:Binds X.K fd ps ds) (hd:Vals dvs ds) (hx:CZ CX X E) (ha:PA X (e::es) t)
    (hst:starEach (e::es) X.env=(false,eval e X.env)::starEach es X.env:=by rfl) (hpl:(backTo pos (starEach es X.env)).any (·.1)=false:=by rfl)
    (ht:eval (.Call (.Attribute o m apos) (e::es) [] pos) X.env=(do
      let ov <-eval o X.env
      standAt apos.atName
      let (f,first) <-holding [ov] (getMethod ov m pl)
      callWith pos f first (backTo pos (starEach (e::es) X.env)) (backToKw pos (keywordEach [] X.env))):=by rfl):
    PE X (.Call (.Attribute o m apos) (e::es) [] pos) (FB C m sp dvs E ta t):=by
  intro pins s σ H Q I h;refine PySem.W.methodCall_KW (pl:=pl) (thn (he pins s σ H _ I h) λ u s1 ⟨x,H1,I1,rx,a,dx,fs,ex,ea,l,q⟩=> ?_) ht;subst ex;obtain rfl:u=Value.ref a:=rx;refine CW I1 ea c hm l ?_;refine PySem.W.callWith_K (first:=[.ref a]) (h₀:=X.base) I.ok.mod.kin hm.kp (thn (ha pos pins s1 σ H1 _ I1 q) λ us s2 ⟨vs,H2,I2,r,q2⟩=>⟨I2.kIn,?_⟩) hst hpl;exact GV (us:= .ref a::us) (vs:= .ref a::vs) F hr hb hd hx I2 (.cons rfl r) q2
theorem IV {pl:Sem Bool} (he:PE X o ta) (c:Cls X.K C) (hm:Meth X.K C m f) (F:FnOk X.prog X.w X.K X.mg X.base CX k f fd ps sp) (hr:Room k X.A) (hb:Binds X.K fd ps ds) (hd:Vals dvs ds) (hx:CZ CX X E)
    (ht:eval (.Call (.Attribute o m apos) [] [] pos) X.env=(do
      let ov <-eval o X.env
      standAt apos.atName
      let (f,first) <-holding [ov] (getMethod ov m pl)
      callWith pos f first (backTo pos (starEach [] X.env)) (backToKw pos (keywordEach [] X.env))):=by rfl):
    PE X (.Call (.Attribute o m apos) [] [] pos) (FB C m sp dvs E ta K6):=by
  intro pins s σ H Q I h;refine PySem.W.methodCall_KW (pl:=pl) (thn (he pins s σ H _ I h) λ u s1 ⟨x,H1,I1,rx,a,dx,fs,ex,ea,l,q⟩=> ?_) ht;subst ex;obtain rfl:u=Value.ref a:=rx;refine CW I1 ea c hm l ?_;exact PySem.W.callWith_K0 (first:=[.ref a]) I1.kIn hm.kp (GV (us:=[.ref a]) (vs:=[.ref a]) F hr hb hd hx I1 (.cons rfl .nil) q)
structure Mk (K:PySem.W.Frag) (C f:Addr):Prop where
  makes:PySem.W.makesIn K C=true
  init:PySem.W.findIn K (.ref C) "__init__"=some (some (.ref f))
  fn:PySem.W.isFn K (.ref f)=true
  kp:PySem.W.keepIn K (.ref C)=true
theorem J7 {pins:List (Addr × Obj)} {σ:St} {H:Hp} {s:Shared} {Q:VK} {us:List Value} {vs:List V} (M:Mk X.K C f) (F:FnOk X.prog X.w X.K X.mg X.base CX k f fd ps sp) (hr:Room (k+1) X.A) (hb:Binds X.K fd ps ds) (hd:Vals dvs ds)
    (hx:CZ CX X E) (I:Inv X pins σ H s) (r:Vals vs us)
    (h:∀ x dx,H x=none->H dx=none->dx≠x->sp (.ref x::(vs++dvs)) (upd (upd H dx (.own x)) x (.ins C dx [])) (λ v H2=>v= .non/\Q (.ref x) H2) E):
    wpAny (model X.prog X.w) X.A (call (.ref C) us) (EP X pins σ Q) X.xe s:=by
  have hq:=h (s.heap.objs.size+1) s.heap.objs.size (I.hok.fresh (Nat.le_succ _)) (I.hok.fresh (Nat.le_refl _)) (Nat.ne_of_lt (Nat.lt_succ_self _));have I2:=Inv.made (C:=C) I;have r2:Vals (V.ref (s.heap.objs.size+1)::(vs++dvs)) (Value.ref (s.heap.objs.size+1)::(us++ds)):= .cons rfl (r.append hd);have hl:(Value.ref (s.heap.objs.size+1)::us++ds).length=ps.length:=by
    have e:=r2.length;rw [F.len _ _ _ _ hq] at e;exact e.symm
  refine wpAny_call (JA (f:=f) I.kIn M.makes M.init (beq_iff_eq.mp M.fn) (codeAny_mono (F.run _ X.stack _ _ ⟨Value.ref (s.heap.objs.size+1)::us,[]⟩ (Value.ref (s.heap.objs.size+1)::(us++ds)) _ _ E (hr.make C us [])
    (I2.env0.make C us []) (hb _ (Value.ref (s.heap.objs.size+1)::us) I2.kIn hl) r2 hq) λ r s' hq'=> ?_))
  cases r with
  | error e=>exact hx pins σ _ _ e s' I2 hq'
  | ok fl=>
    cases fl with
    | ret u=>
      obtain ⟨v,H',I3,rv,ev,q3⟩:=I2.after hq';subst ev;exact ⟨rv,⟨V.ref (s.heap.objs.size+1),H',I3,rfl,q3⟩⟩
    | next=>exact False.elim hq'
    | brk=>exact False.elim hq'
    | cont=>exact False.elim hq'
theorem KY (M:Mk X.K C f) (F:FnOk X.prog X.w X.K X.mg X.base CX k f fd ps sp) (hr:Room (k+1) X.A) (hg:Gl X x) (hm:X.mg x=some (.ref C)) (hb:Binds X.K fd ps ds) (hd:Vals dvs ds) (hx:CZ CX X E)
    (ha:PA X (e::es) t) (hdb:(x == ("__debug__":Str))=false:=by decide) (he:starEach (e::es) X.env=(false,eval e X.env)::starEach es X.env:=by rfl) (hpl:(backTo pos (starEach es X.env)).any (·.1)=false:=by rfl):
    PE X (.Call (.Name x p) (e::es) [] pos) (HP C sp dvs E t):=by
  intro pins s σ H Q I h;refine wpAny_Call_Name_kw (FU I hg hm ?_ hdb);refine PySem.W.callWith_K (h₀:=X.base) I.ok.mod.kin M.kp (thn (ha pos pins s σ H _ I h) λ us s1 ⟨vs,H1,I1,r,q⟩=>⟨I1.kIn,?_⟩) he hpl;exact J7 M F hr hb hd hx I1 r q
end
section
variable {X:Cx} {CX:CXT} {k:Nat} {f C:Addr} {fd:FuncData} {ps ks:List Str} {sp:Sp} {E:XK} {x m:Str} {p pos apos kpos:Pos} {e o:Expr} {es:List Expr} {kws:List Keyword} {te ta:TE} {t tk:TA} {nm:Option Str}
structure KBinds (K:PySem.W.Frag) (fd:FuncData) (ps ks:List Str) (g:List Value->List Value->List Value) (gV:List V->List V->List V):Prop where
  to:∀ (s:Shared) (us ws:List Value),K.In s.heap->(g us ws).length=ps.length->BindsTo s fd ⟨us,ks.zip ws⟩ (ps.zip (g us ws))
  rel:∀ {vs:List V} {us:List Value} {zs:List V} {ws:List Value},Vals vs us->Vals zs ws->Vals (gV vs zs) (g us ws)
variable {g:List Value->List Value->List Value} {gV:List V->List V->List V}
end
structure FnScope (N P:List Str) (sc:Scope):Prop where
  kind:sc.kind= .function
  co:sc.isCoroutine=false
  gen:sc.isGenerator=false
  nd:N.Nodup
  pre:N.take P.length=P
  par:∀ x∈P,sc.names.lookup x=some .local\/sc.names.lookup x=some .cell
  nofree:∀ y∈sc.names,y.2≠ .free
theorem FC {kindOf:Str->Option NameKind} {x:Str}:∀ {binds:List (Str × Value)} {m:Str->Option Value},(∀ v,(x,v)∉binds)->bindL kindOf binds m x=m x
  | [],_,_=>rfl
  | (n,v)::r,m,h=>by
    unfold bindL;rw [FC λ w hw=>h w (List.mem_cons_of_mem _ hw)];split
    · have:x≠n:=by rintro rfl;exact h v List.mem_cons_self
      simp [this]
    · rfl
theorem FA {kindOf:Str->Option NameKind} {x:Str}:∀ {binds:List (Str × Value)} {m:Str->Option Value},(∀ v,(x,v)∉binds)->bindC kindOf binds m x=m x
  | [],_,_=>rfl
  | (n,v)::r,m,h=>by
    unfold bindC;rw [FA λ w hw=>h w (List.mem_cons_of_mem _ hw)];split
    · rfl
    · have:x≠n:=by rintro rfl;exact h v List.mem_cons_self
      simp [this]
theorem Fz {kindOf:Str->Option NameKind} {x:Str} {v:Value}:∀ {P:List Str} {vs:List Value} {i:Nat} {m:Str->Option Value},P.Nodup->P[i]?=some x->vs[i]?=some v->kindOf x=some .local->
    bindL kindOf (P.zip vs) m x=some v
  | [],_,_,_,_,h,_,_=>by simp at h
  | _::_,[],_,_,_,_,h,_=>by simp at h
  | p::P,w::vs,0,m,nd,h1,h2,hk=>by
    simp at h1 h2;subst h1;subst h2;show bindL kindOf ((p,w)::P.zip vs) m p=_;unfold bindL;rw [FC λ v hv=>(List.nodup_cons.mp nd).1 (List.of_mem_zip hv).1,if_pos hk];simp
  | p::P,w::vs,i+1,m,nd,h1,h2,hk=>by
    show bindL kindOf ((p,w)::P.zip vs) m x=_;unfold bindL;exact Fz (i:=i) (List.nodup_cons.mp nd).2 (by simpa using h1) (by simpa using h2) hk
theorem FH {kindOf:Str->Option NameKind} {x:Str} {v:Value}:∀ {P:List Str} {vs:List Value} {i:Nat} {m:Str->Option Value},P.Nodup->P[i]?=some x->vs[i]?=some v->kindOf x≠some .local->
    bindC kindOf (P.zip vs) m x=some v
  | [],_,_,_,_,h,_,_=>by simp at h
  | _::_,[],_,_,_,_,h,_=>by simp at h
  | p::P,w::vs,0,m,nd,h1,h2,hk=>by
    simp at h1 h2;subst h1;subst h2;show bindC kindOf ((p,w)::P.zip vs) m p=_;unfold bindC;rw [FA λ v hv=>(List.nodup_cons.mp nd).1 (List.of_mem_zip hv).1,if_neg hk];simp
  | p::P,w::vs,i+1,m,nd,h1,h2,hk=>by
    show bindC kindOf ((p,w)::P.zip vs) m x=_;unfold bindC;exact FH (i:=i) (List.nodup_cons.mp nd).2 (by simpa using h1) (by simpa using h2) hk
def start (N:List Str) (vs:List V):St:=vs.map some++List.replicate (N.length - vs.length) none
def IF (CX:CXT) (P:Program) (w:World) (K:PySem.W.Frag) (mg:Str->Option Value) (base:Heap) (N:List Str) (qual:Str) (scope:Scope) (f:Addr) (cd:Value) (A:Around) (outer:List Env) (s:Shared) (H:Hp) (E:XK):Cx where
  prog:=P
  w:=w
  K:=K
  mg:=mg
  base:=base
  A:=A.deeper (envOfC qual scope s.heap.objs.size f cd)
  N:=N
  s₀:=s
  H₀:=H
  env:=envOfC qual scope s.heap.objs.size f cd
  outer:=outer
  stack:=envOfC qual scope s.heap.objs.size f cd::outer
  ex:=[]
  calm:=true
  fn:=λ _=>true
  pn:=[]
  xe:=λ e s'=>wpAny (model P w) (A.deeper (envOfC qual scope s.heap.objs.size f cd)) (leaving (envOfC qual scope s.heap.objs.size f cd) e) (λ _ s''=>CX outer H s E e s'') (λ e' s''=>CX outer H s E e' s'') s'
theorem GI {sc:Scope} {n:Nat} {x:Str} (h:sc.names.lookup x=some .cell):∃ c,(cellsFrom n sc.names []).lookup x=some c:=by
  have q:=PySem.W.cellsFrom_some sc.names n [] (.inl h);exact Option.isSome_iff_exists.mp q
theorem Ih {CX:CXT} {P:Program} {w:World} {K:PySem.W.Frag} {mg:Str->Option Value} {base:Heap} {N ps:List Str} {qual:Str} {scope:Scope} {f:Addr} {cd:Value} {A:Around} {outer:List Env} {s s1:Shared} {H:Hp} {E:XK} {us:List Value} {vs:List V}
    (S:FnScope N ps scope) (hd:A.handled=none) (e0:Env0 P w K mg base A outer s H) (hl:vs.length=ps.length) (r:Vals vs us)
    (x:InCallC s s.heap.objs.size (bindL (envOfC qual scope s.heap.objs.size f cd).kindOf (ps.zip us) λ _=>none) (cellsFrom (s.heap.objs.size+1) scope.names []) (bindC (envOfC qual scope s.heap.objs.size f cd).kindOf (ps.zip us) λ _=>none) s1):
    Inv (IF CX P w K mg base N qual scope f cd A outer s H E) [] (start N vs) H s1:=by
  have hpl:ps.length<=N.length:=by have:=congrArg List.length S.pre;rw [List.length_take] at this;omega
  obtain ⟨h1,tk,rfl,hk⟩:=x.done;have noA:∀ b:Addr,b∉(IF CX P w K mg base N qual scope f cd A outer s H E).ex:=λ b z=>absurd (show b∈([]:List Addr) from z) (by simp);refine ⟨⟨e0.mod,S.kind,rfl,rfl,Nat.le_refl _,λ y z c h1 h2=> ?_,λ y hy=> ?_,λ y c _ h=> ?_,λ _=>hd,Around.frames_deeper e0.frames, .inr ⟨rfl,rfl⟩,λ b z=>absurd z (noA b),e0.bs,e0.bsz,λ b _ _=>noA b,λ b z=>absurd z (noA b),e0.funs,e0.frf⟩,
    rfl,e0.bare,Un.kept hk,⟨_,x.toInCall.ns,λ i y v h1 h2 h3=> ?_⟩,λ y c h=>⟨_,x.cell y c h⟩,e0.hok.fresh (Nat.le_refl _),λ y c h=> ?_,λ p hp=>absurd (show p∈([]:List (Addr × Obj)) from hp) (by simp),e0.hok.kept hk,?_⟩
  · exact name_of_addr x.apart (PySem.mem_of_lookup h1) (PySem.mem_of_lookup h2)
  · have hy:scope.names.lookup y=some .cell\/scope.names.lookup y=some .free:=hy;rcases hy with hy | hy
    · exact GI hy
    · exact absurd rfl (S.nofree _ (PySem.mem_of_lookup hy))
  · exact Nat.le_of_lt (x.above y c (PySem.mem_of_lookup h))
  · have hi:i<vs.length:=by
      unfold start at h2;by_cases hi:i<vs.length
      · exact hi
      · rw [List.getElem?_append_right (by simpa using hi)] at h2;rw [List.getElem?_replicate] at h2;split at h2 <;> cases h2
    have ha:vs[i]?=some v:=by
      unfold start at h2;rw [List.getElem?_append_left (by simpa using hi),List.getElem?_map] at h2;cases e:vs[i]? with
      | none=>rw [e] at h2;cases h2
      | some a=>rw [e] at h2;cases h2;rfl
    obtain ⟨u,hu,rv⟩:=r.get ha;have hp:ps[i]?=some y:=by
      rw [<-S.pre,List.getElem?_take_of_lt (by omega)];exact h1
    have ndP:ps.Nodup:=by rw [<-S.pre];exact S.nd.sublist (List.take_sublist _ _)
    refine ⟨u,rv,?_⟩;rcases S.par y (List.mem_of_getElem? hp) with k | k
    · exact .inl ⟨k,Fz ndP hp hu k⟩
    · obtain ⟨c,e⟩:=GI (n:=s.heap.objs.size+1) k;refine .inr ⟨.inl k,c,e,?_⟩;have q:=x.cell y c e;rw [FH ndP hp hu (by show scope.names.lookup y≠_;rw [k];decide)] at q;exact q
  · exact e0.hok.fresh (Nat.le_of_lt (x.above y c (PySem.mem_of_lookup h)))
  · unfold start;show _=N.length;rw [List.length_append,List.length_map,List.length_replicate];omega
theorem M8 {CX:CXT} {P:Program} {w:World} {K:PySem.W.Frag} {mg:Str->Option Value} {base:Heap} {k:Nat} {f:Addr} {name qual:Str} {params:Arguments} {body:List Stmt} {scope:Scope} {dV kV doc pm cdv ct oc:Value} {an od:Option Addr}
    {osl:Array (Option Value)} {N ps:List Str} {sp:Sp} (lk:K.lookup f=some ⟨oc,od, .func (PySem.W.fnOf name qual params body scope dV kV doc pm an cdv ct),osl⟩) (hcd:PySem.W.codeIn K cdv qual=true) (S:FnScope N ps scope)
    (len:∀ vs H Q E,sp vs H Q E->vs.length=ps.length)
    (hbody:∀ (A:Around) (outer:List Env) (s:Shared) (H:Hp) (vs:List V) (Q:VK) (E:XK),Room k (A.deeper (envOfC qual scope s.heap.objs.size f cdv))->sp vs H Q E->
      ∃ t,PSs (IF CX P w K mg base N qual scope f cdv A outer s H E) body t/\t { nx:=λ _ H'=>Q .non H',rt:=Q } (start N vs) H):
    FnOk P w K mg base CX (k+1) f (PySem.W.fnOf name qual params body scope dV kV doc pm an cdv ct) ps sp:=by
  refine ⟨len,λ A outer s H args us vs Q E hr e0 hb r hsp=> ?_⟩;have hl:=len _ _ _ _ hsp;have KX:K.In s.heap:=e0.mod.kin.keeps λ b o e=>(e0.bs b o e).1;have lim:s.heap.NoLimit:=e0.mod.nolimit.keeps λ b o e=>(e0.bs b o e).1;have hkind:∀ y∈ps.zip us,scope.names.lookup y.1=some .local\/(scope.names.lookup y.1=some .cell/\((cellsFrom (s.heap.objs.size+1) scope.names []).lookup y.1).isSome=true):=λ ⟨n,v⟩ hy=>by
    rcases S.par n (List.of_mem_zip hy).1 with q | q
    · exact .inl q
    · exact .inr ⟨q,PySem.W.cellsFrom_some _ _ _ (.inl q)⟩
  refine codeAny_call_function hr.depth (KX _ _ lk) rfl S.co S.gen rfl (PySem.W.codeRec_of KX hcd) (hb _ _ _ _ ?_);refine wpAny_newFunctionEnv_cells S.kind hkind λ env he s1 x=> ?_;subst he;refine ⟨lim.keeps x.toInCall.keep,codeAny_func ?_⟩;obtain ⟨t,ht,hq⟩:=hbody A outer s H vs Q E (hr.deeper _) hsp;have I:Inv (IF CX P w K mg base N qual scope f cdv A outer s H E) [] (start N vs) H s1:=Ih S hr.hd e0 hl r x;refine wpAny_mono (ht [] s1 (start N vs) H _ I hq) (λ fl s' hs=> ?_) λ e s' hs=>hs;have fin:∀ {σ':St} {H':Hp} {v:V} {u:Value},Inv (IF CX P w K mg base N qual scope f cdv A outer s H E) [] σ' H' s'->RelV v u->Q v H'->CE outer P w H s Q u s':=
    λ {σ' H' v u} J rv q=>⟨v,H',J.os,J.bare,J.base,J.hok,rv,q⟩
  cases fl with
  | ret u=>
    obtain ⟨v,σ',H',J,rv,q⟩:=hs;exact fin J rv q
  | next=>
    obtain ⟨σ',H',J,q⟩:=hs;exact fin (v:=V.non) (u:=Value.none) J rfl q
  | brk=>
    obtain ⟨_,_,_,q⟩:=hs;exact False.elim q
  | cont=>
    obtain ⟨_,_,_,q⟩:=hs;exact False.elim q
section
variable {X:Cx} {x:Str} {p pos:Pos} {e:Expr} {es:List Expr} {t:TA} {id T:String} {r:List V->Hp->VK->Prop}
def tCB (r:List V->Hp->VK->Prop) (t:TA):TE:=λ σ H Q=>t σ H λ vs H1=>r vs H1 Q
theorem Ai (hc:Bg X (.builtin id) r) (hg:Gl X x) (hm:X.mg x=none) (hv:bootBuiltins x=some (.builtin id)) (ha:PA X (e::es) t) (hn:x≠"__name__":=by decide) (hdb:(x == ("__debug__":Str))=false:=by decide)
    (he:starEach (e::es) X.env=(false,eval e X.env)::starEach es X.env:=by rfl) (hpl:(backTo pos (starEach es X.env)).any (·.1)=false:=by rfl):PE X (.Call (.Name x p) (e::es) [] pos) (tCB r t):=by
  intro pins s σ H Q I h;refine wpAny_Call_Name_kw (BF I hg hm hv ?_ hn hdb);exact PyProof.Rows.callWith_builtin1 (thn (ha pos pins s σ H _ I h) λ us s1 ⟨vs,H1,I1,r1,q1⟩=>hc pins s1 σ H1 vs us Q I1 r1 q1) he hpl
theorem Aw (hc:Bg X (.type T) r) (hg:Gl X x) (hm:X.mg x=none) (hv:bootBuiltins x=some (.type T)) (ha:PA X (e::es) t) (hn:x≠"__name__":=by decide) (hdb:(x == ("__debug__":Str))=false:=by decide)
    (he:starEach (e::es) X.env=(false,eval e X.env)::starEach es X.env:=by rfl) (hpl:(backTo pos (starEach es X.env)).any (·.1)=false:=by rfl):PE X (.Call (.Name x p) (e::es) [] pos) (tCB r t):=by
  intro pins s σ H Q I h;refine wpAny_Call_Name_kw (BF I hg hm hv ?_ hn hdb);exact PyProof.Rows.callWith_type1 (thn (ha pos pins s σ H _ I h) λ us s1 ⟨vs,H1,I1,r1,q1⟩=>hc pins s1 σ H1 vs us Q I1 r1 q1) he hpl
end
end L2
namespace HT
open PySem PyProof.Rows
section
open PySem.SeqAt
open PySem.AutoSeq1 (wpAny_loadPart')
open PySem.MeetsSeq PySem.MeetsSeq2 PySem.MeetsSeq3
end
section
variable {prog:Program} {w:World} {A:Around} {E:Value->Shared->Prop} {s:Shared}
def sIx (n d:Nat):Option Int->Nat
  | none=>d
  | some v=>if v<0 then (v+(n:Int)).toNat else min v.toNat n
end
end HT
namespace L2
open PySem PySem.Spec PyProof.Rows
abbrev TO:=St->Hp->(Option Int->Hp->Prop)->Prop
def PO (X:Cx) (e:Option Expr) (t:TO):Prop:=
  ∀ (pins:List (Addr × Obj)) (s:Shared) (σ:St) (H:Hp) (Q:Option Int->Hp->Prop),Inv X pins σ H s->t σ H Q->
    wpAny (model X.prog X.w) X.A (evalPart e X.env) (λ u s'=>∃ o H',Inv X pins σ H' s'/\IsPart u o/\Q o H') X.xe s
def HS:TO:=λ _ H Q=>Q none H
def Lv (t:TE):TO:=λ σ H Q=>t σ H λ x H1=>∃ i,x= .int i/\Q (some i) H1
theorem GO {ns:List Int}:∀ {us:List Value},Vals (ns.map V.int) us->IntsAre us ns:=by
  induction ns with
  | nil=>intro us r;rw [List.map_nil] at r;cases r;exact .nil
  | cons n ns ih=>
    intro us r;rw [List.map_cons] at r;cases r with
    | cons r1 r2=>
      obtain ⟨t,e⟩:=r1;subst e;exact .cons n t (ih r2)
section
variable {X:Cx} {e:Expr} {te:TE} {lo hi:Option Expr} {tl th:TO} {pos p2:Pos}
theorem Km:PO X none HS:=by
  intro pins s σ H Q I h;rw [evalPart_none];exact wpAny_pure ⟨none,H,I, .none,h⟩
theorem Ld (h:PE X e te):PO X (some e) (Lv te):=by
  intro pins s σ H Q I hw;rw [evalPart_some];refine thn (h pins s σ H _ I hw) λ u s1 ⟨x,H1,I1,r1,q1⟩=> ?_;obtain ⟨i,rfl,q⟩:=q1;obtain ⟨t,rfl⟩:=r1;exact ⟨some i,H1,I1, .int i t,q⟩
def SlR (X:Cx) (r:V->Option Int->Option Int->Hp->VK->Prop):Prop:=
  ∀ (pins:List (Addr × Obj)) (s:Shared) (σ:St) (H:Hp) (x:V) (v vl vu:Value) (lo hi:Option Int) (sl:Addr) (Q:VK),Inv X pins σ H s->RelV x v->s.heap.IsSliceOf sl vl vu .none->IsPart vl lo->IsPart vu hi->r x lo hi H Q->
    ∃ T id,typeLookup (.type T) "__getitem__"=pure (some (.builtin id))/\s.TypeIs v T/\wpAny (model X.prog X.w) X.A (getItem v (.ref sl)) (EP X pins σ Q) X.xe s
def tSl (r:V->Option Int->Option Int->Hp->VK->Prop) (te:TE) (tl th:TO):TE:=λ σ H Q=>te σ H λ x H1=>tl σ H1 λ l H2=>th σ H2 λ u H3=>r x l u H3 Q
theorem IQ {r:V->Option Int->Option Int->Hp->VK->Prop} (hr:SlR X r) (he:PE X e te) (hl:PO X lo tl) (hu:PO X hi th):PE X (.Subscript e (.Slice lo hi none p2) pos) (tSl r te tl th):=by
  intro pins s σ H Q I h;refine Subscript_ (thn (he pins s σ H _ I h) λ v s1 ⟨x,H1,I1,r1,q1⟩=> ?_);refine wpAny_Slice (thn (hl pins s1 σ H1 _ I1 q1) λ vl s2 ⟨l,H2,I2,pl,q2⟩=>thn (hu pins s2 σ H2 _ I2 q2) λ vu s3 ⟨u,H3,I3,pu,q3⟩=> ?_);rw [evalPart_none];refine wpAny_pure ?_;have I4:Inv X pins σ H3 { s3 with heap:=s3.heap.push { cls:= .type "slice",data:= .fields #[vl,vu, .none] } }:=I3.kept (t':=s3.toks) λ b ob q=>Heap.get?_push_of_some _ q;obtain ⟨T,id,hT,ht,hg⟩:=hr pins { s3 with heap:=s3.heap.push { cls:= .type "slice",data:= .fields #[vl,vu, .none] } } σ H3 x v vl vu l u s3.heap.objs.size Q I4 r1 (Heap.IsSliceOf.new ..) pl pu q3;show wpAny (model X.prog X.w) X.A (subscriptTail e (.Slice lo hi none p2) v (.ref s3.heap.objs.size)) (EP X pins σ Q) X.xe { s3 with heap:=s3.heap.push { cls:= .type "slice",data:= .fields #[vl,vu, .none] } };exact tail_any (ops:=[.ref s3.heap.objs.size,v]) ht hT hg (by with_unfolding_all rfl)
def F1 (xs:List V) (lo hi:Option Int):List V:=(xs.drop (HT.sIx xs.length 0 lo)).take (HT.sIx xs.length xs.length hi - HT.sIx xs.length 0 lo)
theorem GC (xs:List V) (lo hi:Option Int):(F1 xs lo hi).length<=xs.length:=by
  unfold F1;rw [List.length_take,List.length_drop];omega
end
def ixN (n:Nat) (i:Int):Option Nat:=if 0<=i then (if i<n then some i.toNat else none) else if -(n:Int)<=i then some (i+n).toNat else none
def atI {α:Type} (xs:List α) (i:Int):Option α:=(ixN xs.length i).bind λ j=>xs[j]?
theorem Kq {n:Nat} {i:Int} {j:Nat} (h:ixN n i=some j):seqIndex? i n=some j/\j<n/\ -(n:Int)<=i/\i<n:=by
  unfold ixN at h;by_cases h0:0<=i
  · rw [if_pos h0] at h;by_cases h1:i<n
    · rw [if_pos h1] at h;have e:i.toNat=j:=Option.some.inj h;exact ⟨by rw [seqIndex_of h0 h1,e],by omega,by omega,h1⟩
    · rw [if_neg h1] at h;cases h
  · rw [if_neg h0] at h;by_cases h1: -(n:Int)<=i
    · rw [if_pos h1] at h;have e:(i+n).toNat=j:=Option.some.inj h;exact ⟨by rw [seqIndex_neg (by omega) h1,e],by omega,h1,by omega⟩
    · rw [if_neg h1] at h;cases h
theorem F2 {α:Type} {xs:List α} {i:Int} {v:α} (h:atI xs i=some v):∃ j,seqIndex? i xs.length=some j/\xs[j]?=some v/\j<xs.length/\ -(xs.length:Int)<=i/\i<xs.length:=by
  unfold atI at h;cases e:ixN xs.length i with
  | none=>rw [e] at h;cases h
  | some j=>
    rw [e] at h;obtain ⟨h1,h2,h3,h4⟩:=Kq e;exact ⟨j,h1,h,h2,h3,h4⟩
theorem AM {α:Type} {xs:List α} {j:Nat} {v:α} (h:xs[j]?=some v):atI xs (j:Int)=some v:=by
  have hj:j<xs.length:=(List.getElem?_eq_some_iff.mp h).1;have e:ixN xs.length (j:Int)=some j:=by
    unfold ixN;rw [if_pos (by omega),if_pos (by omega)];simp
  unfold atI;rw [e];exact h
def Kj (b:Expr):Prop:=∀ o i,subscripted b false o i=operate [o,i] (getItem o i)
def IxR (X:Cx) (r:R2):Prop:=
  ∀ (value slice:Expr) (pins:List (Addr × Obj)) (s:Shared) (σ:St) (H:Hp) (x y:V) (v u:Value) (Q:VK),Inv X pins σ H s->RelV x v->RelV y u->r x y H Q->
    subscripted slice false v u=operate [v,u] (getItem v u)->wpAny (model X.prog X.w) X.A (subscriptTail value slice v u) (EP X pins σ Q) X.xe s
def MtR (X:Cx) (id:String) (r:V->List V->Hp->VK->Prop):Prop:=
  ∀ (pins:List (Addr × Obj)) (s:Shared) (σ:St) (H:Hp) (x:V) (xs:List V) (v:Value) (us:List Value) (Q:VK),Inv X pins σ H s->RelV x v->Vals xs us->r x xs H Q->
    wpAny (model X.prog X.w) X.A (call (.builtin id) (v::us)) (EP X pins σ Q) X.xe s
section
variable {X:Cx} {a b:Expr} {ta tb:TE} {pos:Pos}
theorem AY {r:R2} (hr:IxR X r) (ha:PE X a ta) (hb:PE X b tb) (hs:Kj b):PE X (.Subscript a b pos) (tOp r ta tb):=by
  intro pins s σ H Q I h;exact Subscript_ (Mu ha hb I h λ v u s2 x y H2 I2 rx ry q=>hr a b pins s2 σ H2 x y v u Q I2 rx ry q (hs _ _))
def L7 (K:PySem.W.Frag):R2:=λ x y H Q=>∃ p xs i v,x= .ref p/\y= .int i/\SqL K H p xs/\atI xs i=some v/\Q v H
def Mt (K:PySem.W.Frag):R2:=λ x y H Q=>∃ p xs i v,x= .ref p/\y= .int i/\SqT K H p xs/\atI xs i=some v/\Q v H
def ND:R2:=λ x y H Q=>∃ z i c,x= .str z/\y= .int i/\z.length<=sizeLine/\atI z.cps.toList i=some c/\Q (.str ⟨#[c]⟩) H
theorem Kk:IxR X (L7 X.K):=by
  intro value slice pins s σ H x y v u Q I rx ry h hs;obtain ⟨p,xs,i,z,rfl,rfl,hq,he,q⟩:=h;cases rx;obtain ⟨t,rfl⟩:=ry;obtain ⟨its,r,pl,hz⟩:=I.list hq;obtain ⟨j,h1,h2,h3,h4,h5⟩:=F2 he;obtain ⟨w,ew,rw'⟩:=r.get h2;have hl:=r.length;have hn:=EM;have fin:EP X pins σ Q w s:=⟨z,H,I,rw',q⟩;by_cases h0:0<=i
  · have hj:i.toNat=j:=by
      rw [seqIndex_of h0 h5] at h1;exact Option.some.inj h1
    exact item_listR pl.isList h0 (by omega) (by rw [hj];simpa using ew) fin hs
  · have hj:(i+(its.toArray.size:Int)).toNat=j:=by
      rw [seqIndex_neg (by omega) h4] at h1;rw [List.size_toArray, <-hl];exact Option.some.inj h1
    exact subscriptTail_builtinR (x:=w) pl.isList.typeIs slot_list_getitem.lookup
      (wpAny_getItem_list_neg (Q:=λ r s'=>r=w/\EP X pins σ Q r s') pl.isList (by omega) (by rw [List.size_toArray] <;> omega) (by omega) (by rw [hj];simpa using ew) ⟨rfl,fin⟩) hs
theorem LY:IxR X (Mt X.K):=by
  intro value slice pins s σ H x y v u Q I rx ry h hs;obtain ⟨p,xs,i,z,rfl,rfl,hq,he,q⟩:=h;cases rx;obtain ⟨t,rfl⟩:=ry;obtain ⟨its,r,pl,hz⟩:=I.tuple hq;obtain ⟨j,h1,h2,h3,h4,h5⟩:=F2 he;obtain ⟨w,ew,rw'⟩:=r.get h2;have hl:=r.length;have hn:=EM;have fin:EP X pins σ Q w s:=⟨z,H,I,rw',q⟩;exact subscriptTail_builtinR (x:=w) pl.typeIs slot_tuple_getitem.lookup
    (getItem_tuple (j:=j) (Q:=λ r s'=>r=w/\EP X pins σ Q r s') pl (by omega) (by omega) (by rw [List.size_toArray, <-hl];exact h1) (by simpa using ew) ⟨rfl,fin⟩) hs
theorem JX:IxR X ND:=by
  intro value slice pins s σ H x y v u Q I rx ry h hs;obtain ⟨z,i,c,rfl,rfl,hz,he,q⟩:=h;obtain ⟨t,rfl⟩:=rx;obtain ⟨t',rfl⟩:=ry;obtain ⟨j,h1,h2,h3,h4,h5⟩:=F2 he;have hl:z.cps.toList.length=z.length:=by simp [Str.length]
  rw [hl] at h1 h4 h5;have hn:=EM;exact tail_any (typeIs_str s z t) slot_str_getitem.lookup (getItem_str (c:=c) (by
    have e1:decide (i< -(2 ^ 63:Int))=false:=decide_eq_false (by omega);have e2:decide (i>=2 ^ 63)=false:=decide_eq_false (by omega);rw [e1,e2,Bool.or_false]) (by rw [h1];simpa using h2) ⟨.str ⟨#[c]⟩,H,I.tok _,⟨_,rfl⟩,q⟩) hs
theorem Inv.lst {pins:List (Addr × Obj)} {σ:St} {H:Hp} {s:Shared} {p:Addr} {xs:List V} (I:Inv X pins σ H s) (h:H p=some (.lst xs)):
    ∃ (its:List Value) (n:Nat),Vals xs its/\s.heap.get? p=some { cls:= .type "list",data:= .seq its.toArray n }/\xs.length<=sizeLine:=by
  obtain ⟨z,its,n,r,e⟩:=I.hok p _ h;exact ⟨its,n,r,e,z⟩
theorem F4 (lo hi:Option Int) (n:Nat):(sliceBounds lo hi none n).1=((HT.sIx n 0 lo:Nat):Int)/\(sliceBounds lo hi none n).2.1=((HT.sIx n n hi:Nat):Int)/\(sliceBounds lo hi none n).2.2=1:=by
  refine ⟨?_,?_,rfl⟩
  · cases lo with
    | none=>simp [sliceBounds,HT.sIx]
    | some i=>
      simp only [sliceBounds,HT.sIx,Option.getD_none,show (1:Int)>0 by decide,if_true];by_cases h:i<0
      · simp only [h,if_true] <;> omega
      · simp only [h,if_false] <;> omega
  · cases hi with
    | none=>simp [sliceBounds,HT.sIx]
    | some i=>
      simp only [sliceBounds,HT.sIx,Option.getD_none,show (1:Int)>0 by decide,if_true];by_cases h:i<0
      · simp only [h,if_true] <;> omega
      · simp only [h,if_false] <;> omega
theorem EW (its:List Value) (lo hi:Option Int):slicePick its.toArray lo hi none=((its.drop (HT.sIx its.length 0 lo)).take (HT.sIx its.length its.length hi - HT.sIx its.length 0 lo)).toArray:=by
  obtain ⟨h1,h2,h3⟩:=F4 lo hi its.toArray.size;unfold slicePick;rw [h1,h2,h3];simp only [sliceRange_one,pick_run,List.size_toArray] <;> rfl
def Mv (K:PySem.W.Frag):V->Option Int->Option Int->Hp->VK->Prop:=λ x lo hi H Q=>∃ a xs,x= .ref a/\SqL K H a xs/\∀ p,H p=none->Q (.ref p) (upd H p (.lst (F1 xs lo hi)))
theorem KF:SlR X (Mv X.K):=by
  intro pins s σ H x v vl vu lo hi sl Q I rx hs pl pu h;obtain ⟨a,xs,rfl,hx,q⟩:=h;cases rx;obtain ⟨its,r,ht,hz⟩:=I.list hx;have hlen:=r.length;refine ⟨"list",_,slot_list_getitem.lookup,ht.isList.typeIs,?_⟩;refine wpAny_getItem_list_slice ht.isList hs pl pu .none (by simp) ?_ (by rw [List.size_toArray] <;> omega);rw [EW, <-hlen];refine ⟨.ref s.heap.objs.size,_,I.laid (t':=s.toks) (o:= .lst (F1 xs lo hi)) (λ b ob q=>Heap.get?_push_of_some _ q) (Nat.le_refl _) ?_,rfl,q _ (I.hok.fresh (Nat.le_refl _))⟩;exact ⟨Nat.le_trans (GC xs lo hi) hz,_,0,(r.drop (HT.sIx xs.length 0 lo)).take (HT.sIx xs.length xs.length hi - HT.sIx xs.length 0 lo),Heap.get?_push_size _ rfl⟩
def A7:V->Bool
  | .non=>true
  | .bl _=>true
  | .int _=>true
  | .str _=>true
  | _=>false
def eqV:V->V->Bool
  | .non, .non=>true
  | .bl a, .bl b=>a == b
  | .bl a, .int b=>(if a then 1 else 0) == b
  | .int a, .bl b=>a == (if b then 1 else 0)
  | .int a, .int b=>a == b
  | .str a, .str b=>a == b
  | _,_=>false
theorem JN {A:Around} {s:Shared} {y x:V} {u v:Value} (ry:RelV y u) (rx:RelV x v) (fy:A7 y=true) (fx:A7 x=true):SeqAt.EqAt A s u v (eqV y x):=by
  cases y with
  | non=>
    cases ry;cases x with
    | non=>cases rx;exact SeqAt.EqAt.same _
    | bl b=>cases rx;exact SeqAt.EqAt.none_bool b
    | int b=>obtain ⟨t,rfl⟩:=rx;exact SeqAt.EqAt.none_int b t
    | str b=>obtain ⟨t,rfl⟩:=rx;exact SeqAt.EqAt.none_str b t
    | _=>exact absurd (show false=true from fx) Bool.false_ne_true
  | bl a=>
    cases ry;cases x with
    | non=>cases rx;exact SeqAt.EqAt.bool_none a
    | bl b=>cases rx;exact SeqAt.EqAt.bool_bool a b
    | int b=>obtain ⟨t,rfl⟩:=rx;exact SeqAt.EqAt.bool_int a b t
    | str b=>obtain ⟨t,rfl⟩:=rx;exact SeqAt.EqAt.bool_str a b t
    | _=>exact absurd (show false=true from fx) Bool.false_ne_true
  | int a=>
    obtain ⟨t',rfl⟩:=ry;cases x with
    | non=>cases rx;exact SeqAt.EqAt.int_none a t'
    | bl b=>cases rx;exact SeqAt.EqAt.int_bool a t' b
    | int b=>obtain ⟨t,rfl⟩:=rx;exact SeqAt.EqAt.int_int a t' b t
    | str b=>obtain ⟨t,rfl⟩:=rx;exact SeqAt.EqAt.int_str a t' b t
    | _=>exact absurd (show false=true from fx) Bool.false_ne_true
  | str a=>
    obtain ⟨t',rfl⟩:=ry;cases x with
    | non=>cases rx;exact SeqAt.EqAt.str_none a t'
    | bl b=>cases rx;exact SeqAt.EqAt.str_bool a t' b
    | int b=>obtain ⟨t,rfl⟩:=rx;exact SeqAt.EqAt.str_int a t' b t
    | str b=>obtain ⟨t,rfl⟩:=rx;exact SeqAt.EqAt.str_str a t' b t
    | _=>exact absurd (show false=true from fx) Bool.false_ne_true
  | _=>exact absurd (show false=true from fy) Bool.false_ne_true
def eqU (x:V) (u:Value):Bool:=match u with
  | .none=>eqV .non x
  | .bool b=>eqV (.bl b) x
  | .int i _=>eqV (.int i) x
  | .str z _=>eqV (.str z) x
  | _=>false
theorem Ji {x y:V} {u:Value} (r:RelV y u) (f:A7 y=true):eqU x u=eqV y x:=by
  cases y with
  | non=>cases r;rfl
  | bl b=>cases r;rfl
  | int i=>obtain ⟨t,rfl⟩:=r;rfl
  | str z=>obtain ⟨t,rfl⟩:=r;rfl
  | _=>exact absurd (show false=true from f) Bool.false_ne_true
theorem FJ {x:V}:∀ {xs:List V} {us:List Value},Vals xs us->xs.all A7=true->us.any (eqU x)=xs.any λ y=>eqV y x
  | _,_, .nil,_=>rfl
  | y::xs,u::us, .cons r t,f=>by
    rw [List.all_cons,Bool.and_eq_true] at f;rw [List.any_cons,List.any_cons,Ji r f.1,FJ t f.2]
theorem Ew {A:Around} {s:Shared} {x:V} {v:Value} (rx:RelV x v) (fx:A7 x=true):∀ {xs:List V} {us:List Value},Vals xs us->xs.all A7=true->∀ u∈us,SeqAt.EqAt A s u v (eqU x u)
  | _,_, .nil,_=>λ u hu=>by cases hu
  | y::xs,u::us, .cons r t,f=>λ u' hu=>by
    rw [List.all_cons,Bool.and_eq_true] at f;rcases List.mem_cons.mp hu with rfl | hu
    · rw [Ji r f.1];exact JN r rx f.1 fx
    · exact Ew rx fx t f.2 u' hu
def inV (x:V) (xs:List V):Bool:=xs.any λ y=>eqV y x
def rIn (K:PySem.W.Frag) (neg:Bool):R2:=λ x y H Q=>∃ p xs,y= .ref p/\(SqL K H p xs\/SqT K H p xs)/\A7 x=true/\xs.all A7=true/\Q (.bl (if neg then !inV x xs else inV x xs)) H
theorem IK:OpR X (compareOp .In) (rIn X.K false):=by
  intro pins s σ H x y v u Q I rx ry h;obtain ⟨p,xs,rfl,hq,fx,fs,q⟩:=h;cases ry;rcases hq with hq | hq
  · obtain ⟨its,r,pl,hz⟩:=I.list hq;refine SeqAt.in_listAt (eqU x) pl.isList (λ w hw=>Ew rx fx r fs w (by simpa using hw)) ⟨.bl _,H,I,rfl,?_⟩;rw [show its.toArray.any (eqU x)=its.any (eqU x) by simp,FJ r fs];exact q
  · obtain ⟨its,r,pl,hz⟩:=I.tuple hq;refine SeqAt.in_tupleAt (eqU x) pl (λ w hw=>Ew rx fx r fs w (by simpa using hw)) ⟨.bl _,H,I,rfl,?_⟩;rw [show its.toArray.any (eqU x)=its.any (eqU x) by simp,FJ r fs];exact q
theorem FQ:Bg X (.type "list") (λ xs H Q=>∃ p ys,xs=[.ref p]/\(SqL X.K H p ys\/SqT X.K H p ys)/\∀ l,H l=none->Q (.ref l) (upd H l (.lst ys))):=by
  intro pins s σ H xs us Q I r h;obtain ⟨p,ys,rfl,hq,q⟩:=h;obtain ⟨u,rfl,rx⟩:=EL r;cases rx;have fin:∀ (its:List Value),Vals ys its->ys.length<=sizeLine->∀ (h':Heap) (c':Nat),(∀ b o',s.heap.get? b=some o'->h'.get? b=some o')->
      h'.get? s.heap.objs.size=some { cls:= .type "list",dict:=none,data:= .seq its.toArray c',slots:= #[] }->EP X pins σ Q (.ref s.heap.objs.size) { s with heap:=h' }:=λ its r' hz h' c' kp e=>
    ⟨.ref s.heap.objs.size,_,I.laid (t':=s.toks) kp (Nat.le_refl _) (show ObjOk X.prog X.w _ h' _ (.lst ys) from ⟨hz,its,c',r',e⟩),rfl,q _ (I.hok.fresh (Nat.le_refl _))⟩
  rcases hq with hq | hq
  · obtain ⟨its,r',pl,hz⟩:=I.list hq;have hlen:=r'.length;obtain ⟨o,ho,hc,n,hd⟩:=pl.isList;exact call_list_seq p (.inl rfl) ho hc hd (λ h' c' kp e=>fin its r' hz h' c' kp e) (by simp only [List.size_toArray] <;> omega)
  · obtain ⟨its,r',pl,hz⟩:=I.tuple hq;have hlen:=r'.length;obtain ⟨o,ho,hc,n,hd⟩:=pl;exact call_list_seq p (.inr rfl) ho hc hd (λ h' c' kp e=>fin its r' hz h' c' kp e) (by simp only [List.size_toArray] <;> omega)
theorem Fb:Bg X (.type "tuple") (λ xs H Q=>∃ p ys,xs=[.ref p]/\((SqL X.K H p ys/\∀ l,H l=none->Q (.ref l) (upd H l (.tup ys)))\/(SqT X.K H p ys/\Q (.ref p) H))):=by
  intro pins s σ H xs us Q I r h;obtain ⟨p,ys,rfl,h⟩:=h;obtain ⟨u,rfl,rx⟩:=EL r;cases rx;rcases h with ⟨hq,q⟩ | ⟨hq,q⟩
  · obtain ⟨its,r',pl,hz⟩:=I.list hq;have hlen:=r'.length;refine call_tuple_list pl.isList (λ h' kp=> ?_) (by simp only [List.size_toArray] <;> omega);have I1:Inv X pins σ H { s with heap:=h' }:=I.kept (t':=s.toks) kp;have I2:Inv X pins σ (upd H h'.objs.size (.tup ys)) { s with heap:=h'.push { cls:= .type "tuple",data:= .seq its.toArray } }:=
      I1.laid (t':=s.toks) (λ b o e=>Heap.get?_push_of_some _ e) (Nat.le_refl _) (show ObjOk X.prog X.w _ _ _ (.tup ys) from ⟨hz,its,r',IsTup.new _ _⟩)
    exact ⟨.ref h'.objs.size,_,I2,rfl,q _ (I1.hok.fresh (Nat.le_refl _))⟩
  · obtain ⟨its,r',pl,hz⟩:=I.tuple hq;exact call_tuple_same pl ⟨.ref p,H,I,rfl,q⟩
def tyV (K:PySem.W.Frag) (T:String) (x:V) (H:Hp):Prop:=match x with
  | .str _=>T="str"
  | .int _=>T="int"
  | .ref p=>(T="list"/\∃ xs,SqL K H p xs)\/(T="tuple"/\∃ o,K.lookup p=some o/\o.cls= .type "tuple"/\o.dict=none)\/
      (T="dict"/\((∃ kvs,H p=some (.dK kvs))\/∃ kvs,H p=some (.dT kvs)))\/(T="set"/\∃ S n,H p=some (.set S n))
  | _=>False
theorem Jv {pins:List (Addr × Obj)} {σ:St} {H:Hp} {s:Shared} {T:String} {x:V} {v:Value} (I:Inv X pins σ H s) (r:RelV x v) (ty:tyV X.K T x H):
    s.TypeIs v T/\∀ a,v= .ref a->∃ ob,s.heap.get? a=some ob/\ob.dict=none:=by
  cases x with
  | str z=>
    obtain ⟨t,rfl⟩:=r;cases (show T="str" from ty);exact ⟨typeIs_str s z t,λ _ e=>nomatch e⟩
  | int i=>
    obtain ⟨t,rfl⟩:=r;cases (show T="int" from ty);exact ⟨typeIs_int s i t,λ _ e=>nomatch e⟩
  | ref p=>
    cases r;rcases ty with ⟨rfl,xs,hq⟩ | ⟨rfl,o,hk,hc,hd⟩ | ⟨rfl,hk⟩ | ⟨rfl,S,n,hk⟩
    · obtain ⟨its,_,pl,_⟩:=I.list hq;refine ⟨pl.isList.typeIs,λ a e=> ?_⟩;cases e;obtain ⟨o,n,e,c,hd,_⟩:=pl;exact ⟨o,e,hd⟩
    · refine ⟨⟨o,I.kIn p o hk,hc⟩,λ a e=> ?_⟩;cases e;exact ⟨o,I.kIn _ o hk,hd⟩
    · have z:∃ o,s.heap.get? p=some o/\o.ExactDict:=by
        rcases hk with ⟨kvs,hk⟩ | ⟨kvs,hk⟩
        · obtain ⟨_,_,_,_,o,_,_,e,ex,_⟩:=I.hok p _ hk;exact ⟨o,e,ex⟩
        · obtain ⟨_,_,_,_,o,_,_,e,ex,_⟩:=I.hok p _ hk;exact ⟨o,e,ex⟩
      obtain ⟨o,e,ex⟩:=z;refine ⟨⟨o,e,ex.1⟩,λ a e2=> ?_⟩;cases e2;exact ⟨o,e,ex.2.1⟩
    · obtain ⟨o,_,_,_,e,ex,_⟩:=I.hok p _ hk;refine ⟨⟨o,e,ex.1⟩,λ a e2=> ?_⟩;cases e2;exact ⟨o,e,ex.2.1⟩
  | _=>exact False.elim ty
def Mh (K:PySem.W.Frag) (T:String) (r:V->List V->Hp->VK->Prop) (to:TE):TE:=λ σ H Q=>to σ H λ x H1=>tyV K T x H1/\r x [] H1 Q
def tBM (K:PySem.W.Frag) (T:String) (r:V->List V->Hp->VK->Prop) (to:TE) (t:TA):TE:=λ σ H Q=>to σ H λ x H1=>tyV K T x H1/\t σ H1 λ xs H2=>r x xs H2 Q
variable {o e:Expr} {es:List Expr} {to:TE} {t:TA} {name:Str} {apos cpos:Pos} {T id:String} {r:V->List V->Hp->VK->Prop}
theorem MA (pa:PlainAttrs T) (slot:Slot T name id) (hty:typeOf (.builtin id)=pure (.type "method_descriptor")) (hm:MtR X id r) (ho:PE X o to)
    (hbase:attributeBase o name X.env (eval o X.env)=eval o X.env:=by rfl) (hline:(apos.endLine == cpos.line)=true:=by rfl):PE X (.Call (.Attribute o name apos) [] [] cpos) (Mh X.K T r to):=by
  intro pins s σ H Q I h;refine wpAny_Call_method0_late hbase hline (thn (ho pins s σ H _ I h) λ v s1 ⟨x,H1,I1,r1,ty,q1⟩=> ?_);obtain ⟨h1,h2⟩:=Jv I1 r1 ty;exact ⟨T,id,pa,slot,hty,h1,h2,Calls.callWith_builtin rfl (PySem.evalArgs_none (hm pins s1 σ H1 x [] v [] Q I1 r1 .nil q1))⟩
theorem M9 (pa:PlainAttrs T) (slot:Slot T name id) (hty:typeOf (.builtin id)=pure (.type "method_descriptor")) (hm:MtR X id r) (ho:PE X o to) (ha:PA X (e::es) t)
    (hbase:attributeBase o name X.env (eval o X.env)=eval o X.env:=by rfl)
    (hfew:((backTo cpos (starEach (e::es) X.env)).all (λ x=> !x.1)&&(backToKw cpos (keywordEach [] X.env)).all (λ x=>x.1.isSome)
      && decide ((e::es).length+([]:List Keyword).length+(if ([]:List Keyword).isEmpty then 0 else 1)<30))=true:=by rfl)
    (hline:(apos.endLine == cpos.line)=true:=by rfl) (hs:starEach (e::es) X.env=(false,eval e X.env)::starEach es X.env:=by rfl) (hplain:(backTo cpos (starEach es X.env)).any (·.1)=false:=by rfl):
    PE X (.Call (.Attribute o name apos) (e::es) [] cpos) (tBM X.K T r to t):=by
  intro pins s σ H Q I h;refine wpAny_Call_method_late hbase hfew hline rfl (thn (ho pins s σ H _ I h) λ v s1 ⟨x,H1,I1,r1,ty,q1⟩=> ?_);obtain ⟨h1,h2⟩:=Jv I1 r1 ty;refine ⟨T,id,pa,slot,hty,h1,h2,?_⟩;have hA:=ha cpos pins s1 σ H1 _ I1 q1;rw [hs] at hA ⊢;refine Calls.callWith_builtin (by show (false||(backTo cpos (starEach es X.env)).any (·.1))=false;rw [hplain] <;> rfl) (Calls.evalArgs_plain ?_);exact thn hA λ us s2 ⟨vs,H2,I2,r2,q2⟩=>hm pins s2 σ H2 x vs v us Q I2 r1 r2 q2
end
def MtM (X:Cx) (id:String) (r:V->List V->Hp->VK->Prop):Prop:=
  ∀ (pins:List (Addr × Obj)) (s:Shared) (σ:St) (H:Hp) (x:V) (xs:List V) (v:Value) (us:List Value) (Q:VK),Inv X pins σ H s->RelV x v->Vals xs us->r x xs H Q->
    wpAny (model X.prog X.w) X.A (call (.builtin id) (v::us)) (EP X pins σ Q) X.xe s
theorem Vals.one:∀ {x:V} {us:List Value},Vals [x] us->∃ u,us=[u]/\RelV x u
  | _,_, .cons r .nil=>⟨_,rfl,r⟩
theorem Vals.zero:∀ {us:List Value},Vals [] us->us=[]
  | _, .nil=>rfl
theorem Vals.dropLast {xs:List V} {us:List Value} (h:Vals xs us):Vals xs.dropLast us.dropLast:=by
  induction h with
  | nil=>exact .nil
  | cons r t ih=>
    cases t with
    | nil=>exact .nil
    | cons q t'=>exact .cons r ih
theorem Vals.eraseIdx:∀ {xs:List V} {us:List Value} (i:Nat),Vals xs us->Vals (xs.eraseIdx i) (us.eraseIdx i)
  | _,_,_, .nil=> .nil
  | _,_,0, .cons _ t=>t
  | _,_,i+1, .cons r t=> .cons r (Vals.eraseIdx i t)
theorem Vals.reverse {xs:List V} {us:List Value} (h:Vals xs us):Vals xs.reverse us.reverse:=by
  induction h with
  | nil=>exact .nil
  | cons r t ih=>rw [List.reverse_cons,List.reverse_cons];exact Vals.append ih (.cons r .nil)
theorem Vals.rep {xs:List V} {us:List Value} (h:Vals xs us):∀ k:Nat,Vals (List.replicate k xs).flatten (List.replicate k us).flatten
  | 0=> .nil
  | k+1=>by
    rw [List.replicate_succ,List.replicate_succ,List.flatten_cons,List.flatten_cons];exact Vals.append h (Vals.rep h k)
theorem Hj {α:Type} (l:List α):l.eraseIdx (l.length - 1)=l.dropLast:=by
  induction l with
  | nil=>rfl
  | cons a r ih=>
    cases r with
    | nil=>rfl
    | cons b r=>
      have e:(a::b::r).length - 1=((b::r).length - 1)+1:=by
        have h1:(a::b::r).length=r.length+2:=rfl;have h2:(b::r).length=r.length+1:=rfl;omega
      rw [e,List.eraseIdx_cons_succ,ih]
      all_goals rfl
theorem Fv (its:List Value):∀ (k:Nat) (acc:List Value),
    List.foldl (λ x1 x2=>x1++x2) acc.toArray (List.replicate k its.toArray)=(acc++(List.replicate k its).flatten).toArray
  | 0,acc=>by simp
  | k+1,acc=>by
    have e:acc.toArray++its.toArray=(acc++its).toArray:=by simp
    have e2:(acc++its)++(List.replicate k its).flatten=acc++(List.replicate (k+1) its).flatten:=by
      rw [List.replicate_succ,List.flatten_cons,List.append_assoc]
    rw [<-e2, <-Fv its k (acc++its), <-e,List.replicate_succ,List.foldl_cons]
section
variable {X:Cx} {pins:List (Addr × Obj)} {σ:St} {H:Hp} {s:Shared} {l b:Addr} {xs ys zs:List V}
theorem Inv.lset {its its':List Value} {n:Nat} {f:Array Value->Array Value} {t':Nat} (I:Inv X pins σ H s) (hH:H l=some (.lst xs))
    (e:s.heap.get? l=some { cls:= .type "list",data:= .seq its.toArray n }) (hf:f its.toArray=its'.toArray) (hv:Vals ys its') (hz:ys.length<=sizeLine):
    Inv X pins σ (upd H l (.lst ys)) { s with heap:=s.heap.update l (Obj.mapSeq f),toks:=t' }:=by
  have q:=PySem.IsL.update e f;rw [hf] at q;refine I.write (x:=l) (e:=l) (by rw [hH];exact trivial) (.inl rfl) (λ b' u hb hu=>(Heap.get?_update_other s.heap (Obj.mapSeq f) (Ne.symm hb)).trans hu) ⟨_,q⟩ ?_;exact ⟨hz,its',_,hv,q⟩
theorem Inv.lnew {its:List Value} {t':Nat} (I:Inv X pins σ H s) (hv:Vals ys its) (hz:ys.length<=sizeLine):
    Inv X pins σ (upd H s.heap.objs.size (.lst ys)) { s with heap:=s.heap.push { cls:= .type "list",data:= .seq its.toArray },toks:=t' }:=
  I.laid (λ _ _ q=>Heap.get?_push_of_some _ q) (Nat.le_refl _) ⟨hz,its,0,hv,Heap.get?_push_size _ rfl⟩
theorem Inv.fresh (I:Inv X pins σ H s):H s.heap.objs.size=none:=I.hok.fresh (Nat.le_refl _)
theorem Inv.lstM (I:Inv X pins σ H s) (hH:H l=some (.lst xs)):xs.length<=sizeLine/\∃ (its:List Value) (n:Nat),Vals xs its/\xs.length=its.length/\s.heap.get? l=some { cls:= .type "list",data:= .seq its.toArray n }:=by
  obtain ⟨z,its,n,r,e⟩:=I.hok l _ hH;exact ⟨z,its,n,r,r.length,e⟩
theorem Jq {n:Nat} (h:n<=sizeLine):Builtin.List.listTooLong n=false:=by
  unfold Builtin.List.listTooLong;exact decide_eq_false (by omega)
end
section
variable {X:Cx}
def rAppend:V->List V->Hp->VK->Prop:=λ x vs H Q=>∃ l xs y,x= .ref l/\vs=[y]/\H l=some (.lst xs)/\xs.length<sizeLine/\Q .non (upd H l (.lst (xs++[y])))
theorem Fn:MtM X "list.append" rAppend:=by
  intro pins s σ H x vs v us Q I rx rv h;obtain ⟨l,xs,y,rfl,rfl,hH,hz,q⟩:=h;cases rx;obtain ⟨u,rfl,ru⟩:=rv.one;obtain ⟨z,its,n,r,hl,e⟩:=I.lstM hH;refine call_meets F.slot_list_append ⟨_,e,rfl⟩ F.entry_list_append (F.args_list_append_2 _ _) (PySem.list_append l its.toArray n u (by rw [List.size_toArray];omega)) ⟨e,?_⟩;refine ⟨.non,_,I.lset (its':=its++[u]) hH e (by simp) (r.append (.cons ru .nil)) ?_,rfl,q⟩;rw [List.length_append,List.length_singleton];omega
def rPop:V->List V->Hp->VK->Prop:=λ x vs H Q=>∃ l xs y,x= .ref l/\vs=[]/\H l=some (.lst xs)/\xs[xs.length - 1]?=some y/\Q y (upd H l (.lst xs.dropLast))
theorem NG:MtM X "list.pop" rPop:=by
  intro pins s σ H x vs v us Q I rx rv h;obtain ⟨l,xs,y,rfl,rfl,hH,hy,q⟩:=h;cases rx;have hus:=rv.zero;subst hus;obtain ⟨z,its,n,r,hl,e⟩:=I.lstM hH;obtain ⟨u,hu,ru⟩:=r.get hy;have hy':its.toArray[its.toArray.size - 1]?=some u:=by
    show its.toArray[its.length - 1]?=some u;rw [<-Array.getElem?_toList, <-hl];exact hu
  refine call_meets F.slot_list_pop ⟨_,e,rfl⟩ F.entry_list_pop (F.args_list_pop_1 _) (MeetsSeq.list_pop_last l its.toArray n u hy' (by rw [List.size_toArray];omega)) ⟨e,?_⟩;refine ⟨y,_,I.lset (its':=its.dropLast) hH e ?_ r.dropLast ?_,ru,q⟩
  · show its.toArray.eraseIdxIfInBounds (its.toArray.size - 1)=its.dropLast.toArray;rw [List.size_toArray,List.eraseIdxIfInBounds_toArray,Hj]
  · rw [List.length_dropLast];omega
def rClear:V->List V->Hp->VK->Prop:=λ x vs H Q=>∃ l xs,x= .ref l/\vs=[]/\H l=some (.lst xs)/\Q .non (upd H l (.lst []))
theorem Jh:MtM X "list.clear" rClear:=by
  intro pins s σ H x vs v us Q I rx rv h;obtain ⟨l,xs,rfl,rfl,hH,q⟩:=h;cases rx;have hus:=rv.zero;subst hus;obtain ⟨z,its,n,r,hl,e⟩:=I.lstM hH;refine call_meets F.slot_list_clear ⟨_,e,rfl⟩ F.entry_list_clear (F.args_list_clear_1 _) (AutoSeq1.list_clear_list_0 l its.toArray n (by rw [List.size_toArray];omega)) ⟨e,?_⟩;exact ⟨.non,_,I.lset (its':=[]) (ys:=[]) hH e rfl .nil (Nat.zero_le _),rfl,q⟩
def MY:R2:=λ x y H Q=>∃ l k xs,x= .ref l/\y= .int k/\H l=some (.lst xs)/\ -(2 ^ 63)<=k/\k<2 ^ 63/\xs.length*k.toNat<=sizeLine/\
  ∀ p,H p=none->Q (.ref p) (upd H p (.lst (List.replicate k.toNat xs).flatten))
theorem Kf {α:Type} (xs:List α) (k:Nat):(List.replicate k xs).flatten.length=k*xs.length:=by
  induction k with
  | zero=>simp
  | succ k ih=>rw [List.replicate_succ,List.flatten_cons,List.length_append,ih,Nat.succ_mul,Nat.add_comm]
theorem Mz:OpR X (binaryOp .Mult) MY:=by
  intro pins s σ H x y v u Q I rx ry h;obtain ⟨l,k,xs,rfl,rfl,hH,h1,h2,hz,q⟩:=h;cases rx;obtain ⟨t,rfl⟩:=ry;obtain ⟨z,its,n,r,hl,e⟩:=I.lstM hH;have hlen:its.toArray.size*k.toNat<=sizeLine:=by rw [List.size_toArray, <-hl];exact hz
  have hcap:¬ its.toArray.size*k.toNat>(2 ^ 63 - 1) / 8:=by
    have:(sizeLine:Nat)<=(2 ^ 63 - 1) / 8:=by decide
    omega
  have hfit:¬ (!Builtin.List.listFitsIndex k)=true:=by
    rw [fitsIndex_both h1 h2];exact Bool.false_ne_true
  have hlong:¬ Builtin.List.listTooLong (its.toArray.size*k.toNat)=true:=by
    rw [Jq hlen];exact Bool.false_ne_true
  have hnew:List.foldl (λ x1 x2=>x1++x2) #[] (List.replicate (if its.toArray.isEmpty=true then 0 else k.toNat) its.toArray)=(List.replicate k.toNat its).flatten.toArray:=by
    have f0:∀ m:Nat,List.foldl (λ x1 x2=>x1++x2) #[] (List.replicate m its.toArray)=(List.replicate m its).flatten.toArray:=λ m=>by
      have:=Fv its m [];rw [List.nil_append] at this;exact this
    rw [f0];cases its with
    | nil=>simp
    | cons a r'=>rw [if_neg (by simp)]
  refine wpAny_binaryOp_repeat_ref (T:="list") (U:="int") (by decide) ⟨_,e,rfl⟩ (λ s'=>typeIs_int s' k t) noFill_list_mul F.fills_int_mul F.slot_int_rmul repeat_list F.slot_int_index.lookup
    (call_meets F.slot_int_rmul (typeIs_int s k t) F.entry_int_rmul (F.args_int_rmul_2 _ _) (int___rmul___int_list k t l its.toArray n)
      ⟨e,rfl,⟨_,e,rfl⟩,call_meets F.slot_list_mul ⟨_,e,rfl⟩ F.entry_list_mul (F.args_list_mul_2 _ _) (AutoListH.list___mul___list_int_3 l its.toArray n k t hfit hcap hlong) ⟨e,?_⟩⟩)
  rw [hnew];exact ⟨.ref _,_,I.lnew (t':=s.toks) (r.rep k.toNat) (by rw [Kf,Nat.mul_comm];exact hz),rfl,q _ I.fresh⟩
end
section
variable {prog:Program} {w:World} {A:Around} {E:Value->Shared->Prop} {s:Shared}
end
section
variable {X:Cx}
end
end L2
namespace Att
open PySem PySem.W PySem.Calls PyProof.Rows
theorem DY {P:Params} {h:Heap}:∀ (ns:List Int) (vs:List Value),WellAll P h vs (ns.map WData.int)->IntsAre vs ns:=by
  intro ns
  induction ns with
  | nil=>
    intro vs w;rw [List.map_nil] at w;cases w;exact .nil
  | cons n ns ih=>
    intro vs w;rw [List.map_cons] at w;cases w with
    | cons a b=>
      cases a;exact .cons _ _ (ih _ b)
theorem Ir {l:OpenLaw} {n:Nat} (hn:l.most=some n) {P:Params} {h:Heap} {args:List WData} {vals:List Value}
    (hpre:l.row.toRowW.claim.pre args=true) (hwl:WellAll P h vals args):
    ∃ a vs ns,vals=[Value.ref a]/\args=[WData.list (ns.map WData.int)]/\h.get? a=some { cls:= .type "list",data:= .seq vs.toArray }/\IntsAre vs ns/\ns.length<=n:=by
  have hsh:WShape.hasAll [] args [.list .int]=true:=(pre_splitW hpre).1;have hc:l.pre.holds [] { args:=args }=true:=(pre_splitW hpre).2;obtain ⟨d,r,rfl,h1,h2⟩:=hasAllW_cons hsh;obtain rfl:=hasAllW_nil h2;obtain ⟨xs,rfl,h3⟩:=hasW_list h1;obtain ⟨ns,rfl⟩:=items_int h3;have hlen:ns.length<=n:=by
    unfold OpenLaw.pre at hc;have h4:(WTm.not (.lt (.lit (.int (n:Int))) (.len (.arg 0)))).holds [] { args:=[.list (ns.map .int)] }=true:=by
      have h4:=(holds_andW hc).1;rw [hn] at h4;exact h4
    have h5:=condW_of h4 (w_not (w_lt w_lit (w_len_list (w_arg rfl))));rw [List.length_map] at h5;refine Nat.le_of_not_lt λ q=> ?_;have q':(n:Int)<((ns.length:Nat):Int):=by omega
    first
      | (rw [decide_eq_true q'] at h5;exact absurd h5 (by decide))
      | (simp at h5;omega)
  cases hwl with
  | cons w1 w2=>
    cases w2;cases w1 with
    | list ho hall=>exact ⟨_,_,ns,rfl,rfl,ho,DY ns _ hall,hlen⟩
theorem IB (l:OpenLaw) (args:List WData):l.row.toRowW.claim.post args (.bool true) args=true:=
  postW_of (r:=l.row.toRowW) (X:=(true == true))
    (show WShape.has [] (.bool true) .bool=true by first | rfl | decide | simp [WShape.has,WShape.arms,WShape.armsAll])
    (show (WTm.eq .res (.lit (.bool true))).value [] { args:=args,res:=some (.bool true),after:=args }=some (.bool (true == true)) from w_eq_bool (w_res rfl) w_lit) rfl
theorem attach_call {l:OpenLaw} {n:Nat} {q:Program} {loose:List Str} {XP:(Str->Option Value)->Heap->Prop} {YP:World->Heap->Prop} {d:DefRec}
    (hn:l.most=some n) (hdf:d.params.defaults=[])
    (call:∀ (w:World) (s₀ s₁:Shared) (mg mb:Str->Option Value) (fa:Addr) (o:Obj) (pm cd doc:Value) (a:Addr) (vs:List Value) (ns:List Int),
      Ground q loose [] XP w s₀ mg mb s₁.heap->YP w s₁.heap->
      s₁.heap.get? fa=some o->o.data= .func (docDef d.name d.params d.body d.scope pm cd doc)->s₁.heap.CodeRec cd d.name->mg d.name=some (.ref fa)->
      s₁.heap.get? a=some { cls:= .type "list",data:= .seq vs.toArray }->IntsAre vs ns->ns.length<=n->s₁.gens= #[]->
      codeAny (model l.prog w) callerA (.call (.ref fa) ⟨[.ref a],[]⟩) (λ r s'=>r= .ok (.ret (.bool true))/\OldK s₁.heap s'.heap/\s'.os=s₁.os/\AllBare s'.gens) s₁):
    WalkO q loose XP YP l.row.toRowW d [] (λ f vs=>PySem.call f vs):=by
  intro w s₀ s₁ mg mb G Y fa o pm cd doc dV kV ho hd hcd hD hmg hg args vals as hpre hlay hrd hwl hlo;obtain rfl:dV= .none:=Dflts.none hD hdf;obtain rfl:kV= .none:=Dflts.noKw hD;obtain ⟨a,vs,ns,rfl,rfl,hobj,hints,hlen⟩:=Ir hn hpre hwl;refine enter_call (codeAny_mono (call w s₀ s₁ mg mb fa o pm cd doc a vs ns G Y ho (fd_plain hd) hcd hmg hobj hints hlen hg) λ r s' hq=> ?_);obtain ⟨rfl,h2,h3,h4⟩:=hq;exact ⟨.inl ⟨.bool true, .bool true,[],rfl,λ _=>rfl, .bool true,IB l _,λ _=>⟨List.Pairwise.nil,λ _ hm=>(nomatch hm)⟩⟩,h2,h3,h4⟩
section
variable {prog:Program} {w:World} {A:Around} {E:Value->Shared->Prop} {s:Shared} {K:Frag}
end
end Att
namespace L2
open PySem PySem.Spec PyProof.Rows
theorem FI:∀ {vs:List Value} {ns:List Int},IntsAre vs ns->Vals (ns.map V.int) vs
  | _,_, .nil=> .nil
  | _,_, .cons n t h=> .cons ⟨t,rfl⟩ (FI h)
def Mx (H:Hp):Prop:=∀ b,H b=none\/∃ o xs,H b=some (.frz o (.lst xs))
theorem IP {P:Program} {w:World} {K:PySem.W.Frag} {mg mb:Str->Option Value} {CX:CXT} {k:Nat} {fa a:Addr} {fd:FuncData} {x:Str} {sp:Sp} {s₁:Shared} {vs:List Value} {ns:List Int}
    (KX:K.In s₁.heap) (hns:s₁.heap.Ns mainGlobals mg) (hb:s₁.heap.Ns builtinsNs mb) (hbb:∀ x:Str,x≠"__name__"->mb x=bootBuiltins x) (hlim:s₁.heap.NoLimit) (hg:s₁.gens= #[])
    (ha:s₁.heap.get? a=some { cls:= .type "list",data:= .seq vs.toArray }) (hi:IntsAre vs ns) (hl:ns.length<=sizeLine) (hr:Room k callerA)
    (F:∀ base:Heap,K.In base->base.Ns mainGlobals mg->FnOk P w K mg base CX k fa fd [x] sp) (hbind:∀ (s:Shared) (u:Value),BindsTo s fd ⟨[u],[]⟩ [(x,u)])
    (hsp:∀ H:Hp,Mx H->SqL K H a (ns.map V.int)->sp [.ref a] H (λ v _=>v= .bl true) λ _ _ _=>False)
    (hCX:∀ H e s',CX [] H s₁ (λ _ _ _=>False) e s'->False):
    codeAny (model P w) callerA (.call (.ref fa) ⟨[.ref a],[]⟩) (λ r s'=>r= .ok (.ret (.bool true))/\OldK s₁.heap s'.heap/\s'.os=s₁.os/\AllBare s'.gens) s₁:=by
  have rv:=FI hi;have lenV:=hi.length;have core:∀ H:Hp,Mx H->SqL K H a (ns.map V.int)->HOk P w H s₁.heap->(∀ b,H b≠none->b=a)->(H a≠none->K.lookup a=none)->
      codeAny (model P w) callerA (.call (.ref fa) ⟨[.ref a],[]⟩) (λ r s'=>r= .ok (.ret (.bool true))/\OldK s₁.heap s'.heap/\s'.os=s₁.os/\AllBare s'.gens) s₁:=by
    intro H hO hS hok hA hK;have base_of:∀ {b:Addr} {o:Obj},s₁.heap.get? b=some o->H b=none->(FK s₁.heap H).get? b=some o:=λ e n=>JS e n;have noA:∀ {b:Addr} {o:Obj} {es:Array DictEntry} {ep:Nat},s₁.heap.get? b=some o->o.data= .dict es ep->H b=none:=λ {b o es ep} e d=>by
      cases q:H b with
      | none=>rfl
      | some u=>
        have e':b=a:=hA b (by rw [q];simp);subst e';rw [ha] at e;cases e;have d':Data.seq vs.toArray _=Data.dict es ep:=d;cases d'
    have nsK:∀ {b:Addr} {m:Str->Option Value},s₁.heap.Ns b m->(FK s₁.heap H).Ns b m:=λ {b m} ⟨o,es,ep,e,d,r⟩=>⟨o,es,ep,base_of e (noA e d),d,r⟩;have hKb:K.In (FK s₁.heap H):=λ b o e=>base_of (KX b o e) (by
      cases q:H b with
      | none=>rfl
      | some u=>
        have e':b=a:=hA b (by rw [q];simp);subst e';rw [hK (by rw [q];simp)] at e;cases e)
    have hM:Mod K mg (FK s₁.heap H):=⟨hKb,nsK hns,⟨mb,nsK hb,hbb⟩,let ⟨mc,h1,h2⟩:=hlim;⟨mc,nsK h1,h2⟩⟩;have e0:Env0 P w K mg (FK s₁.heap H) callerA [] s₁ H:=⟨rfl,hM,λ b o e=>Kl e,Nat.le_of_eq (Iz _ _),trivial,λ b hb=>absurd (show b∈([]:List Addr) from hb) (by simp),hok, .of_eq hg⟩;refine codeAny_mono ((F _ hKb (nsK hns)).run callerA [] s₁ H ⟨[.ref a],[]⟩ [.ref a] [.ref a] _ _ hr e0 (hbind s₁ (.ref a)) (.cons rfl .nil) (hsp H hO hS)) λ r s' h=> ?_;cases r with
    | error e=>exact (hCX H e s' h).elim
    | ok fl=>
      cases fl with
      | next=>exact False.elim h
      | brk=>exact False.elim h
      | cont=>exact False.elim h
      | ret u=>
        obtain ⟨v,H',os,bare,un,hok',r',q⟩:=h;have q':v= .bl true:=q;subst q';obtain rfl:u=Value.bool true:=r';refine ⟨rfl,OldK.of_keep λ b o e=> ?_,os,bare⟩;cases q:H b with
        | none=>exact un.keep b o e q (by intro z;exact absurd (show b∈([]:List Addr) from z) (by simp)) (by simp)
        | some u=>
          rcases hO b with z | ⟨ob,xs,z⟩
          · rw [q] at z;cases z
          · have z2:=un.frzs b ob _ z;obtain ⟨e1,_⟩:=hok b _ z;obtain ⟨e2,_⟩:=hok' b _ z2;rw [e] at e1;cases e1;exact e2
  cases hk:K.lookup a with
  | some o=>
    have e:=KX a o hk;rw [ha] at e;cases e;refine core (λ _=>none) (λ _=> .inl rfl) (.inr ⟨_,vs.toArray,_,hk,rfl,rfl,rfl,by rw [List.size_toArray,lenV];exact hl,by simpa using rv⟩) (λ b u z=>by have z':(none:Option HO)=some u:=z;cases z') (λ b z=>absurd rfl z) λ z=>absurd rfl z
  | none=>
    refine core (λ b=>if b=a then some (.frz { cls:= .type "list",data:= .seq vs.toArray } (.lst (ns.map V.int))) else none) (λ b=> ?_) (.inl (.inr ⟨{ cls:= .type "list",data:= .seq vs.toArray },if_pos rfl⟩)) (λ b u z=> ?_) (λ b z=> ?_) λ _=>hk
    · by_cases hb:b=a
      · exact .inr ⟨_,_,if_pos hb⟩
      · exact .inl (if_neg hb)
    · by_cases hb:b=a
      · have z':=(if_pos hb).symm.trans z;cases z';subst hb;exact ⟨ha,by rw [List.length_map];exact hl,vs,_,rv,ha⟩
      · have z':=(if_neg hb).symm.trans z;cases z'
    · by_cases hb:b=a
      · exact hb
      · exact absurd (if_neg hb) z
theorem walk_of {l:PySem.W.OpenLaw} {n k:Nat} {q:Program} {loose:List Str} {XP:(Str->Option Value)->Heap->Prop} {YP:World->Heap->Prop} {d:DefRec} {K:Params->PySem.W.Frag} {CX:World->CXT} {sp:World->Sp} {x:Str}
    (hn:l.most=some n) (hn2:n<=sizeLine) (hdf:d.params.defaults=[]) (hr:Room k callerA)
    (hY:∀ (w:World) (h:Heap),YP w h->(K w.params).In h)
    (F:∀ (w:World) (mg:Str->Option Value) (fa:Addr) (h:Heap),(K w.params).In h->h.Ns mainGlobals mg->mg d.name=some (.ref fa)->
      ∃ fd:FuncData,(∀ (s:Shared) (u:Value),BindsTo s fd ⟨[u],[]⟩ [(x,u)])/\
        ∀ base:Heap,(K w.params).In base->base.Ns mainGlobals mg->FnOk l.prog w (K w.params) mg base (CX w) k fa fd [x] (sp w))
    (hsp:∀ (w:World) (H:Hp) (a:Addr) (ns:List Int),ns.length<=n->Mx H->SqL (K w.params) H a (ns.map V.int)->sp w [.ref a] H (λ v _=>v= .bl true) λ _ _ _=>False)
    (hCX:∀ (w:World) (H:Hp) (s:Shared) (e:Value) (s':Shared),CX w [] H s (λ _ _ _=>False) e s'->False):
    PySem.W.WalkO q loose XP YP l.row.toRowW d [] (λ f vs=>PySem.call f vs):=by
  refine Att.attach_call hn hdf λ w s₀ s₁ mg mb fa o pm cd doc a vs ns G Y ho hd hcd hmg hobj hints hlen hg=> ?_;have KX:=hY w _ Y;obtain ⟨fd,hb,hF⟩:=F w mg fa _ KX G.T.g hmg;exact IP KX G.T.g G.T.b G.T.builtins G.T.nolimit hg hobj hints (Nat.le_trans hlen hn2) hr hF hb (λ H hO hS=>hsp w H a ns hlen hO hS) λ H e s'=>hCX w H s₁ e s'
abbrev CX0:CXT:=λ _ _ _ _ _ _=>False
abbrev E0:XK:=λ _ _ _=>False
theorem HK {X:Cx}:CZ CX0 X E0:=λ _ _ _ _ _ _ _ h=>h.elim
structure Fun (K:PySem.W.Frag) (x qual:Str) (st:Stmt) (f:Addr) (fd:FuncData):Prop where
  ex:∃ (oc:Value) (od:Option Addr) (kV doc pm:Value) (an:Option Addr) (cdv ct:Value) (osl:Array (Option Value)),
    fd=PySem.W.fnOf x qual (Ec st) (Dk st) (Ah st) .none kV doc pm an cdv ct/\K.lookup f=some ⟨oc,od, .func fd,osl⟩/\PySem.W.codeIn K cdv qual=true
  kp:PySem.W.keepIn K (.ref f)=true
section
variable {P:Program} {w:World} {K:PySem.W.Frag} {mg:Str->Option Value} {base:Heap}
theorem Fun.ok {x qual:Str} {st:Stmt} {f:Addr} {fd:FuncData} {N ps:List Str} {k:Nat} {sp:Sp} (F:Fun K x qual st f fd) (S:FnScope N ps (Ah st)) (len:∀ vs H Q E,sp vs H Q E->vs.length=ps.length)
    (hbody:∀ (cdv:Value) (A:Around) (outer:List Env) (s:Shared) (H:Hp) (vs:List V) (Q:VK) (E:XK),Room k (A.deeper (envOfC qual (Ah st) s.heap.objs.size f cdv))->sp vs H Q E->
      ∃ t,PSs (IF CX0 P w K mg base N qual (Ah st) f cdv A outer s H E).nox (Dk st) t/\t { nx:=λ _ H'=>Q .non H',rt:=Q } (start N vs) H):FnOk P w K mg base CX0 (k+1) f fd ps sp:=by
  obtain ⟨oc,od,kV,doc,pm,an,cdv,ct,osl,rfl,lk,hcd⟩:=F.ex;refine M8 lk hcd S len λ A outer s H vs Q E hr hsp=> ?_;obtain ⟨t,h,q⟩:=hbody cdv A outer s H vs Q E hr hsp;exact ⟨t,h.nox,q⟩
theorem fun_mk {x qual:Str} {st:Stmt} {f:Addr} {oc:Value} {od an:Option Addr} {osl:Array (Option Value)} {kV doc pm cdv ct:Value} (l:K.lookup f=some ⟨oc,od, .func (PySem.W.fnOf x qual (Ec st) (Dk st) (Ah st) .none kV doc pm an cdv ct),osl⟩)
    (c:PySem.W.codeIn K cdv qual=true) (k:PySem.W.keepIn K (.ref f)=true):Fun K x qual st f (PySem.W.fnOf x qual (Ec st) (Dk st) (Ah st) .none kV doc pm an cdv ct):=⟨⟨oc,od,kV,doc,pm,an,cdv,ct,osl,rfl,l,c⟩,k⟩
end
section
variable {X:Cx}
theorem pv (i:Nat) {x:Str} {pos:Pos} (hN:X.N[i]?=some x:=by rfl) (hv:Vis X.env.scope x:=by first | exact Or.inl rfl | exact Or.inr (Or.inl rfl) | exact Or.inr (Or.inr rfl)) (hd:(x == ("__debug__":Str))=false:=by decide)
    (hcd:(x == ("__classdict__":Str))=false:=by decide):PE X (.Name x pos) (Mi i):=LJ hN hv hd hcd
end
theorem GF {A B:Prop} (h:B):if false=true then A else B:=by
  rw [if_neg Bool.false_ne_true];exact h
theorem Jr {A B:Prop} (h:A):if true=true then A else B:=by
  rw [if_pos rfl];exact h
def Same (H H':Hp):Prop:=∀ b o,H b=some o->H' b=some o
theorem Same.refl (H:Hp):Same H H:=λ _ _ h=>h
theorem Same.trans {H H1 H2:Hp} (a:Same H H1) (b:Same H1 H2):Same H H2:=λ c o h=>b c o (a c o h)
theorem Same.free {H H':Hp} (e:Same H H') {l:Addr} (h:H' l=Option.none):H l=Option.none:=by
  cases q:H l with
  | none=>rfl
  | some o=>
    rw [e l o q] at h;cases h
theorem Same.seq {K:PySem.W.Frag} {H H':Hp} {a:Addr} {xs:List V} (e:Same H H') (h:SqL K H a xs):SqL K H' a xs:=by
  rcases h with (h | ⟨o,h⟩) | h
  · exact .inl (.inl (e _ _ h))
  · exact .inl (.inr ⟨o,e _ _ h⟩)
  · exact .inr h
section
variable {κ:Type} [DecidableEq κ]
theorem KV.any {kvs:List (κ × V)} {vs:List (κ × Value)} (r:KV kvs vs) (k:κ):(kvs.any λ kv=>decide (kv.1=k))=vs.any λ kv=>decide (kv.1=k):=by
  unfold KV at r
  induction r with
  | nil=>rfl
  | cons h t ih=>rw [List.any_cons,List.any_cons,ih,h.1]
theorem KV.length {kvs:List (κ × V)} {vs:List (κ × Value)} (r:KV kvs vs):kvs.length=vs.length:=Paired.length r
end
section
variable {P:Program} {w:World} {H:Hp} {h:Heap} {a:Addr}
end
section
variable {X:Cx} {pins:List (Addr × Obj)} {σ:St} {H:Hp} {s:Shared} {a:Addr} {y v:V} {u r:Value} {o:Option V} {A:Around} {E:Value->Shared->Prop}
end
section
variable {X:Cx} {pins:List (Addr × Obj)} {σ:St} {H:Hp} {s:Shared} {a:Addr} {kvs:List (Key × V)} {k:Key} {u:Value} {A:Around} {E:Value->Shared->Prop}
end
section
variable {X:Cx} {o i e value:Expr} {pos pos' tpos:Pos} {td ty tv:TE}
end
section
variable {X:Cx} {pos:Pos}
end
section
variable {X:Cx} {pins:List (Addr × Obj)} {σ:St} {H:Hp} {s:Shared} {a:Addr} {y d:V} {u r:Value} {o:Option V} {A:Around} {E:Value->Shared->Prop}
end
section
variable {X:Cx} {o e f:Expr} {apos cpos:Pos} {td ty tx:TE}
end
section
variable {X:Cx} {pins:List (Addr × Obj)} {σ:St} {H:Hp} {s:Shared} {a:Addr} {kvs:List (Key × V)} {A:Around} {E:Value->Shared->Prop}
end
section
variable {X:Cx} {pins:List (Addr × Obj)} {σ:St} {H:Hp} {s:Shared} {a:Addr} {y:V} {u:Value} {A:Around} {E:Value->Shared->Prop}
end
section
variable {P:Program} {w:World} {K:PySem.W.Frag} {mg:Str->Option Value} {base:Heap}
end
section
variable {X:Cx}
end
section
variable {κ:Type} [DecidableEq κ]
end
def AG (cells:List (Str × Addr)):List (Str × NameKind)->List (Str × Addr)->List (Str × Addr)
  | [],acc=>acc
  | (n,k)::r,acc=>AG cells r (if k= .free then (match cells.lookup n with | some a=>(n,a)::acc | none=>acc) else acc)
theorem CD {env:Env}:∀ (names:List (Str × NameKind)) (acc:List (Str × Addr)),(∀ y∈names,y.2= .free->∃ c,env.cells.lookup y.1=some c)->
    (forIn names acc λ (x:Str × NameKind) (r:List (Str × Addr))=>
      (if (x.2 == NameKind.free)=true then (do let a <-cellOf env x.1;pure (ForInStep.yield ((x.1,a)::r))) else pure (ForInStep.yield r):Sem (ForInStep (List (Str × Addr)))))=(pure (AG env.cells names acc):Sem (List (Str × Addr)))
  | [],acc,_=>rfl
  | (n,k)::rest,acc,h=>by
    rw [List.forIn_cons];have ih:=λ acc'=>CD (env:=env) rest acc' λ y hy=>h y (List.mem_cons_of_mem _ hy);by_cases hk:k= .free
    · subst hk;obtain ⟨c,hc⟩:=h (n, .free) List.mem_cons_self rfl;have hc:env.cells.lookup n=some c:=hc;have e:cellOf env n=pure c:=by unfold cellOf;rw [hc]
      simp only [beq_self_eq_true,if_true,e,pure_bind,AG,hc];exact ih _
    · have hb:(k == NameKind.free)=false:=by simpa using hk
      simp only [hb,Bool.false_eq_true,if_false,pure_bind,AG,if_neg hk];exact ih _
theorem CK {env:Env} {scope:Scope} (h:∀ y∈scope.names,y.2= .free->∃ c,env.cells.lookup y.1=some c):closureFor scope env=pure (AG env.cells scope.names []):=by
  have e:=CD (env:=env) scope.names [] h;unfold closureFor;simp only [bind_pure_comp,bind_pure,map_pure] at*;exact e
theorem El {cells:List (Str × Addr)}:∀ (names:List (Str × NameKind)) (acc:List (Str × Addr)),(∀ x c,acc.lookup x=some c->cells.lookup x=some c)->∀ x c,(AG cells names acc).lookup x=some c->cells.lookup x=some c
  | [],acc,h,x,c,e=>h x c e
  | (n,k)::r,acc,h,x,c,e=>by
    refine El r _ ?_ x c e;intro y d q;split at q
    · split at q
      · rename_i a ha
        rw [List.lookup_cons] at q;split at q
        · rename_i hy
          cases q;rw [eq_of_beq hy];exact ha
        · exact h y d q
      · exact h y d q
    · exact h y d q
theorem Ep {cells:List (Str × Addr)}:∀ (names:List (Str × NameKind)) (acc:List (Str × Addr)) (x:Str),(((x,NameKind.free)∈names/\∃ c,cells.lookup x=some c)\/∃ c,acc.lookup x=some c)->∃ c,(AG cells names acc).lookup x=some c
  | [],acc,x,h=>by
    rcases h with ⟨h,_⟩ | h
    · cases h
    · exact h
  | (n,k)::r,acc,x,h=>by
    refine Ep r _ x ?_;have up:(∃ c,acc.lookup x=some c)->∃ c,(if k= .free then (match cells.lookup n with | some a=>(n,a)::acc | none=>acc) else acc).lookup x=some c:=by
      rintro ⟨c,hc⟩;split
      · split
        · rename_i a ha
          rw [List.lookup_cons];split
          · exact ⟨_,rfl⟩
          · exact ⟨c,hc⟩
        · exact ⟨c,hc⟩
      · exact ⟨c,hc⟩
    rcases h with ⟨h,c,hc⟩ | h
    · rcases List.mem_cons.mp h with e | e
      · cases e;right;refine ⟨c,?_⟩;rw [if_pos rfl,hc,List.lookup_cons,beq_self_eq_true]
      · exact .inl ⟨e,c,hc⟩
    · exact .inr (up h)
theorem ET (env:Env) (x:Str):∀ names:List (Str × NameKind),
    (names.map λ (n,k)=>if (k == NameKind.free&&env.scope.kind == .function&&env.kindOf n == some .cell) then (n,NameKind.cell) else (n,k)).lookup x=
      (names.lookup x).map λ k=>if (k == NameKind.free&&env.scope.kind == .function&&env.kindOf x == some .cell)=true then NameKind.cell else k
  | []=>rfl
  | (n,k)::r=>by
    have ih:=ET env x r;show List.lookup x ((if (k == NameKind.free&&env.scope.kind == .function&&env.kindOf n == some .cell)=true then (n,NameKind.cell) else (n,k))::_)=_;cases hx:x == n with
    | true=>
      have e:x=n:=eq_of_beq hx;subst e;by_cases hc:(k == NameKind.free&&env.scope.kind == .function&&env.kindOf x == some .cell)=true
      · rw [if_pos hc,List.lookup_cons,List.lookup_cons,beq_self_eq_true];simp only [Option.map_some,if_pos hc]
      · rw [if_neg hc,List.lookup_cons,List.lookup_cons,beq_self_eq_true];simp only [Option.map_some,if_neg hc]
    | false=>
      have e:(List.lookup x ((n,k)::r))=List.lookup x r:=by rw [List.lookup_cons,hx]
      rw [e, <-ih];split <;> rw [List.lookup_cons,hx]
structure BlkScope (X:Cx) (scope:Scope) (own:List Str) (fr:List (Str × Nat)):Prop where
  kind:scope.kind= .function
  nocell:∀ y∈scope.names,y.2≠ .cell
  loc:∀ y∈scope.names,y.2= .local->scope.names.lookup y.1=some .local
  free:∀ y∈scope.names,y.2= .free->(X.env.scope.names.lookup y.1=some .cell\/X.env.scope.names.lookup y.1=some .free)
  fr:∀ p∈fr,X.N[p.2]?=some p.1/\(p.1,NameKind.free)∈scope.names
  only:∀ x,(x,NameKind.free)∈scope.names->scope.names.lookup x=some .free
def AI (X:Cx) (scope:Scope) (own:List Str) (fr:List (Str × Nat)) (C:Addr) (ex:List Addr) (s:Shared) (H:Hp):Cx where
  prog:=X.prog
  w:=X.w
  K:=X.K
  mg:=X.mg
  base:=X.base
  A:=X.A
  N:=own++fr.map (·.1)
  s₀:=s
  H₀:=H
  env:=compEnvC scope (AG X.env.cells scope.names []) C X.env
  outer:=X.stack
  stack:=X.stack
  ex:=ex
  fn:=λ _=>false
  calm:=X.calm
  pn:=[]
  xe:=λ _ _=>False
def Ds (own:List Str) (fr:List (Str × Nat)) (σ:St):St:=own.map (λ _=>none)++fr.map (λ p=>(σ[p.2]?).getD none)
section
variable {X:Cx} {pins:List (Addr × Obj)} {σ:St} {H:Hp} {s:Shared} {scope:Scope} {own:List Str} {fr:List (Str × Nat)} {fp:List Addr}
theorem BlkScope.cells (S:BlkScope X scope own fr) (ok:X.Ok):∀ y∈scope.names,y.2= .free->∃ c,X.env.cells.lookup y.1=some c:=λ y hy e=>ok.has y.1 (S.free y hy e)
theorem Inv.block {h':Heap} {t':Nat} {m:Str->Option Value} (I:Inv X pins σ H s) (S:BlkScope X scope own fr) (hf:∀ b∈fp,B0 X pins H b) (hlt:∀ b∈fp,b<s.heap.objs.size)
    (hns:h'.Ns s.heap.objs.size m) (k:∀ b o,s.heap.get? b=some o->h'.get? b=some o):
    Inv (AI X scope own fr s.heap.objs.size fp s H) [] (Ds own fr σ) H { s with heap:=h',toks:=t' }:=by
  have cs:∀ x c,(AG X.env.cells scope.names []).lookup x=some c->X.env.cells.lookup x=some c:=El _ _ (λ _ _ e=>by simp at e);have ck:∀ c v,s.heap.IsCell c v->h'.IsCell c v:=λ c v ⟨o,ho,hd⟩=>⟨o,k _ _ ho,hd⟩;have kf:∀ x,(x,NameKind.free)∈scope.names->∃ c,X.env.cells.lookup x=some c/\(AG X.env.cells scope.names []).lookup x=some c:=λ x hx=>by
    obtain ⟨c0,e0⟩:=S.cells I.ok (x, .free) hx rfl;obtain ⟨c,e⟩:=Ep (cells:=X.env.cells) scope.names [] x (.inl ⟨hx,c0,e0⟩);exact ⟨c,cs _ _ e,e⟩
  have rel:∀ x,(compEnvC scope (AG X.env.cells scope.names []) s.heap.objs.size X.env).kindOf x=(scope.names.lookup x).map λ k=>if (k == NameKind.free&&X.env.scope.kind == .function&&X.env.kindOf x == some .cell)=true then NameKind.cell else k:=λ x=>ET X.env x scope.names
  have nc:∀ x,scope.names.lookup x≠some .cell:=λ x e=>S.nocell _ (PySem.mem_of_lookup e) rfl;refine ⟨⟨I.ok.mod,S.kind,I.ok.glob,I.ok.blt,Nat.le_refl _,λ x y c e1 e2=>I.ok.inj x y c (cs _ _ e1) (cs _ _ e2),λ x hx=> ?_,λ x c e _=>(nomatch e),I.ok.hd,I.ok.frames, .inl rfl,
    λ b hb=>⟨Nat.ne_of_lt (hlt b hb),λ x c e=>(hf b hb).2.2.2.2.1 x c (cs _ _ e)⟩,I.bs,Nat.le_trans I.ok.bsz I.sz,λ b o e hb=> ?_,λ b hb z=>(List.mem_cons.mp (I.stkSub b z)).elim (hf b hb).2.1 (hf b hb).2.2.1,I.stack,I.stkFree⟩,
    rfl,I.bare,Un.kept k,⟨m,hns,λ i x v e1 e2 e3=> ?_⟩,λ x c e=> ?_,I.hok.fresh (Nat.le_refl _),λ x c e=>I.freeC x c (cs _ _ e),λ p hp=>absurd (show p∈([]:List (Addr × Obj)) from hp) (by simp),I.hok.kept k,?_⟩
  · have hx:(compEnvC scope (AG X.env.cells scope.names []) s.heap.objs.size X.env).kindOf x=some .cell\/(compEnvC scope (AG X.env.cells scope.names []) s.heap.objs.size X.env).kindOf x=some .free:=hx;rw [rel x] at hx;have q:scope.names.lookup x=some .free:=by
      cases e:scope.names.lookup x with
      | none=>rw [e] at hx;simp at hx
      | some kk=>
        rw [e] at hx;simp only [Option.map_some,Option.some.injEq] at hx;by_cases hk:kk= .free
        · rw [hk]
        · have hb:(kk == NameKind.free)=false:=by simpa using hk
          simp only [hb,Bool.false_and,Bool.false_eq_true,if_false] at hx;rcases hx with hx | hx
          · rw [hx] at e;exact absurd e (nc x)
          · exact absurd hx hk
    obtain ⟨c,_,e⟩:=kf x (PySem.mem_of_lookup q);exact ⟨c,e⟩
  · rcases (hf b hb).2.2.2.1 with z | z
    · exact I.ok.noex b o e z
    · exact absurd (Nat.lt_of_lt_of_le (Heap.lt_size (I.ok.bs b o e).1) z) (Nat.lt_irrefl _)
  · have e1:(own++fr.map (·.1))[i]?=some x:=e1;have e2:(Ds own fr σ)[i]?=some (some v):=e2;unfold Ds at e2;by_cases hi:i<own.length
    · rw [List.getElem?_append_left (by simpa using hi),List.getElem?_map] at e2;rw [List.getElem?_eq_getElem hi] at e2;simp at e2
    · rw [List.getElem?_append_right (by simpa using hi),List.getElem?_map,List.length_map] at e2;rw [List.getElem?_append_right (by omega),List.getElem?_map] at e1;cases ep:fr[i - own.length]? with
      | none=>rw [ep] at e1;simp at e1
      | some p=>
        rw [ep] at e1 e2;simp only [Option.map_some,Option.some.injEq] at e1 e2;subst e1;obtain ⟨h1,h2⟩:=S.fr p (List.mem_of_getElem? ep);have e4:σ[p.2]?=some (some v):=by
          cases q:σ[p.2]? with
          | none=>rw [q] at e2;simp at e2
          | some z=>rw [q] at e2;simp at e2;rw [e2]
        have kx:=S.free _ h2 rfl;obtain ⟨m0,hn0,hl0⟩:=I.loc;obtain ⟨u,r,l⟩:=hl0 p.2 p.1 v h1 e4 (kx.elim (λ z=> .inr (.inl z)) λ z=> .inr (.inr z));refine ⟨u,r,?_⟩;rcases l with ⟨z,_⟩ | ⟨_,c,hc,hcell⟩
        · have z:X.env.scope.names.lookup p.1=some .local:=z;rcases kx with y | y <;> (rw [y] at z;cases z)
        · obtain ⟨c',q1,q2⟩:=kf p.1 h2;rw [hc] at q1;cases q1;refine .inr ⟨?_,c,q2,ck _ _ hcell⟩;show (compEnvC scope (AG X.env.cells scope.names []) s.heap.objs.size X.env).kindOf p.1=some .cell\/(compEnvC scope (AG X.env.cells scope.names []) s.heap.objs.size X.env).kindOf p.1=some .free;have e3:(compEnvC scope (AG X.env.cells scope.names []) s.heap.objs.size X.env).kindOf p.1=some .local\/(compEnvC scope (AG X.env.cells scope.names []) s.heap.objs.size X.env).kindOf p.1=some .cell\/(compEnvC scope (AG X.env.cells scope.names []) s.heap.objs.size X.env).kindOf p.1=some .free:=e3;rcases e3 with e3 | e3
          · exfalso;rw [rel] at e3;cases e:scope.names.lookup p.1 with
            | none=>rw [e] at e3;cases e3
            | some kk=>
              rw [e] at e3;simp only [Option.map_some,Option.some.injEq] at e3;by_cases hk:kk= .free
              · subst hk;split at e3 <;> cases e3
              · have hb:(kk == NameKind.free)=false:=by simpa using hk
                simp only [hb,Bool.false_and,Bool.false_eq_true,if_false] at e3;subst e3;have:=S.only p.1 h2;rw [this] at e;cases e
          · exact e3
  · obtain ⟨v,z⟩:=I.cell x c (cs _ _ e);exact ⟨v,ck _ _ z⟩
  · unfold Ds;show _=(own++fr.map (·.1)).length;simp
end
theorem GB {prog:Program} {w:World} {A:Around} {R:Result->Shared->Prop} {s:Shared} {elt target iter:Expr} {ifs:List Expr} {scope:Scope} {pos:Pos} {it acc:Value} {env:Env} (I:Nat->Shared->Prop)
    (turn:∀ n s,I n s->wpAny (model prog w) A (pyNext it) (λ r s₁=>match r with
      | none=>R (.ok .next) s₁
      | some v=>wpAny (model prog w) A (letOwnedTupleGo target it v) (λ _ s₁'=>wpAny (model prog w) A (assign target env v) (λ _ s₂=>
          wpAny (model prog w) A (forIn ifs true λ c r=>if r=true then do let ok <-isTrue c env (eval c env);pure (ForInStep.yield ok) else pure (ForInStep.yield r)) (λ ok s₃=>
            if ok=true then wpAny (model prog w) A (eval elt env) (λ x s₄=>
              wpAny (model prog w) A (call (.builtin "list.append") [acc,x]) (λ _ s₅=>∃ m,m<n/\I m s₅) (λ _ _=>False) s₄) (λ _ _=>False) s₃
            else ∃ m,m<n/\I m s₃) (λ _ _=>False) s₂) (λ _ _=>False) s₁') (λ _ _=>False) s₁) (λ _ _=>False) s)
    (n:Nat) (h:I n s):codeAny (model prog w) A (.compLoop (.ListComp elt [⟨target,iter,ifs,0⟩] scope pos) 0 it acc env) R s:=by
  refine codeAny_loop rfl I (λ n s hI=> ?_) n h;show wpAny _ A ((compTurn (.ListComp elt [⟨target,iter,ifs,0⟩] scope pos) 0 it acc env).onRaise (λ x=>do noteFrame x env;theTreesLotGoes x)) _ _ s;refine wpAny_noted ?_;rw [compTurn_list];refine wpAny_bind (wpAny_standAt (wpAny_bind (wpAny_mono (turn n s hI) (λ r s₁ h₁=> ?_) λ _ _ f=>f.elim)));cases r with
  | none=>exact wpAny_pure h₁
  | some v=>
    refine wpAny_bind (wpAny_mono h₁ (λ _ s₁' h₁'=>wpAny_bind (wpAny_mono h₁' (λ _ s₂ h₂=>wpAny_bind (wpAny_mono h₂ (λ ok s₃ h₃=> ?_) λ _ _ f=>f.elim)) λ _ _ f=>f.elim)) λ _ _ f=>f.elim);cases ok with
    | false=>exact wpAny_pure ⟨rfl,h₃⟩
    | true=>
      exact wpAny_bind (wpAny_bind (wpAny_mono h₃ (λ x s₄ h₄=>wpAny_bind (wpAny_mono h₄ (λ _ s₅ h₅=>wpAny_pure (wpAny_pure ⟨rfl,h₅⟩)) λ _ _ f=>f.elim)) λ _ _ f=>f.elim))
section
variable {X:Cx}
def PTs (X:Cx) (ifs:List Expr) (tc:TT):Prop:=
  ∀ (pins:List (Addr × Obj)) (s:Shared) (σ:St) (H:Hp) (Q:Bool->Hp->Prop),Inv X pins σ H s->tc σ H Q->
    wpAny (model X.prog X.w) X.A (forIn ifs true λ c r=>if r=true then do let ok <-isTrue c X.env (eval c X.env);pure (ForInStep.yield ok) else pure (ForInStep.yield r)) (TP X pins σ Q) X.xe s
def Ip:TT:=λ _ H Q=>Q true H
theorem Al:PTs X [] Ip:=λ _ _ _ H _ I h=>wpAny_tests_nil ⟨H,I,h⟩
theorem F8 {c:Expr} {tc:TT} (h:PT X c tc):PTs X [c] tc:=λ pins s σ H Q I q=>wpAny_tests_one (h pins s σ H Q I q)
def Kp (σ0 σ:St):Prop:=σ.length=σ0.length/\∀ (i:Nat) (v:V),σ0[i]?=some (some v)->σ[i]?=some (some v)
theorem Kp.refl (σ:St):Kp σ σ:=⟨rfl,λ _ _ h=>h⟩
theorem Kp.set {σ0 σ:St} {i:Nat} {v:V} (k:Kp σ0 σ) (h:σ0[i]?=some none):Kp σ0 (σ.set i (some v)):=by
  refine ⟨by rw [List.length_set];exact k.1,λ j u e=> ?_⟩;by_cases hj:i=j
  · subst hj;rw [h] at e;cases e
  · rw [List.getElem?_set_ne hj];exact k.2 j u e
def CN (J:It) (σ0:St) (g:TG) (tc:TT) (te:TE) (Q:VK) (H1:Hp) (D:Addr):Prop:=
  ∃ W:Nat->Nat->List V->Hp->Prop,(∃ m,W 0 m [] (upd H1 D (.lst [])))/\∀ i m ys H,W i m ys H->
    (J.stop i H/\Q (.ref D) H)\/(J.go i H/\∃ N:List V->Hp->Prop,(∀ ys' H',N ys' H'->∃ m',m'<m/\W (i+1) m' ys' H')/\∀ x H',J.yld i H x H'->g x σ0 H' λ σ2 H2=>Kp σ0 σ2/\tc σ2 H2 λ b H3=>
      if b=true then te σ2 H3 λ y H4=>H4 D=some (.lst ys)/\ys.length<sizeLine/\N (ys++[y]) (upd H4 D (.lst (ys++[y]))) else N ys H3)
def Ej (wi:TI) (own:List Str) (fr:List (Str × Nat)) (g:TG) (tc:TT) (te:TE):TE:=λ σ H Q=>wi σ H λ J H1=>∀ D,H1 D=none->CN J (Ds own fr σ) g tc te Q H1 D
theorem Gp {elt tg iter:Expr} {ifs:List Expr} {scope:Scope} {pos:Pos} {own:List Str} {fr:List (Str × Nat)} {g:TG} {tc:TT} {te:TE} (hc:X.calm=true) (S:BlkScope X scope own fr)
    (hg:∀ C ex s H,PG (AI X scope own fr C ex s H) tg g) (ht:∀ C ex s H,PTs (AI X scope own fr C ex s H) ifs tc) (he:∀ C ex s H,PE (AI X scope own fr C ex s H) elt te)
    {pins:List (Addr × Obj)} {σ:St} {H:Hp} {s:Shared} {it:Addr} {fp:List Addr} {tn:Nat->Heap->Prop} {J:It} {E:Value->Shared->Prop}
    (I:Inv X pins σ H s) (T:Turn X.prog X.w X.K tg J fp it tn) (st:tn 0 s.heap) (hf:∀ b∈fp,B0 X pins H b) {Q:VK}
    (h:∀ D,H D=none->CN J (Ds own fr σ) g tc te Q H D)
    {RR:Value->Addr->Result->Shared->Prop}
    (hR:∀ D C H' s',Inv X pins σ H' s'->(∃ m,s'.heap.Ns C m)->B0 X pins H' C->Q (.ref D) H'->RR (.ref D) C (.ok .next) s'):
    wpAny (model X.prog X.w) X.A (newList []) (λ acc s₃=>wpAny (model X.prog X.w) X.A (newFunctionEnv scope X.env.globals (AG X.env.cells scope.names []) [] X.env.qual none .none (some X.env)) (λ cenv s₄=>
      codeAny (model X.prog X.w) X.A (.compStart (.ListComp elt [⟨tg,iter,ifs,0⟩] scope pos) 0 (.ref it) acc { cenv with scope:=relabel scope X.env }) (RR acc cenv.locals) s₄) E s₃) E s:=by
  have hDn:H s.heap.objs.size=none:=I.fresh;obtain ⟨W,⟨m0,w0⟩,turn⟩:=h s.heap.objs.size hDn;have I3:Inv X pins σ (upd H s.heap.objs.size (.lst [])) { s with heap:=s.heap.push { cls:= .type "list",data:= .seq ([]:List Value).toArray },toks:=s.toks }:=I.lnew .nil (Nat.zero_le _);refine wpAny_newObj_type ?_;generalize hs3:({ s with heap:=s.heap.push { cls:= .type "list",data:= .seq ([]:List Value).toArray } }:Shared)=s3 at I3 ⊢;have I3:Inv X pins σ (upd H s.heap.objs.size (.lst [])) s3:=I3;have old3:∀ b o,s.heap.get? b=some o->s3.heap.get? b=some o:=λ b o e=>by rw [<-hs3];exact Heap.get?_push_of_some _ e
  have hobj:∀ b∈fp,∃ o,s.heap.get? b=some o/\∀ v,o.data≠ .cell v:=T.obj 0 _ st;have hne:∀ b∈fp,b≠s.heap.objs.size:=λ b hb=>by obtain ⟨o,e,_⟩:=hobj b hb;exact Nat.ne_of_lt (Heap.lt_size e)
  have hf3:∀ b∈fp,B0 X pins (upd H s.heap.objs.size (.lst [])) b:=λ b hb=>⟨by rw [Ao (hne b hb)];exact (hf b hb).1,(hf b hb).2⟩;have hlt3:∀ b∈fp,b<s3.heap.objs.size:=λ b hb=>by obtain ⟨o,e,_⟩:=hobj b hb;exact Heap.lt_size (old3 b o e)
  refine wpAny_newFunctionEnv S.nocell (by intro y hy;simp at hy) (λ h₁ hns hsb=> ?_) S.kind;have keep:∀ b o,s3.heap.get? b=some o->h₁.get? b=some o:=λ b o e=>hsb.extBut b o (Nat.ne_of_lt (Heap.lt_size e)) (Heap.get?_push_of_some _ e);have J0:=I3.block (t':=s3.toks+([]:List (Str × Value)).length) S hf3 hlt3 hns keep;have st3:tn 0 h₁:=T.keep 0 _ _ st λ b hb o e=>keep b o (old3 b o e);have loop:codeAny (model X.prog X.w) X.A (.compLoop (.ListComp elt [⟨tg,iter,ifs,0⟩] scope pos) 0 (.ref it) (.ref s.heap.objs.size) (compEnvC scope (AG X.env.cells scope.names []) s3.heap.objs.size X.env))
      (RR (.ref s.heap.objs.size) s3.heap.objs.size) { s3 with heap:=h₁,toks:=s3.toks+([]:List (Str × Value)).length }:=by
    have stat:∀ {H':Hp},(∀ b∈fp,H' b=none)->∀ b∈fp,B0 (AI X scope own fr s3.heap.objs.size fp s3 (upd H s.heap.objs.size (.lst []))) [] H' b:=λ {H'} hn b hb=>
      ⟨hn b hb,Nat.ne_of_lt (hlt3 b hb),J0.ok.exfs b hb, .inl hb,(J0.ok.exf b hb).2,λ p hp=>absurd (show p∈([]:List (Addr × Obj)) from hp) (by simp)⟩
    refine GB (λ n s'=>∃ i ys H',Inv (AI X scope own fr s3.heap.objs.size fp s3 (upd H s.heap.objs.size (.lst []))) [] (Ds own fr σ) H' s'/\tn i s'.heap/\(∀ b∈fp,H' b=none)/\W i n ys H') ?_ m0
      ⟨0,[],_,J0,st3,λ b hb=>(hf3 b hb).1,w0⟩
    rintro n s4 ⟨i,ys,H4,I4,st4,fr4,w4⟩;rcases turn i n ys H4 w4 with ⟨stop,q⟩ | ⟨go,N,hN,step⟩
    · refine thn (T.done (AI X scope own fr s3.heap.objs.size fp s3 (upd H s.heap.objs.size (.lst []))) rfl rfl rfl hc i [] s4 _ H4 (λ _ _=>False) I4 (stat fr4) st4 stop) λ r s5 ⟨hr,I5⟩=> ?_;subst hr;obtain ⟨m,hn,_⟩:=id I5.loc;exact hR _ _ H4 s5 (I3.call' I5.os I5.base I5.hok I5.bare λ b hb=>⟨(hf3 b hb).2.2.2.1,(hf3 b hb).2.1,(hf3 b hb).2.2.2.2.1,(hf3 b hb).2.2.2.2.2⟩) ⟨m,hn⟩ (I3.fpOk (Nat.le_refl _) I5.free) q
    · refine thn (T.item (AI X scope own fr s3.heap.objs.size fp s3 (upd H s.heap.objs.size (.lst []))) rfl rfl rfl hc i [] s4 _ H4 (λ _ _=>False) I4 (stat fr4) st4 go) λ r s5 ⟨u,hr,h5⟩=> ?_;subst hr;refine thn h5 λ _ s6 ⟨x,H6,I6,r6,y6,st6,fr6⟩=> ?_;have I6':=I6.pinned (stat fr6) (T.obj _ _ st6);refine thn (hg _ _ _ _ _ s6 _ H6 x u _ I6' r6 (step x H6 y6)) λ _ s7 ⟨σ7,H7,I7,kp,q7⟩=> ?_;refine thn (ht _ _ _ _ _ s7 σ7 H7 _ I7 q7) λ b s8 ⟨H8,I8,q8⟩=> ?_;have again:∀ {s9:Shared} {H9:Hp} {ys':List V},Inv (AI X scope own fr s3.heap.objs.size fp s3 (upd H s.heap.objs.size (.lst []))) ([]++EF fp s6.heap) σ7 H9 s9->N ys' H9->
          ∃ m,m<n/\∃ i ys H',Inv (AI X scope own fr s3.heap.objs.size fp s3 (upd H s.heap.objs.size (.lst []))) [] (Ds own fr σ) H' s9/\tn i s9.heap/\(∀ b∈fp,H' b=none)/\W i m ys H':=λ {s9 H9 ys'} I9 n9=>by
        obtain ⟨m',hm,w9⟩:=hN ys' H9 n9;refine ⟨m',hm,i+1,ys',H9,I9.unpinned.weak kp.1.symm kp.2,T.keep _ _ _ st6 λ b hb o e=>(I9.pin (b,o) (List.mem_append_right _ (List.mem_append_right _ (BN hb e)))).1,λ b hb=> ?_,w9⟩;obtain ⟨o,e,d⟩:=T.obj _ _ st6 b hb;exact (I9.pin (b,o) (List.mem_append_right _ (List.mem_append_right _ (BN hb e)))).2.1
      cases b with
      | false=>
        rw [if_neg Bool.false_ne_true] at q8 ⊢;exact again I8 q8
      | true=>
        rw [if_pos rfl] at q8 ⊢;refine thn (he _ _ _ _ _ s8 σ7 H8 _ I8 q8) λ xv s9 ⟨y,H9,I9,r9,hD,hl,n9⟩=> ?_;refine thn (Fn _ s9 σ7 H9 (.ref s.heap.objs.size) [y] (.ref s.heap.objs.size) [xv] (λ _ H'=>H'=upd H9 s.heap.objs.size (.lst (ys++[y]))) I9 rfl (.cons r9 .nil) ⟨_,ys,y,rfl,rfl,hD,hl,rfl⟩) λ _ s10 ⟨_,H10,I10,_,q10⟩=> ?_;subst q10;exact again I10 n9
  exact codeAny_compStart_list loop (T.self _ 0 _ _ _ st3 loop)
theorem Hs {elt tg iter:Expr} {ifs:List Expr} {scope:Scope} {pos:Pos} {own:List Str} {fr:List (Str × Nat)} {wi:TI} {g:TG} {tc:TT} {te:TE} (hc:X.calm=true) (S:BlkScope X scope own fr) (hi:PI X tg iter wi)
    (hg:∀ C ex s H,PG (AI X scope own fr C ex s H) tg g) (ht:∀ C ex s H,PTs (AI X scope own fr C ex s H) ifs tc) (he:∀ C ex s H,PE (AI X scope own fr C ex s H) elt te)
    (hs:∀ x,foldedSetIterable iter X.env x=pure x:=by intro _;rfl):PE X (.ListComp elt [⟨tg,iter,ifs,0⟩] scope pos) (Ej wi own fr g tc te):=by
  intro pins s σ H Q I h;rw [eval_ListComp];refine wpAny_comprehension_free (use:=none) rfl hs (CK (S.cells I.ok)) S.kind S.loc (thn (hi pins s σ H _ I h) λ xv s₁ h₁=>thn h₁ λ itv s₂ h₂=> ?_);obtain ⟨it,fp,tn,J,H2,rfl,I2,T,st2,f2,h2⟩:=h₂;refine Gp (RR:=λ acc C=>compPost (model X.prog X.w) X.A X.xe none (EP X pins σ Q) acc C) hc S hg ht he I2 T st2 f2 h2 ?_;rintro D C H' s' I' ⟨m,hn⟩ f q;exact ⟨m,hn,λ h' sb=>⟨.ref D,H',I'.turned (t':=s'.toks) (it:=C) (λ b o hb e=>(sb.2 b hb).trans e) f.1 f.2.1 f.2.2.2.1 f.2.2.2.2.1 f.2.2.2.2.2,rfl,q⟩⟩
theorem HW {i:Nat} {x:Str} {px spos:Pos} {elt tg iter:Expr} {ifs:List Expr} {scope:Scope} {pos:Pos} {own:List Str} {fr:List (Str × Nat)} {wi:TI} {g:TG} {tc:TT} {te:TE} (hN:X.N.Nodup) (hix:X.N[i]?=some x) (hx:Loc X.env.scope x)
    (hc:X.calm=true) (S:BlkScope X scope own fr) (hi:PI X tg iter wi)
    (hg:∀ C ex s H,PG (AI X scope own fr C ex s H) tg g) (ht:∀ C ex s H,PTs (AI X scope own fr C ex s H) ifs tc) (he:∀ C ex s H,PE (AI X scope own fr C ex s H) elt te)
    (hsw:swapsWith (.ListComp elt [⟨tg,iter,ifs,0⟩] scope pos) (some (.Name x px)) spos.line X.env=pure true:=by rfl)
    (hf:X.fn x=true\/X.env.scope.names.lookup x=some .local:=by first | exact .inl rfl | exact .inr rfl | assumption)
    (hs:∀ x,foldedSetIterable iter X.env x=pure x:=by intro _;rfl):PS X (.Assign [.Name x px] (.ListComp elt [⟨tg,iter,ifs,0⟩] scope pos) spos) (IM (Ej wi own fr g tc te) (Ax i)):=by
  intro pins s σ H D I h;rw [exec_Assign_Name_used _ _ _ _ hsw];refine wpAny_bind (wpAny_standAt (wpAny_bind ?_));show wpAny _ X.A (do let _ <-comprehension (.ListComp elt [⟨tg,iter,ifs,0⟩] scope pos) scope X.env _ (newList []) false (eval iter X.env) (some (assign (.Name x px) X.env))) _ _ s;refine wpAny_bind (wpAny_mono (wpAny_comprehension_free (use:=some (assign (.Name x px) X.env)) (Q:=λ _ s'=>SP X pins D .next s') rfl hs (CK (S.cells I.ok)) S.kind S.loc
    (thn (hi pins s σ H _ I h) λ xv s₁ h₁=>thn h₁ λ itv s₂ h₂=> ?_)) (λ _ s' hq=>wpAny_pure (wpAny_pure hq)) λ _ _ e=>e)
  obtain ⟨it,fp,tn,J,H2,rfl,I2,T,st2,f2,h2⟩:=h₂;refine Gp (Q:=λ x H1=>Ax i x σ H1 D.nx) (RR:=λ acc C=>compPost (model X.prog X.w) X.A X.xe (some (assign (.Name x px) X.env)) (λ _ s'=>SP X pins D .next s') acc C) hc S hg ht he I2 T st2 f2 h2 ?_;rintro Dl C H' s' I' ⟨m,hn⟩ f q;obtain ⟨o,es,ep,ho,hd,r⟩:=hn;have pinC:∀ v,o.data≠ .cell v:=λ v z=>by rw [hd] at z;cases z
  have I'':Inv X (pins++[(C,o)]) σ H' s':=I'.pins_of λ p hp=>(List.mem_append.mp hp).elim (λ z=>I'.pin p (List.mem_append_right _ z)) λ z=>by
    have e:p=(C,o):=by simpa using z
    subst e;exact ⟨ho,f.1,f.2.1,f.2.2.1,pinC⟩
  show wpAny _ X.A (assign (.Name x px) X.env (.ref Dl)) _ _ s';refine wpAny_assign_Name (Dg I'' hN hix hx (v:= .ref Dl) rfl (λ s2 I2=> ?_) hf);have pc:=(I2.pin (C,o) (List.mem_append_right _ (List.mem_append_right _ (by simp)))).1;refine ⟨m,⟨o,es,ep,pc,hd,r⟩,λ h' sb=>⟨_,H',?_,q⟩⟩;exact (I2.unpinned (pl:=[(C,o)])).turned (t':=s2.toks) (it:=C) (λ b o hb e=>(sb.2 b hb).trans e) f.1 f.2.1 f.2.2.2.1 f.2.2.2.2.1 f.2.2.2.2.2
end
section
variable {X:Cx} {tg:Expr}
end
section
variable {X:Cx}
theorem CP:∀ {ys:List Str} {us:List Value},Vals (ys.map V.str) us->StrsAre us ys
  | [],us,r=>by rw [List.map_nil] at r;cases r;exact .nil
  | y::ys,us,r=>by
    rw [List.map_cons] at r;cases r with
    | cons r1 r2=>
      obtain ⟨t,e⟩:=r1;subst e;exact .cons y t (CP r2)
theorem KW:MtM X "str.join" (λ x vs H Q=>∃ (z:Str) (p:Addr) (ys:List Str),x= .str z/\vs=[.ref p]/\SqL X.K H p (ys.map V.str)/\(ys.map (·.length)).sum+ys.length*z.length<=16777216/\Q (.str (Txt.join z ys)) H):=by
  intro pins s σ H x vs v us Q I rx rv h;obtain ⟨z,p,ys,rfl,rfl,hq,hz,q⟩:=h;obtain ⟨t,rfl⟩:=rx;obtain ⟨u,rfl,ru⟩:=rv.one;cases ru;obtain ⟨its,r,pl,_⟩:=I.list hq;exact join_list pl.isList (by simpa using CP r) hz λ t' k=>⟨.str _,H,I.tok k,⟨t',rfl⟩,q⟩
theorem DO:∀ {ns:List Int} {l:List (Int × Tok)},Vals (ns.map V.int) (l.map λ p=>Value.int p.1 p.2)->l.map (·.1)=ns
  | [],[],_=>rfl
  | n::ns,p::l,r=>by
    cases r with
    | cons r1 r2=>
      obtain ⟨t,e⟩:=r1;injection e with e1 e2;rw [List.map_cons,DO r2,e1]
  | [],_::_,r=>by cases r
  | _::_,[],r=>by cases r
theorem Jg (hc:X.calm=true):Bg X (.builtin "sum") (λ xs H Q=>∃ (p:Addr) (ns:List Int),xs=[.ref p]/\SqL X.K H p (ns.map V.int)/\Q (.int ns.sum) H):=by
  intro pins s σ H xs us Q I r h;obtain ⟨p,ns,rfl,hq,q⟩:=h;obtain ⟨u,rfl,rx⟩:=EL r;cases rx;obtain ⟨its,rv,pl,_⟩:=I.list hq;obtain ⟨ps,e⟩:=(IntsAre.allInts (GO rv)).items;have e':its=ps.toList.map λ p=>Value.int p.1 p.2:=by
    have:=congrArg Array.toList e;simpa [intItems] using this
  have hl:=pl.isList;rw [e] at hl;refine sum_intListG (I.ok.hd hc) hl λ h' tk t' hk=> ?_;have es:preSum (numAt ps) ps.size=ns.sum:=by
    rw [preSum_eq,List.take_of_length_le (by simp),DO (ns:=ns) (l:=ps.toList) (by rw [<-e'];exact rv)]
  rw [es];exact ⟨.int ns.sum,H,I.kept hk,⟨t',rfl⟩,q⟩
theorem IN (bs:List Bool):(List.range bs.length).all (λ i=>bs.getD i true)=bs.all id:=by
  rw [Bool.eq_iff_iff,List.all_eq_true,List.all_eq_true];constructor
  · intro h b hb;obtain ⟨i,hi,rfl⟩:=List.getElem_of_mem hb;have:=h i (by simpa using hi);rw [List.getD_eq_getElem?_getD,List.getElem?_eq_getElem hi] at this;exact this
  · intro h i hi;have hi:i<bs.length:=by simpa using hi
    rw [List.getD_eq_getElem?_getD,List.getElem?_eq_getElem hi];exact h _ (List.getElem_mem hi)
theorem Je (hc:X.calm=true):Bg X (.builtin "all") (λ xs H Q=>∃ (p:Addr) (bs:List Bool),xs=[.ref p]/\SqL X.K H p (bs.map V.bl)/\Q (.bl (bs.all id)) H):=by
  intro pins s σ H xs us Q I r h;obtain ⟨p,bs,rfl,hq,q⟩:=h;obtain ⟨u,rfl,rx⟩:=EL r;cases rx;obtain ⟨its,rv,pl,_⟩:=I.list hq;have hl:=rv.length;rw [List.length_map] at hl;obtain ⟨o,ho,_⟩:=id pl.isList;have hne:p≠s.heap.objs.size:=Nat.ne_of_lt (Heap.lt_size ho);refine call_all_walk (wpAny_pyIter_list pl.isList ?_);refine ⟨s.heap.objs.size,_,_,_,_,_,λ i=>bs.getD i true,rfl,Walks.list (A:=X.A.in1) (I.ok.hd hc) _ p hne its.toArray,⟨⟨_,Heap.get?_push_size _ rfl,rfl,rfl⟩,pl.isList.at λ o e=>Heap.get?_push_of_some _ e⟩,?_,λ h' tk hk=> ?_⟩
  · intro i v s' Q' E' hv hQ';have hv:its[i]?=some v:=by simpa using hv
    have hi:i<bs.length:=by rw [hl];exact (List.getElem?_eq_some_iff.mp hv).1
    obtain ⟨u,hu,ru⟩:=rv.get (i:=i) (x:= .bl (bs.getD i true)) (by rw [List.getElem?_map,List.getD_eq_getElem?_getD,List.getElem?_eq_getElem hi];rfl);rw [hu] at hv;cases hv;cases ru;exact wpAny_truthy_bool hQ'
  · have e:its.toArray.size=bs.length:=by rw [List.size_toArray];exact hl.symm
    rw [e,IN];exact ⟨.bl _,H,I.kept λ b o e=>hk b o (λ z=>by simp at z;exact absurd (Heap.lt_size e) (by rw [z];exact Nat.lt_irrefl _)) (Heap.get?_push_of_some _ e),rfl,q⟩
theorem Gz:Bg X (.builtin "isinstance") (λ xs H Q=>∃ x n t b,xs=[x, .ty n]/\TyOf X.K H x t/\PySem.W.kitOne X.K t (.type n)=some b/\Q (.bl b) H):=by
  intro pins s σ H xs us Q I r h;obtain ⟨x,n,t,b,rfl,ty,e,q⟩:=h;obtain ⟨u,c,rfl,rx,rc⟩:=Lq r;cases rc;exact IA I rx ty e λ tk=>⟨.bl b,H,I.tok tk,rfl,q⟩
def Jm (K:PySem.W.Frag):R2:=λ x y H Q=>∃ l b xs zs,x= .ref l/\y= .ref b/\SqL K H l xs/\SqL K H b zs/\xs.length+zs.length<=sizeLine/\∀ p,H p=none->Q (.ref p) (upd H p (.lst (xs++zs)))
theorem KC:OpR X (binaryOp .Add) (Jm X.K):=by
  intro pins s σ H x y v u Q I rx ry h;obtain ⟨l,b,xs,zs,rfl,rfl,hH,hB,hz,q⟩:=h;cases rx;cases ry;obtain ⟨its,r,pl,_⟩:=I.list hH;obtain ⟨its2,r2,pl2,_⟩:=I.list hB;have h1:=r.length;have h2:=r2.length;obtain ⟨⟨cls,dd,data,sl⟩,n,ho,hc,hdd,hd⟩:=pl;obtain ⟨⟨cls2,dd2,data2,sl2⟩,n2,ho2,hc2,hdd2,hd2⟩:=pl2;simp only at hc hdd hd hc2 hdd2 hd2;subst hc hdd hd hc2 hdd2 hd2;refine concat_meets ⟨_,ho,rfl⟩ ⟨_,ho2,rfl⟩ noFill_list_add seq_list_add PySem.F.slot_list_add PySem.F.entry_list_add (PySem.F.args_list_add_2 _ _) (list_addW l b its.toArray its2.toArray n n2 none none sl sl2 (by rw [List.size_toArray,List.size_toArray];omega)) ⟨ho,ho2,?_⟩;have e:its.toArray++its2.toArray=(its++its2).toArray:=by simp
  rw [e];exact ⟨.ref _,_,I.lnew (t':=s.toks) (r.append r2) (by rw [List.length_append];omega),rfl,q _ I.fresh⟩
def FM (xs ys:List V):Bool:=xs.length == ys.length&&(List.range xs.length).all λ i=>eqV (xs.getD i .non) (ys.getD i .non)
theorem Fp {xs:List V} (h:xs.all A7=true) {i:Nat} (hi:i<xs.length):A7 (xs.getD i .non)=true:=by
  rw [List.getD_eq_getElem?_getD,List.getElem?_eq_getElem hi];exact (List.all_eq_true.mp h) _ (List.getElem_mem hi)
def Mr (K:PySem.W.Frag) (neg:Bool):R2:=λ x y H Q=>∃ p q xs ys,x= .ref p/\y= .ref q/\SqL K H p xs/\SqL K H q ys/\xs.all A7=true/\ys.all A7=true/\Q (.bl (if neg then !FM xs ys else FM xs ys)) H
theorem Hg {A:Around} {s:Shared} {xs ys:List V} {its its2:List Value} (r:Vals xs its) (r2:Vals ys its2) (fx:xs.all A7=true) (fy:ys.all A7=true):
    ∀ j (h1:j<its.toArray.size) (h2:j<its2.toArray.size),SeqAt.EqAt A s its.toArray[j] its2.toArray[j] (eqV (xs.getD j .non) (ys.getD j .non)):=λ j h1 h2=>by
  have l1:=r.length;have l2:=r2.length;have h1':j<its.length:=by simpa using h1
  have h2':j<its2.length:=by simpa using h2
  have g1:xs[j]?=some (xs.getD j .non):=by rw [List.getD_eq_getElem?_getD,List.getElem?_eq_getElem (by omega)];rfl
  have g2:ys[j]?=some (ys.getD j .non):=by rw [List.getD_eq_getElem?_getD,List.getElem?_eq_getElem (by omega)];rfl
  obtain ⟨u,e1,ru⟩:=r.get g1;obtain ⟨u2,e2,ru2⟩:=r2.get g2;have q1:its.toArray[j]=u:=by rw [List.getElem?_eq_getElem h1'] at e1;simpa using Option.some.inj e1
  have q2:its2.toArray[j]=u2:=by rw [List.getElem?_eq_getElem h2'] at e2;simpa using Option.some.inj e2
  rw [q1,q2];exact JN ru ru2 (Fp fx (by omega)) (Fp fy (by omega))
theorem LT (hu:X.A.units<cLine):OpR X (compareOp .Eq) (Mr X.K false):=by
  intro pins s σ H x y v u Q I rx ry h;obtain ⟨p,q,xs,ys,rfl,rfl,h1,h2,fx,fy,hq⟩:=h;cases rx;cases ry;obtain ⟨its,r,pl,_⟩:=I.list h1;obtain ⟨its2,r2,pl2,_⟩:=I.list h2;have l1:=r.length;have l2:=r2.length;by_cases hl:xs.length=ys.length
  · refine SeqAt.eq_listAt pl.isList pl2.isList (by simp;omega) hu (Hg r r2 fx fy) ⟨.bl _,H,I,rfl,?_⟩;have e:FM xs ys=(List.range its.toArray.size).all λ i=>eqV (xs.getD i .non) (ys.getD i .non):=by
      unfold FM;rw [hl,beq_self_eq_true,Bool.true_and,List.size_toArray, <-l1,hl]
    rw [<-e];exact hq
  · refine SeqAt.eq_list_lengthsAt pl.isList pl2.isList (by simp;omega) hu ⟨.bl _,H,I,rfl,?_⟩;have e:FM xs ys=false:=by unfold FM;rw [beq_eq_false_iff_ne.mpr hl,Bool.false_and]
    rw [<-e];exact hq
theorem KB {α:Type} [DecidableEq α] (f:α->V) (hf:∀ a b,eqV (f a) (f b)=decide (a=b)) (as bs:List α):FM (as.map f) (bs.map f)=decide (as=bs):=by
  unfold FM;rw [Bool.eq_iff_iff,Bool.and_eq_true,List.all_eq_true,decide_eq_true_iff,beq_iff_eq,List.length_map,List.length_map];constructor
  · rintro ⟨h1,h2⟩;refine List.ext_getElem h1 λ i g1 g2=> ?_;have:=h2 i (by simpa using g1);rw [List.getD_eq_getElem?_getD,List.getD_eq_getElem?_getD,List.getElem?_map,List.getElem?_map,List.getElem?_eq_getElem g1,List.getElem?_eq_getElem g2] at this;have:=(hf _ _).symm.trans this;exact of_decide_eq_true this
  · rintro rfl;refine ⟨rfl,λ i hi=> ?_⟩;have hi:i<as.length:=by simpa using hi
    rw [List.getD_eq_getElem?_getD,List.getElem?_map,List.getElem?_eq_getElem hi];show eqV (f as[i]) (f as[i])=true;rw [hf];exact decide_eq_true rfl
theorem Jo (as bs:List Int):FM (as.map V.int) (bs.map V.int)=decide (as=bs):=KB V.int (λ a b=>by show (a == b)=_;rw [Bool.eq_iff_iff,beq_iff_eq,decide_eq_true_iff]) as bs
theorem GA (as:List Int):(as.map V.int).all A7=true:=by simp [A7]
end
def An (P:Program) (w:World) (K:PySem.W.Frag) (mg:Str->Option Value) (base:Heap) (x:Str) (k:Nat) (ps:List Str) (sp:Sp):Prop:=
  ∃ f fd,mg x=some (.ref f)/\PySem.W.keepIn K (.ref f)=true/\FnOk P w K mg base CX0 k f fd ps sp/\Binds K fd ps []
section
variable {X:Cx} {x:Str} {k:Nat} {ps:List Str} {sp:Sp} {e:Expr} {es:List Expr} {t:TA} {p pos:Pos}
theorem Ac (h:An X.prog X.w X.K X.mg X.base x k ps sp) (hr:Room k X.A) (ha:PA X (e::es) t) (hg:Gl X x:=by rfl) (hdb:(x == ("__debug__":Str))=false:=by decide)
    (he:starEach (e::es) X.env=(false,eval e X.env)::starEach es X.env:=by rfl) (hpl:(backTo pos (starEach es X.env)).any (·.1)=false:=by rfl):
    PE X (.Call (.Name x p) (e::es) [] pos) (HM sp [] E0 t):=by
  obtain ⟨f,fd,hm,hk,F,hb⟩:=h;exact KA F hr hg hm hk hb .nil HK ha hdb he hpl
end
structure DefAt (K:PySem.W.Frag) (mg:Str->Option Value) (x:Str) (st:Stmt) (ps:List Str) (f:Addr) (fd:FuncData):Prop where
  fn:Fun K x x st f fd
  at':mg x=some (.ref f)
  bi:Binds K fd ps []
theorem DefAt.call {P:Program} {w:World} {K:PySem.W.Frag} {mg:Str->Option Value} {base:Heap} {x:Str} {st:Stmt} {ps:List Str} {f:Addr} {fd:FuncData} {k:Nat} {sp:Sp} (d:DefAt K mg x st ps f fd)
    (F:FnOk P w K mg base CX0 k f fd ps sp):An P w K mg base x k ps sp:=⟨f,fd,d.at',d.fn.kp,F,d.bi⟩
def Jj:V->Bool | .int _=>true | _=>false
def LC:V->Bool | .bl _=>true | _=>false
def Ty (K:PySem.W.Frag) (H:Hp) (x:V):Prop:=∃ n,TyOf K H x (.type n)
def BW (n T:String):Option Bool:=if (Value.type n == Value.type T)=true then some true else if PySem.W.kitMeta T=true then (fastBuiltinMro n).map (·.contains (.type T)) else none
section
variable {K:PySem.W.Frag} {H:Hp} {x:V} {n:String}
theorem kb {n T:String} {b:Bool} (h:BW n T=some b):PySem.W.kitOne K (.type n) (.type T)=some b:=h
theorem K3 (h:TyOf K H x (.type n)):PySem.W.kitOne K (.type n) (.type "int")=some (Jj x||LC x):=by
  cases h <;> first
    | exact (show PySem.W.kitOne K _ _=some true from kb (by decide +kernel))
    | exact (show PySem.W.kitOne K _ _=some false from kb (by decide +kernel))
theorem Jf (h:TyOf K H x (.type n)):PySem.W.kitOne K (.type n) (.type "bool")=some (LC x):=by
  cases h <;> first
    | exact (show PySem.W.kitOne K _ _=some true from kb (by decide +kernel))
    | exact (show PySem.W.kitOne K _ _=some false from kb (by decide +kernel))
end
section
variable {X:Cx}
def Own (mg:Str->Option Value) (names:List Str):Prop:=∀ x∈names,mg x=none
theorem BI:bootBuiltins "all"=some (.builtin "all"):=by decide +kernel
theorem Bi {x:Str} {T:String} {pos:Pos} (hg:Gl X x) (hm:X.mg x=none) (hv:bootBuiltins x=some (.type T)) (hn:x≠"__name__":=by decide) (hd:(x == ("__debug__":Str))=false:=by decide):PE X (.Name x pos) (tC (.ty T)):=
  KN hg hm hv (show RelV (.ty T) (.type T) from rfl) hn hd
end
def Cr (N:List Str) (scope:Scope):List (Str × Nat):=scope.names.filterMap λ y=>if y.2= .free then (N.findIdx? λ n=>decide (n=y.1)).map λ i=>(y.1,i) else none
def CO (sc:Scope) (N:List Str) (scope:Scope) (own:List Str) (fr:List (Str × Nat)):Bool:=
  decide (scope.kind= .function)&&
  (scope.names.all λ y=>decide (y.2≠ .cell)&&(decide (y.2≠ .local)||decide (scope.names.lookup y.1=some .local))&&
    (decide (y.2≠ .free)||((decide (sc.names.lookup y.1=some .cell)||decide (sc.names.lookup y.1=some .free))&&decide (scope.names.lookup y.1=some .free))))&&
  (fr.all λ p=>decide (N[p.2]?=some p.1)&&decide ((p.1,NameKind.free)∈scope.names))&&
  (own.all λ x=>decide (scope.names.lookup x=some .local))&&decide ((own++fr.map (·.1)).Nodup)
section
variable {X:Cx} {scope:Scope} {own:List Str} {fr:List (Str × Nat)}
theorem BlkScope.of (h:CO X.env.scope X.N scope own fr=true):BlkScope X scope own fr:=by
  unfold CO at h;simp only [Bool.and_eq_true,List.all_eq_true,decide_eq_true_iff,Bool.or_eq_true] at h;obtain ⟨⟨⟨⟨h1,h2⟩,h3⟩,h4⟩,h5⟩:=h;exact ⟨h1,λ y hy=>(h2 y hy).1.1,λ y hy e=>(h2 y hy).1.2.resolve_left (λ z=>z e),λ y hy e=>((h2 y hy).2.resolve_left (λ z=>z e)).1,λ p hp=>h3 p hp,λ x hx=>((h2 _ hx).2.resolve_left (λ z=>z rfl)).2⟩
theorem Ib (h:CO X.env.scope X.N scope own fr=true):(∀ x∈own,scope.names.lookup x=some .local)/\(own++fr.map (·.1)).Nodup:=by
  unfold CO at h;simp only [Bool.and_eq_true,List.all_eq_true,decide_eq_true_iff,Bool.or_eq_true] at h;exact ⟨h.1.2,h.2⟩
theorem FZ {i:Nat} {x:Str} {px:Pos} (h:CO X.env.scope X.N scope own fr=true) (hi:own[i]?=some x) (C:Addr) (ex:List Addr) (s:Shared) (H:Hp):PG (AI X scope own fr C ex s H) (.Name x px) (Ax i):=by
  obtain ⟨h1,h2⟩:=Ib h;have hl:(relabel scope X.env).names.lookup x=some .local:=lookup_relabel_local (h1 x (List.mem_of_getElem? hi));have hlt:=(List.getElem?_eq_some_iff.mp hi).1;refine AN h2 ?_ (.inl hl) (.inr hl);show (own++fr.map (·.1))[i]?=some x;rw [List.getElem?_append_left hlt];exact hi
theorem Ar {elt iter:Expr} {x:Str} {px:Pos} {ifs:List Expr} {pos:Pos} {wi:TI} {tc:TT} {te:TE} (hi:PI X (.Name x px) iter wi)
    (ht:∀ C ex s H,PTs (AI X scope [x] (Cr X.N scope) C ex s H) ifs tc) (he:∀ C ex s H,PE (AI X scope [x] (Cr X.N scope) C ex s H) elt te)
    (hb:CO X.env.scope X.N scope [x] (Cr X.N scope)=true:=by with_unfolding_all rfl) (hc:X.calm=true:=by rfl)
    (hs:∀ x,foldedSetIterable iter X.env x=pure x:=by intro _;rfl):PE X (.ListComp elt [⟨.Name x px,iter,ifs,0⟩] scope pos) (Ej wi [x] (Cr X.N scope) (Ax 0) tc te):=
  Hs hc (.of hb) hi (λ C ex s H=>FZ hb rfl C ex s H) ht he hs
theorem Bt {i:Nat} {y x:Str} {py px spos:Pos} {elt iter:Expr} {ifs:List Expr} {pos:Pos} {wi:TI} {tc:TT} {te:TE} (hN:X.N.Nodup) (hix:X.N[i]?=some y) (hx:Loc X.env.scope y) (hi:PI X (.Name x px) iter wi)
    (ht:∀ C ex s H,PTs (AI X scope [x] (Cr X.N scope) C ex s H) ifs tc) (he:∀ C ex s H,PE (AI X scope [x] (Cr X.N scope) C ex s H) elt te)
    (hb:CO X.env.scope X.N scope [x] (Cr X.N scope)=true:=by with_unfolding_all rfl) (hc:X.calm=true:=by rfl)
    (hsw:swapsWith (.ListComp elt [⟨.Name x px,iter,ifs,0⟩] scope pos) (some (.Name y py)) spos.line X.env=pure true:=by rfl)
    (hf:X.fn y=true\/X.env.scope.names.lookup y=some .local:=by first | exact .inl rfl | exact .inr rfl | assumption)
    (hs:∀ x,foldedSetIterable iter X.env x=pure x:=by intro _;rfl):
    PS X (.Assign [.Name y py] (.ListComp elt [⟨.Name x px,iter,ifs,0⟩] scope pos) spos) (IM (Ej wi [x] (Cr X.N scope) (Ax 0) tc te) (Ax i)):=
  HW hN hix hx hc (.of hb) hi (λ C ex s H=>FZ hb rfl C ex s H) ht he hsw hf hs
theorem Ms {σ:L2.St} {H:Hp} {A B:Hp->Prop} (h:A H):Ip σ H (λ b H3=>if b=true then A H3 else B H3):=by
  show (if true=true then A H else B H);exact Jr h
end
def JU (K:PySem.W.Frag):List V->Hp->VK->Prop:=λ xs H Q=>∃ x n,xs=[x]/\MQ K x H n/\Q (.int n) H
def MR (K:PySem.W.Frag):List V->Hp->VK->Prop:=λ xs H Q=>∃ (p:Addr) (ns:List Int),xs=[.ref p]/\SqL K H p (ns.map V.int)/\Q (.int ns.sum) H
def M6 (K:PySem.W.Frag):List V->Hp->VK->Prop:=λ xs H Q=>∃ (p:Addr) (bs:List Bool),xs=[.ref p]/\SqL K H p (bs.map V.bl)/\Q (.bl (bs.all id)) H
def Lk (K:PySem.W.Frag):List V->Hp->VK->Prop:=λ xs H Q=>∃ x n t b,xs=[x, .ty n]/\TyOf K H x t/\PySem.W.kitOne K t (.type n)=some b/\Q (.bl b) H
def HZ (K:PySem.W.Frag):List V->Hp->VK->Prop:=λ xs H Q=>∃ p ys,xs=[.ref p]/\(SqL K H p ys\/SqT K H p ys)/\∀ l,H l=none->Q (.ref l) (upd H l (.lst ys))
def Gj (K:PySem.W.Frag):List V->Hp->VK->Prop:=λ xs H Q=>∃ p ys,xs=[.ref p]/\((SqL K H p ys/\∀ l,H l=none->Q (.ref l) (upd H l (.tup ys)))\/(SqT K H p ys/\Q (.ref p) H))
def Nc (K:PySem.W.Frag):V->List V->Hp->VK->Prop:=λ x vs H Q=>∃ (z:Str) (p:Addr) (ys:List Str),x= .str z/\vs=[.ref p]/\SqL K H p (ys.map V.str)/\(ys.map (·.length)).sum+ys.length*z.length<=16777216/\Q (.str (Txt.join z ys)) H
section
variable {X:Cx} {K:PySem.W.Frag}
theorem Ca (hK:X.K=K:=by rfl):Bg X (.builtin "len") (JU K):=by subst hK;exact IX
theorem NB (hK:X.K=K:=by rfl) (hc:X.calm=true:=by rfl):Bg X (.builtin "sum") (MR K):=by subst hK;exact Jg hc
theorem Gh (hK:X.K=K:=by rfl) (hc:X.calm=true:=by rfl):Bg X (.builtin "all") (M6 K):=by subst hK;exact Je hc
theorem A1 (hK:X.K=K:=by rfl):Bg X (.builtin "isinstance") (Lk K):=by subst hK;exact Gz
theorem Ez (hK:X.K=K:=by rfl):Bg X (.type "list") (HZ K):=by subst hK;exact FQ
theorem Bp (hK:X.K=K:=by rfl):Bg X (.type "tuple") (Gj K):=by subst hK;exact Fb
theorem L3 (hK:X.K=K:=by rfl):MtM X "str.join" (Nc K):=by subst hK;exact KW
theorem Cz (hK:X.K=K:=by rfl):IxR X (L7 K):=by subst hK;exact Kk
theorem DS (hK:X.K=K:=by rfl):IxR X (Mt K):=by subst hK;exact LY
theorem NJ (hK:X.K=K:=by rfl):OpR X (compareOp .In) (rIn K false):=by subst hK;exact IK
theorem Nt (hK:X.K=K:=by rfl):OpR X (binaryOp .Add) (Jm K):=by subst hK;exact KC
theorem M4 (hu:X.A.units<cLine) (hK:X.K=K:=by rfl):OpR X (compareOp .Eq) (Mr K false):=by subst hK;exact LT hu
theorem NC (hK:X.K=K:=by rfl):SlR X (Mv K):=by subst hK;exact KF
theorem Bk {tg l:Expr} {tl:TE} (hl:PE X l tl) (hK:X.K=K:=by rfl):PI X tg l (JF K tl):=by subst hK;exact La hl
theorem GK {tg l:Expr} {tl:TE} (hl:PE X l tl) (hK:X.K=K:=by rfl):PI X tg l (LS K tl):=by subst hK;exact MC hl
end
section
variable {X:Cx} {pins:List (Addr × Obj)} {σ:St} {H:Hp} {s:Shared} {h':Heap}
theorem Inv.turnedL {t':Nat} (ch:List Addr) (I:Inv X pins σ H s) (hf:∀ b∈ch,B0 X pins H b) (k:∀ b o,b∉ch->s.heap.get? b=some o->h'.get? b=some o):Inv X pins σ H { s with heap:=h',toks:=t' }:=by
  have nit:∀ b u,H b=some u->b∉ch:=λ b u e z=>by rw [(hf b z).1] at e;cases e
  refine I.step (g':=s.gens) (d':=s.drawn) (ch:=ch) (λ b hb=> ?_) (λ b o _ _ hc e _=>k b o hc e) (λ b o _ _ hc e _=>⟨o.slots,k b o hc e⟩) (λ _ _ _ _ n=>n)
    (λ b o hc e=>⟨o,k b o hc e⟩) (λ _ _ e=>e) (λ _ _ _ e=>e) (λ b ps e=>⟨#[],by rw [e];simp⟩) (λ m hm=> ?_) (λ b u e=> ?_) I.bare
  · obtain ⟨f0,f1,f2,f3,f4,f5⟩:=hf b hb;exact ⟨f3,f1,f4,f5⟩
  · obtain ⟨o,es,ep,ho,r⟩:=hm;exact ⟨o,es,ep,k _ o (λ z=>(hf _ z).2.1 rfl) ho,r⟩
  · refine (I.hok b u e).stay (λ c v hc q=>k c v ?_ q) (λ _ q=>q) λ _ _ q=>q;rcases hc with z | z
    · rw [z];exact nit b u e
    · exact nit c _ z
end
def Ite (K:PySem.W.Frag) (a:Addr):It:=
  ⟨λ i H=>∃ xs x,SqL K H a xs/\xs[i]?=some x,λ i H v H'=>∃ p x,H p=none/\v= .ref p/\H'=upd H p (.tup [.int i,x])/\∀ xs,SqL K H a xs->xs[i]?=some x,λ i H=>∃ xs,SqL K H a xs/\xs.length<=i⟩
theorem G9 {X:Cx} {pins:List (Addr × Obj)} {H:Hp} {b p:Addr} {o:HO} (h:B0 X pins H b) (n:b≠p):B0 X pins (upd H p o) b:=⟨by rw [Ao n];exact h.1,h.2⟩
theorem Ic {P:Program} {w:World} {K:PySem.W.Frag} {elts:List Expr} {k:Nat} {pos:Pos} (a e it:Addr) (hne:e≠it):
    Turn P w K (.Tuple elts k pos) (Ite K a) [e,it] e (λ i h=>(∃ old,IsEnum h e it i old)/\h.IsListIter it a i) where
  mem:=by simp
  obj:=λ i h st b hb=>by
    obtain ⟨⟨old,he⟩,o,eo,c,d⟩:=st;rcases List.mem_cons.mp hb with z | z
    · subst z;exact ⟨_,he,λ v z=>by cases (show Data.fields _=Data.cell v from z)⟩
    · have z:b=it:=by simpa using z
      subst z;exact ⟨o,eo,λ v z=>by rw [d] at z;cases z⟩
  keep:=λ i h h' st kp=>by
    obtain ⟨⟨old,he⟩,hi⟩:=st;exact ⟨⟨old,kp e (by simp) _ he⟩,hi.at λ o z=>kp it (by simp) o z⟩
  item:=by
    intro X hP hw hK hc i pins s σ H E I hf st hg;subst hP hw hK;obtain ⟨xs,x,hq,hx⟩:=hg;obtain ⟨its,rv,p,hz⟩:=I.list hq;obtain ⟨u,hu,ru⟩:=rv.get hx;obtain ⟨⟨old,he⟩,hi⟩:=st;have hel:e<s.heap.objs.size:=Heap.lt_size he;have hil:it<s.heap.objs.size:=by obtain ⟨_,z,_⟩:=hi;exact Heap.lt_size z
    refine wpAny_pyNext_enum_item he hi p.isList (x:=u) (by simpa using hu) hne λ h' ho hi' hT hsz hk=> ?_;have I0:=I.laid (h':=s.heap.push { cls:= .type "tuple",data:= .seq #[.int i s.toks,u] }) (a:=s.heap.objs.size) (o:= .tup [.int i,x]) (t':=s.toks+1) (λ _ _ q=>Heap.get?_push_of_some _ q) (Nat.le_refl _)
      ⟨(by show 2<=sizeLine;decide),[.int i s.toks,u], .cons ⟨_,rfl⟩ (.cons ru .nil),⟨_,Heap.get?_push_size _ rfl,rfl,_,rfl⟩⟩
    have f0:∀ b∈[e,it],B0 X pins (upd H s.heap.objs.size (.tup [.int i,x])) b:=λ b hb=>G9 (hf b hb) (by
      rcases List.mem_cons.mp hb with z | z
      · rw [z];exact Nat.ne_of_lt hel
      · rw [show b=it by simpa using z];exact Nat.ne_of_lt hil)
    have I1:=Inv.turnedL (t':=s.toks+1) (h':=h') [e,it] I0 f0 (λ b o hb z=>by
      have hb1:b≠e:=λ q=>hb (by simp [q]);have hb2:b≠it:=λ q=>hb (by simp [q]);rcases Heap.get?_push_cases (show (s.heap.push { cls:= .type "tuple",data:= .seq #[.int i s.toks,u] }).get? b=some o from z) with ⟨q1,q2⟩ | q
      · rw [q1,q2];exact hT
      · exact hk b o hb1 hb2 q)
    refine ⟨.ref s.heap.objs.size,rfl,wpAny_letOwnedTupleGo_enum (s:={ s with heap:=h',toks:=s.toks+1 }) ho λ h2 he2 sb=> ?_⟩;refine ⟨.ref s.heap.objs.size,_,Inv.turnedL (t':=s.toks+1) (h':=h2) [e,it] I1 f0 (λ b o hb z=>(sb.2 b λ q=>hb (by simp [q])).trans z),rfl,⟨_,x,I.fresh,rfl,rfl,λ ys hy=>by rw [I.list_inj hy hq];exact hx⟩,⟨⟨u,by simpa using he2⟩,hi'.at λ o z=>(sb.2 it hne.symm).trans z⟩,λ b hb=>(f0 b hb).1⟩
  done:=by
    intro X hP hw hK hc i pins s σ H E I hf st hg;subst hP hw hK;obtain ⟨xs,hq,hx⟩:=hg;obtain ⟨its,rv,p,hz⟩:=I.list hq;obtain ⟨⟨old,he⟩,hi⟩:=st;have hl:=rv.length;exact wpAny_pyNext_enum_end (I.ok.hd hc) he hi p.isList (by simp;omega) λ h' eb=>⟨rfl,I.turnedL (t':=s.toks) [e,it] hf λ b o hb z=>eb b o (λ q=>hb (by simp [q])) z⟩
  self:=λ _ _ _ _ _ st h=>by
    obtain ⟨⟨old,he⟩,_⟩:=st;exact wpAny_pyIter_enum he h
section
variable {X:Cx} {elts:List Expr} {k:Nat} {tpos:Pos} {K:PySem.W.Frag}
def Ls (K:PySem.W.Frag) (ta:TA):TI:=λ σ H R=>ta σ H λ vs H1=>∃ a,vs=[.ref a]/\(∃ xs,SqL K H1 a xs)/\R (Ite K a) H1
theorem Fy:bootBuiltins "enumerate"=some (.type "enumerate"):=by decide +kernel
theorem JP:bootBuiltins "zip"=some (.type "zip"):=by decide +kernel
theorem KQ {l:Expr} {ta:TA} {p pos:Pos} (hg:Gl X "enumerate") (hm:X.mg "enumerate"=none) (ha:PA X [l] ta) (hK:X.K=K:=by rfl) (hs:starEach [l] X.env=[(false,eval l X.env)]:=by rfl):PI X (.Tuple elts k tpos) (.Call (.Name "enumerate" p) [l] [] pos) (Ls K ta):=by
  subst hK;intro pins s σ H R I h;refine Call_ (BF I hg hm Fy (PyProof.Rows.callWith_type1 (thn (ha pos pins s σ H _ I h) λ us s1 ⟨vs,H1,I1,r1,q1⟩=> ?_) hs rfl));obtain ⟨a,e,⟨xs,hq⟩,q⟩:=q1;subst e;cases r1 with
  | cons r rr=>
    cases rr;cases r;obtain ⟨its,rv,pl,hz⟩:=I1.list hq;refine call_enumerate_list pl.isList λ h' he hi hsz hk=> ?_;refine wpAny_pyIter_enum he ?_;have I2:=I1.kept (t':=s1.toks) hk;refine ⟨s1.heap.objs.size+1,[s1.heap.objs.size+1,s1.heap.objs.size],_,_,H1,rfl,I2,Ic a _ _ (Nat.succ_ne_self _),⟨⟨_,he⟩,hi⟩,λ b hb=> ?_,q⟩;have hb':s1.heap.objs.size<=b:=by
      rcases List.mem_cons.mp hb with z | z
      · rw [z];exact Nat.le_succ _
      · have z:b=s1.heap.objs.size:=by simpa using z
        rw [z];exact Nat.le_refl _
    exact I1.fpOk hb' (I1.hok.fresh hb')
end
section
variable {X:Cx} {elts:List Expr} {k:Nat} {tpos:Pos} {K:PySem.W.Frag}
end
def A8 (tp:Bool) (h:Heap) (it l:Addr) (i:Nat):Prop:=if tp=true then h.IsTupleIter it l i else h.IsListIter it l i
def A9 (tp:Bool) (h:Heap) (l:Addr) (xs:Array Value):Prop:=if tp=true then h.IsTuple l xs else h.IsList l xs
theorem Av {tp:Bool} {h h':Heap} {it l:Addr} {i:Nat} (x:A8 tp h it l i) (k:∀ o,h.get? it=some o->h'.get? it=some o):A8 tp h' it l i:=by
  cases tp with
  | false=>obtain ⟨o,e,r⟩:=(show h.IsListIter it l i from x);exact (show h'.IsListIter it l i from ⟨o,k o e,r⟩)
  | true=>obtain ⟨o,e,r⟩:=(show h.IsTupleIter it l i from x);exact (show h'.IsTupleIter it l i from ⟨o,k o e,r⟩)
theorem Bs {tp:Bool} {h h':Heap} {l:Addr} {xs:Array Value} (x:A9 tp h l xs) (k:∀ o,h.get? l=some o->h'.get? l=some o):A9 tp h' l xs:=by
  cases tp with
  | false=>obtain ⟨o,e,r⟩:=(show h.IsList l xs from x);exact (show h'.IsList l xs from ⟨o,k o e,r⟩)
  | true=>obtain ⟨o,e,r⟩:=(show h.IsTuple l xs from x);exact (show h'.IsTuple l xs from ⟨o,k o e,r⟩)
theorem AX {tp:Bool} {h:Heap} {it l:Addr} {i:Nat} (x:A8 tp h it l i):∃ o,h.get? it=some o/\o.data= .fields #[.ref l, .int i 0]:=by
  cases tp with
  | false=>obtain ⟨o,e,_,d⟩:=(show h.IsListIter it l i from x);exact ⟨o,e,d⟩
  | true=>obtain ⟨o,e,_,d⟩:=(show h.IsTupleIter it l i from x);exact ⟨o,e,d⟩
theorem Cp {tp:Bool} {h:Heap} {l:Addr} {xs:Array Value} (x:A9 tp h l xs):∃ o n,h.get? l=some o/\o.data= .seq xs n:=by
  cases tp with
  | false=>obtain ⟨o,e,_,n,d⟩:=(show h.IsList l xs from x);exact ⟨o,n,e,d⟩
  | true=>obtain ⟨o,e,_,n,d⟩:=(show h.IsTuple l xs from x);exact ⟨o,n,e,d⟩
section
variable {prog:Program} {w:World} {A:Around} {E:Value->Shared->Prop} {s:Shared}
theorem Dp {tp:Bool} {it l:Addr} {i:Nat} {xs:Array Value} {x:Value} {Q:Value->Shared->Prop} (ht:A8 tp s.heap it l i) (hq:A9 tp s.heap l xs) (hx:xs[i]?=some x)
    (k:∀ h',A8 tp h' it l (i+1)->Heap.SameBut it s.heap h'->Q x { s with heap:=h' }):wpAny (model prog w) A (Builtin.SmallTypes.nextOf (.ref it)) Q E s:=by
  cases tp with
  | false=>exact wpAny_nextOf_list_item (show s.heap.IsListIter it l i from ht) (show s.heap.IsList l xs from hq) hx k
  | true=>
    have ht:s.heap.IsTupleIter it l i:=ht;obtain ⟨ob,eb,cb,db⟩:=id ht;obtain ⟨ol,el,_,nl,dl⟩:=(show s.heap.IsTuple l xs from hq);unfold Builtin.SmallTypes.nextOf;refine wpAny_bind (wpAny_callSpecial?_slot (name:=Str.ofString "__next__") ht.typeIs F.slot_tuple_iterator_next (wpAny_call_entry F.slot_tuple_iterator_next ht.typeIs F.entry_tuple_iterator_next ?_ (F.args_tuple_iterator_next_1 _)));show wpAny _ _ (field (.ref it) 0 >>= _) _ _ s;refine wpAny_bind (wpAny_field eb db (x:= .ref l) rfl ?_);show wpAny _ _ (if (Value.ref l == Value.none)=true then _ else _) _ _ s;rw [if_neg (show ¬ ((Value.ref l == Value.none)=true) from Bool.false_ne_true)];show wpAny _ _ (field (.ref it) 1 >>= _) _ _ s;refine wpAny_bind (wpAny_field eb db (x:= .int i 0) rfl ?_);show wpAny _ _ (seqItems? (.ref l) >>= _) _ _ s;refine wpAny_bind (wpAny_seqItems el dl ?_);simp only [Int.toNat_natCast,hx];refine wpAny_bind (wpAny_setField eb db (by simp) (wpAny_pure ⟨x,rfl,wpAny_pure (k _ ?_ (Heap.SameBut.update ..))⟩));exact (show Heap.IsTupleIter _ it l (i+1) from ⟨_,Heap.get?_update_self _ eb (Obj.isFreed_of_fields (Obj.data_mapFields db _)),(Obj.cls_mapFields ..).trans cb,by rw [Obj.data_mapFields db];simp [rawInt]⟩)
theorem Ee {tp:Bool} {it l:Addr} {i:Nat} {xs:Array Value} {Q:Value->Shared->Prop} (hh:A.handled=none) (ht:A8 tp s.heap it l i) (hq:A9 tp s.heap l xs) (hx:xs[i]?=none)
    (k:∀ h' e,Heap.ExtBut it s.heap h'->(∃ o,h'.get? e=some o/\o.cls= .type "StopIteration")->E (.ref e) { s with heap:=h' }):wpAny (model prog w) A (Builtin.SmallTypes.nextOf (.ref it)) Q E s:=by
  cases tp with
  | false=>exact wpAny_nextOf_list_end hh (show s.heap.IsListIter it l i from ht) (show s.heap.IsList l xs from hq) hx k
  | true=>
    have ht:s.heap.IsTupleIter it l i:=ht;obtain ⟨ob,eb,cb,db⟩:=id ht;obtain ⟨ol,el,_,nl,dl⟩:=(show s.heap.IsTuple l xs from hq);unfold Builtin.SmallTypes.nextOf;refine wpAny_bind (wpAny_callSpecial?_slot (name:=Str.ofString "__next__") ht.typeIs F.slot_tuple_iterator_next (wpAny_call_entry F.slot_tuple_iterator_next ht.typeIs F.entry_tuple_iterator_next ?_ (F.args_tuple_iterator_next_1 _)));show wpAny _ _ (field (.ref it) 0 >>= _) _ _ s;refine wpAny_bind (wpAny_field eb db (x:= .ref l) rfl ?_);show wpAny _ _ (if (Value.ref l == Value.none)=true then _ else _) _ _ s;rw [if_neg (show ¬ ((Value.ref l == Value.none)=true) from Bool.false_ne_true)];show wpAny _ _ (field (.ref it) 1 >>= _) _ _ s;refine wpAny_bind (wpAny_field eb db (x:= .int i 0) rfl ?_);show wpAny _ _ (seqItems? (.ref l) >>= _) _ _ s;refine wpAny_bind (wpAny_seqItems el dl ?_);simp only [Int.toNat_natCast,hx];refine wpAny_bind (wpAny_rule (wpAny_bind (wpAny_setField eb db (by simp) ?_)));show wpAny _ _ (newExc (.type "StopIteration") [] >>= _) _ _ _;refine wpAny_bind ?_;simp only [newExc,newTuple];refine wpAny_bind (wpAny_newObj_type ?_ (by size_fits));refine wpAny_bind (m:=firstArgMember _ _) (wpAny_of_eq (a:=Value.none) (by first | rfl | (simp only [firstArgMember];rfl)) ?_);refine wpAny_newObj_type ?_ (by size_fits);simp only [raiseNew];refine wpAny_bind (wpAny_handled ?_)
    first | rw [show A.in1.handled=none from hh] | rw [hh]
    exact wpAny_bind (wpAny_pure (wpAny_throw (k _ _ (((Heap.SameBut.update ..).extBut.push _).push _) ⟨_,Heap.get?_push_size _ rfl,rfl⟩)))
end
section
variable {prog:Program} {w:World} {A:Around} {E:Value->Shared->Prop} {s:Shared}
structure ZipSt (t1 t2:Bool) (h:Heap) (z TI TO i1 i2 l1 l2:Addr) (k:Nat):Prop where
  hz:IsZip h z TI TO .none
  hTI:IsPair h TI (.ref i1) (.ref i2)
  hTO:∃ c d,IsPair h TO c d
  h1:A8 t1 h i1 l1 k
  h2:A8 t2 h i2 l2 k
theorem Iv {t1 t2:Bool} {z TI TO i1 i2 l1 l2:Addr} {k:Nat} {xs ys:Array Value} {x y:Value} {Q:Value->Shared->Prop} (D:ZipApart z TI TO i1 i2 l1 l2) (Z:ZipSt t1 t2 s.heap z TI TO i1 i2 l1 l2 k)
    (q1:A9 t1 s.heap l1 xs) (q2:A9 t2 s.heap l2 ys) (hx:xs[k]?=some x) (hy:ys[k]?=some y)
    (fin:∀ h',IsZip h' z TI TO (rawInt s.heap.objs.size)->IsPair h' TO x y->A8 t1 h' i1 l1 (k+1)->A8 t2 h' i2 l2 (k+1)->IsPair h' s.heap.objs.size x y->
      (∀ c o,c≠z->c≠TO->c≠i1->c≠i2->s.heap.get? c=some o->h'.get? c=some o)->Q (.ref s.heap.objs.size) { s with heap:=h' }):
    wpAny (model prog w) A (Builtin.«zip.__next__» ⟨[.ref z],[]⟩) (λ fin s'=>∃ v,fin= .done (.ret v)/\Q v s') E s:=by
  obtain ⟨hz,hTI,⟨c0,d0,hTO⟩,g1,g2⟩:=Z;show wpAny _ _ (field (.ref z) 2 >>= _) _ _ _;refine wpAny_bind (wpAny_field hz rfl (x:= .bool false) rfl ?_);show wpAny _ _ (field (.ref z) 3 >>= _) _ _ _;refine wpAny_bind (wpAny_field hz rfl (x:= .ref TI) rfl (wpAny_bind (wpAny_seqItems hTI rfl ?_)));show wpAny _ _ (Builtin.SmallTypes.ownedTupleIsFree (.ref z) >>= _) _ _ _;refine wpAny_bind ?_;unfold Builtin.SmallTypes.ownedTupleIsFree;refine wpAny_bind (wpAny_field hz rfl (x:= .none) rfl (wpAny_pure ?_));simp only [if_true];refine wpAny_bind (wpAny_rule (wpAny_bind (wpAny_field hz rfl (x:= .ref TO) rfl (wpAny_bind (wpAny_setField_rec hz (by simp) λ a1 za b1=> ?_)))));replace za:IsZip a1 z TI TO .ellipsis:=za;refine wpAny_bind ?_;simp only [List.zipIdx_cons,List.zipIdx_nil,List.forIn_cons,List.forIn_nil];refine wpAny_bind (wpAny_bind (wpAny_onRaise ?_));show wpAny _ _ (Builtin.SmallTypes.nextOf (.ref i1) >>= _) _ _ _;refine wpAny_bind (Dp (s:={ s with heap:=a1 }) (Av g1 λ o e=>b1.extBut _ o D.i1z e) (Bs q1 λ o e=>b1.extBut _ o D.l1z e) hx λ a2 i1a b2=>wpAny_pure ?_);have to2:IsPair a2 TO c0 d0:=b2.extBut _ _ D.TOi1 (b1.extBut _ _ D.TOz hTO);refine wpAny_bind (wpAny_seqItems to2 rfl (wpAny_bind (wpAny_updateSeq_pair to2 λ a3 to3 b3=> ?_)));replace to3:IsPair a3 TO x d0:=to3;refine wpAny_bind (wpAny_letGo (wpAny_pure (wpAny_bind (wpAny_bind (wpAny_onRaise ?_)))));show wpAny _ _ (Builtin.SmallTypes.nextOf (.ref i2) >>= _) _ _ _;have up3:∀ c o,c≠z->c≠i1->c≠TO->s.heap.get? c=some o->a3.get? c=some o:=λ c o n1 n2 n3 e=>b3.extBut _ o n3 (b2.extBut _ o n2 (b1.extBut _ o n1 e));refine wpAny_bind (Dp (s:={ s with heap:=a3 }) (Av g2 λ o e=>up3 _ o D.i2z D.i12.symm D.TOi2.symm e) (Bs q2 λ o e=>up3 _ o D.l2z D.l2i1 D.l2TO e) hy λ a4 i2a b4=>wpAny_pure ?_);have to4:IsPair a4 TO x d0:=b4.extBut _ _ D.TOi2 to3;refine wpAny_bind (wpAny_seqItems to4 rfl (wpAny_bind (wpAny_updateSeq_pair to4 λ a5 to5 b5=> ?_)));replace to5:IsPair a5 TO x y:=to5;refine wpAny_bind (wpAny_letGo (wpAny_pure (wpAny_pure (wpAny_bind (wpAny_seqItems to5 rfl (wpAny_bind (wpAny_newTuple ?_)))))));have sz:a5.objs.size=s.heap.objs.size:=by rw [b5.1,b4.1,b3.1,b2.1,b1.1]
  have z5:IsZip a5 z TI TO .ellipsis:=b5.extBut _ _ D.TOz.symm (b4.extBut _ _ D.i2z.symm (b3.extBut _ _ D.TOz.symm (b2.extBut _ _ D.i1z.symm za)));have k5:∀ c o,c≠z->c≠TO->c≠i1->c≠i2->s.heap.get? c=some o->a5.get? c=some o:=λ c o n1 n2 n3 n4 e=>b5.extBut _ _ n2 (b4.extBut _ _ n4 (up3 c o n1 n3 n2 e));have f1:A8 t1 a5 i1 l1 (k+1):=Av i1a λ o e=>b5.extBut _ o D.TOi1.symm (b4.extBut _ o D.i12 (b3.extBut _ o D.TOi1.symm e));have f2:A8 t2 a5 i2 l2 (k+1):=Av i2a λ o e=>b5.extBut _ o D.TOi2.symm e;have zlt:z<a5.objs.size:=Heap.lt_size z5;show wpAny _ _ (Builtin.SmallTypes.ownedTupleHandOut (.ref z) (.ref a5.objs.size) >>= _) _ _ _;refine wpAny_bind ?_;unfold Builtin.SmallTypes.ownedTupleHandOut;have z6:IsZip (a5.push { cls:= .type "tuple",data:= .seq #[x,y] }) z TI TO .ellipsis:=Heap.get?_push_of_some _ z5;refine wpAny_bind (wpAny_setField_rec z6 (by simp) λ a7 z7 b7=> ?_);replace z7:IsZip a7 z TI TO (rawInt a5.objs.size):=z7;refine wpAny_setField_rec z7 (by simp) λ a8 z8 b8=> ?_;replace z8:IsZip a8 z TI TO (rawInt a5.objs.size):=z8;have up:∀ c o,c≠z->a5.get? c=some o->a8.get? c=some o:=λ c o n e=>b8.extBut _ _ n (b7.extBut _ _ n (Heap.get?_push_of_some _ e));have t8:IsPair a8 a5.objs.size x y:=b8.extBut _ _ (Nat.ne_of_gt zlt) (b7.extBut _ _ (Nat.ne_of_gt zlt) (Heap.get?_push_size _ rfl));rw [sz] at z8 t8;refine wpAny_pure ⟨_,rfl,?_⟩;show Q (.ref a5.objs.size) _;rw [sz];exact fin a8 z8 (up _ _ D.TOz to5) (Av f1 λ o e=>up _ o D.i1z e) (Av f2 λ o e=>up _ o D.i2z e) t8 λ c o n1 n2 n3 n4 e=>up c o n1 (k5 c o n1 n2 n3 n4 e)
theorem JM {t1 t2:Bool} {z TI TO i1 i2 l1 l2:Addr} {k:Nat} {xs ys:Array Value} {Q:Fin->Shared->Prop} (hh:A.handled=none) (D:ZipApart z TI TO i1 i2 l1 l2) (Z:ZipSt t1 t2 s.heap z TI TO i1 i2 l1 l2 k)
    (q1:A9 t1 s.heap l1 xs) (q2:A9 t2 s.heap l2 ys) (hend:xs[k]?=none\/ys[k]?=none)
    (fin:∀ h' e,(∀ c o,c≠z->c≠TO->c≠i1->c≠i2->s.heap.get? c=some o->h'.get? c=some o)->(∃ o,h'.get? e=some o/\o.cls= .type "StopIteration")->E (.ref e) { s with heap:=h' }):
    wpAny (model prog w) A (Builtin.«zip.__next__» ⟨[.ref z],[]⟩) Q E s:=by
  obtain ⟨hz,hTI,⟨c0,d0,hTO⟩,g1,g2⟩:=Z;show wpAny _ _ (field (.ref z) 2 >>= _) _ _ _;refine wpAny_bind (wpAny_field hz rfl (x:= .bool false) rfl ?_);show wpAny _ _ (field (.ref z) 3 >>= _) _ _ _;refine wpAny_bind (wpAny_field hz rfl (x:= .ref TI) rfl (wpAny_bind (wpAny_seqItems hTI rfl ?_)));show wpAny _ _ (Builtin.SmallTypes.ownedTupleIsFree (.ref z) >>= _) _ _ _;refine wpAny_bind ?_;unfold Builtin.SmallTypes.ownedTupleIsFree;refine wpAny_bind (wpAny_field hz rfl (x:= .none) rfl (wpAny_pure ?_));simp only [if_true];refine wpAny_bind (wpAny_rule (wpAny_bind (wpAny_field hz rfl (x:= .ref TO) rfl (wpAny_bind (wpAny_setField_rec hz (by simp) λ a1 za b1=> ?_)))));replace za:IsZip a1 z TI TO .ellipsis:=za;refine wpAny_bind ?_;simp only [List.zipIdx_cons,List.zipIdx_nil,List.forIn_cons,List.forIn_nil];refine wpAny_bind (wpAny_bind (wpAny_onRaise ?_));show wpAny _ _ (Builtin.SmallTypes.nextOf (.ref i1) >>= _) _ _ _;have g1':=Av g1 λ o e=>b1.extBut _ o D.i1z e;have q1':=Bs q1 λ o e=>b1.extBut _ o D.l1z e;cases hx:xs[k]? with
  | none=>
    refine wpAny_bind (Ee (s:={ s with heap:=a1 }) hh g1' q1' hx λ a2 e b2 he=> ?_);obtain ⟨oe,eo,ce⟩:=he;have z2:IsZip a2 z TI TO .ellipsis:=b2 _ _ D.i1z.symm za;have nz:e≠z:=λ q=>by subst q;rw [z2] at eo;cases eo;simp at ce
    exact wpAny_setField_rec z2 (by simp) λ a3 _ b3=>fin a3 e (λ c o n1 _ n3 _ q=>b3.extBut _ _ n1 (b2 _ _ n3 (b1.extBut _ _ n1 q))) ⟨oe,b3.extBut _ _ nz eo,ce⟩
  | some x=>
    have hy:ys[k]?=none:=by
      rcases hend with q | q
      · rw [hx] at q;cases q
      · exact q
    refine wpAny_bind (Dp (s:={ s with heap:=a1 }) g1' q1' hx λ a2 i1a b2=>wpAny_pure ?_);have to2:IsPair a2 TO c0 d0:=b2.extBut _ _ D.TOi1 (b1.extBut _ _ D.TOz hTO);refine wpAny_bind (wpAny_seqItems to2 rfl (wpAny_bind (wpAny_updateSeq_pair to2 λ a3 to3 b3=> ?_)));refine wpAny_bind (wpAny_letGo (wpAny_pure (wpAny_bind (wpAny_bind (wpAny_onRaise ?_)))));show wpAny _ _ (Builtin.SmallTypes.nextOf (.ref i2) >>= _) _ _ _;have up3:∀ c o,c≠z->c≠i1->c≠TO->s.heap.get? c=some o->a3.get? c=some o:=λ c o n1 n2 n3 e=>b3.extBut _ o n3 (b2.extBut _ o n2 (b1.extBut _ o n1 e));refine wpAny_bind (Ee (s:={ s with heap:=a3 }) hh (Av g2 λ o e=>up3 _ o D.i2z D.i12.symm D.TOi2.symm e) (Bs q2 λ o e=>up3 _ o D.l2z D.l2i1 D.l2TO e) hy λ a4 e b4 he=> ?_);obtain ⟨oe,eo,ce⟩:=he;have z4:IsZip a4 z TI TO .ellipsis:=b4 _ _ D.i2z.symm (b3.extBut _ _ D.TOz.symm (b2.extBut _ _ D.i1z.symm za));have nz:e≠z:=λ q=>by subst q;rw [z4] at eo;cases eo;simp at ce
    exact wpAny_setField_rec z4 (by simp) λ a5 _ b5=>fin a5 e (λ c o n1 n2 n3 n4 q=>b5.extBut _ _ n1 (b4 _ _ n4 (up3 c o n1 n3 n2 q))) ⟨oe,b5.extBut _ _ nz eo,ce⟩
def Fs (tp:Bool):String:=if tp=true then "tuple_iterator" else "list_iterator"
theorem Ei {tp:Bool} {l:Addr} {xs:Array Value} {Q:Value->Shared->Prop} (hq:A9 tp s.heap l xs) (k:Q (.ref s.heap.objs.size) { s with heap:=s.heap.push { cls:= .type (Fs tp),data:= .fields #[.ref l, .int 0 0] } }):
    wpAny (model prog w) A (pyIter (.ref l)) Q E s:=by
  cases tp with
  | false=>exact wpAny_pyIter_list (show s.heap.IsList l xs from hq) k
  | true=>exact wpAny_pyIter_tuple (show s.heap.IsTuple l xs from hq) k
theorem DE {tp:Bool} {h:Heap} {l:Addr}:A8 tp (h.push { cls:= .type (Fs tp),data:= .fields #[.ref l, .int 0 0] }) h.objs.size l 0:=by
  cases tp with
  | false=>exact (show Heap.IsListIter _ _ l 0 from ⟨_,Heap.get?_push_size _ rfl,rfl,rfl⟩)
  | true=>exact (show Heap.IsTupleIter _ _ l 0 from ⟨_,Heap.get?_push_size _ rfl,rfl,rfl⟩)
abbrev zs1 (t1:Bool) (h:Heap) (l1:Addr):Heap:=h.push { cls:= .type (Fs t1),data:= .fields #[.ref l1, .int 0 0] }
abbrev zs2 (t1 t2:Bool) (h:Heap) (l1 l2:Addr):Heap:=(zs1 t1 h l1).push { cls:= .type (Fs t2),data:= .fields #[.ref l2, .int 0 0] }
abbrev zs3 (t1 t2:Bool) (h:Heap) (l1 l2:Addr):Heap:=(zs2 t1 t2 h l1 l2).push { cls:= .type "tuple",data:= .seq #[.ref h.objs.size, .ref (zs1 t1 h l1).objs.size] }
abbrev zs4 (t1 t2:Bool) (h:Heap) (l1 l2:Addr):Heap:=(zs3 t1 t2 h l1 l2).push { cls:= .type "tuple",data:= .seq #[.none, .none] }
abbrev zs5 (t1 t2:Bool) (h:Heap) (l1 l2:Addr):Heap:=(zs4 t1 t2 h l1 l2).push { cls:= .type "zip",data:= .fields #[.none, .bool false, .bool false, .ref (zs2 t1 t2 h l1 l2).objs.size, .ref (zs3 t1 t2 h l1 l2).objs.size] }
theorem Hf (t1 t2:Bool) (l1 l2:Addr) (xs ys:Array Value):
    Meets (Builtin.«zip.__new__» ⟨[.type "zip", .ref l1, .ref l2],[]⟩) (λ _ R s=>A9 t1 s.heap l1 xs/\A9 t2 s.heap l2 ys/\
      R (.ok (.ret (.ref (zs4 t1 t2 s.heap l1 l2).objs.size))) { s with heap:=zs5 t1 t2 s.heap l1 l2 }):=
  .of_wp λ prog w A R s h=>by
    obtain ⟨hp,g,d,tk,os⟩:=s;obtain ⟨m1,m2,h⟩:=h;have hsub:=sub_zip;have M1:A9 t1 (Shared.heap ⟨hp,g,d,tk,os⟩) l1 xs:=m1;have M2:A9 t2 (Shared.heap ⟨hp.push { cls:= .type (Fs t1),data:= .fields #[.ref l1, .int 0 0] },g,d,tk,os⟩) l2 ys:=Bs m2 λ o e=>Heap.get?_push_of_some _ e
    wp_walk using Ei M1,Ei M2
    exact ⟨_,rfl,h⟩
theorem Io {t1 t2:Bool} {l1 l2:Addr} {xs ys:Array Value} {Q:Value->Shared->Prop} (m1:A9 t1 s.heap l1 xs) (m2:A9 t2 s.heap l2 ys)
    (k:∀ h',ZipSt t1 t2 h' (s.heap.objs.size+4) (s.heap.objs.size+2) (s.heap.objs.size+3) s.heap.objs.size (s.heap.objs.size+1) l1 l2 0->
      (∀ c o,s.heap.get? c=some o->h'.get? c=some o)->Q (.ref (s.heap.objs.size+4)) { s with heap:=h' }):
    wpAny (model prog w) A (call (.type "zip") [.ref l1, .ref l2]) Q E s:=by
  refine callType_new F.called_zip (by decide) (F.typeCall_zip_2 _ _) (F.newCall_zip_2 _ _) (λ obj=>F.args_object_init_3 obj _ _) F.entry_zip_new (Hf t1 t2 l1 l2 xs ys) ⟨m1,m2,?_⟩;have n1:(zs1 t1 s.heap l1).objs.size=s.heap.objs.size+1:=Heap.size_push ..;have n2:(zs2 t1 t2 s.heap l1 l2).objs.size=s.heap.objs.size+2:=by rw [Heap.size_push,n1]
  have n3:(zs3 t1 t2 s.heap l1 l2).objs.size=s.heap.objs.size+3:=by rw [Heap.size_push,n2]
  have n4:(zs4 t1 t2 s.heap l1 l2).objs.size=s.heap.objs.size+4:=by rw [Heap.size_push,n3]
  have g5:(zs5 t1 t2 s.heap l1 l2).get? (zs4 t1 t2 s.heap l1 l2).objs.size=some _:=Heap.get?_push_size _ rfl;have g4:(zs5 t1 t2 s.heap l1 l2).get? (zs3 t1 t2 s.heap l1 l2).objs.size=some _:=Heap.get?_push_of_some _ (Heap.get?_push_size _ rfl);have g3:(zs5 t1 t2 s.heap l1 l2).get? (zs2 t1 t2 s.heap l1 l2).objs.size=some _:=Heap.get?_push_of_some _ (Heap.get?_push_of_some _ (Heap.get?_push_size _ rfl));have up2:∀ c o,(zs2 t1 t2 s.heap l1 l2).get? c=some o->(zs5 t1 t2 s.heap l1 l2).get? c=some o:=λ c o e=>Heap.get?_push_of_some _ (Heap.get?_push_of_some _ (Heap.get?_push_of_some _ e));have s2:A8 t2 (zs5 t1 t2 s.heap l1 l2) (zs1 t1 s.heap l1).objs.size l2 0:=Av DE λ o e=>up2 _ o e;have s1:A8 t1 (zs5 t1 t2 s.heap l1 l2) s.heap.objs.size l1 0:=Av DE λ o e=>up2 _ o (Heap.get?_push_of_some _ e);show _/\_;rw [n2,n3,n4] at g5;rw [n1,n2] at g3;rw [n3] at g4;rw [n1] at s2;rw [n4];exact ⟨⟨_,g5,rfl⟩,k _ ⟨g5,g3,⟨_,_,g4⟩,s1,s2⟩ λ c o e=>up2 c o (Heap.get?_push_of_some _ (Heap.get?_push_of_some _ e))⟩
end
def SqS (tp:Bool) (K:PySem.W.Frag) (H:Hp) (a:Addr) (xs:List V):Prop:=if tp=true then SqT K H a xs else SqL K H a xs
theorem Bl {X:Cx} {pins:List (Addr × Obj)} {σ:St} {H:Hp} {s:Shared} {tp:Bool} {a:Addr} {xs:List V} (I:Inv X pins σ H s) (h:SqS tp X.K H a xs):∃ its:List Value,Vals xs its/\A9 tp s.heap a its.toArray:=by
  cases tp with
  | false=>
    obtain ⟨its,r,p,_⟩:=I.list (show SqL X.K H a xs from h);exact ⟨its,r,(show s.heap.IsList a its.toArray from p.isList)⟩
  | true=>
    obtain ⟨its,r,p,_⟩:=I.tuple (show SqT X.K H a xs from h);exact ⟨its,r,(show s.heap.IsTuple a its.toArray from p)⟩
theorem FW {X:Cx} {pins:List (Addr × Obj)} {σ:St} {H:Hp} {s:Shared} {tp:Bool} {a:Addr} {xs ys:List V} (I:Inv X pins σ H s) (h:SqS tp X.K H a xs) (h2:SqS tp X.K H a ys):xs=ys:=by
  cases tp with
  | false=>exact I.list_inj h h2
  | true=>exact I.tuple_inj h h2
def Izs (t1 t2:Bool) (K:PySem.W.Frag) (a b:Addr):It:=
  ⟨λ i H=>∃ xs ys x y,SqS t1 K H a xs/\SqS t2 K H b ys/\xs[i]?=some x/\ys[i]?=some y,
   λ i H v H'=>∃ p x y,H p=none/\v= .ref p/\H'=upd H p (.tup [x,y])/\(∀ xs,SqS t1 K H a xs->xs[i]?=some x)/\∀ ys,SqS t2 K H b ys->ys[i]?=some y,
   λ i H=>∃ xs ys,SqS t1 K H a xs/\SqS t2 K H b ys/\(xs.length<=i\/ys.length<=i)⟩
theorem KO {P:Program} {w:World} {K:PySem.W.Frag} {elts:List Expr} {k:Nat} {pos:Pos} (t1 t2:Bool) (a b z TI TO i1 i2:Addr) (D:ZipApart z TI TO i1 i2 a b):
    Turn P w K (.Tuple elts k pos) (Izs t1 t2 K a b) [z,TI,TO,i1,i2] z (λ i h=>ZipSt t1 t2 h z TI TO i1 i2 a b i) where
  mem:=by simp
  obj:=λ i h st c hc=>by
    obtain ⟨hz,hTI,⟨x,y,hTO⟩,h1,h2⟩:=st;obtain ⟨o1,e1,d1⟩:=AX h1;obtain ⟨o2,e2,d2⟩:=AX h2;simp only [List.mem_cons,List.not_mem_nil,or_false] at hc;rcases hc with q | q | q | q | q
    · subst q;exact ⟨_,hz,λ v z=>by cases (show Data.fields _=Data.cell v from z)⟩
    · subst q;exact ⟨_,hTI,λ v z=>by cases (show Data.seq _ _=Data.cell v from z)⟩
    · subst q;exact ⟨_,hTO,λ v z=>by cases (show Data.seq _ _=Data.cell v from z)⟩
    · subst q;exact ⟨o1,e1,λ v z=>by rw [d1] at z;cases z⟩
    · subst q;exact ⟨o2,e2,λ v z=>by rw [d2] at z;cases z⟩
  keep:=λ i h h' st kp=>by
    obtain ⟨hz,hTI,⟨x,y,hTO⟩,h1,h2⟩:=st;exact ⟨kp z (by simp) _ hz,kp TI (by simp) _ hTI,⟨x,y,kp TO (by simp) _ hTO⟩,Av h1 λ o q=>kp i1 (by simp) o q,Av h2 λ o q=>kp i2 (by simp) o q⟩
  item:=by
    intro X hP hw hK hc i pins s σ H E I hf st hg;subst hP hw hK;obtain ⟨xs,ys,x,y,hq1,hq2,hx,hy⟩:=hg;obtain ⟨its,rv,p1⟩:=Bl I hq1;obtain ⟨its2,rv2,p2⟩:=Bl I hq2;obtain ⟨u,hu,ru⟩:=rv.get hx;obtain ⟨u2,hu2,ru2⟩:=rv2.get hy;have lt:∀ q∈[z,TI,TO,i1,i2],q<s.heap.objs.size:=λ q hq=>by
      obtain ⟨hz,hTI,⟨c,d,hTO⟩,h1,h2⟩:=id st;obtain ⟨_,e1,_⟩:=AX h1;obtain ⟨_,e2,_⟩:=AX h2;simp only [List.mem_cons,List.not_mem_nil,or_false] at hq;rcases hq with q' | q' | q' | q' | q'
      · subst q';exact Heap.lt_size hz
      · subst q';exact Heap.lt_size hTI
      · subst q';exact Heap.lt_size hTO
      · subst q';exact Heap.lt_size e1
      · subst q';exact Heap.lt_size e2
    have hT0:s.TypeIs (.ref z) "zip":=⟨_,st.hz,rfl⟩;unfold pyNext;refine wpAny_bind (wpAny_attempt (wpAny_callSpecial?_slot (name:=Str.ofString "__next__") hT0 F.slot_zip_next (wpAny_call_entry F.slot_zip_next hT0 F.entry_zip_next
      (Iv D st p1 p2 (x:=u) (y:=u2) (by simpa using hu) (by simpa using hu2) λ h' hz' hTO' h1' h2' hT hk=>wpAny_pure ?_) (F.args_zip_next_1 _))))
    have I0:=I.laid (h':=s.heap.push { cls:= .type "tuple",data:= .seq #[u,u2] }) (a:=s.heap.objs.size) (o:= .tup [x,y]) (t':=s.toks) (λ _ _ q=>Heap.get?_push_of_some _ q) (Nat.le_refl _)
      ⟨(by show 2<=sizeLine;decide),[u,u2], .cons ru (.cons ru2 .nil),⟨_,Heap.get?_push_size _ rfl,rfl,_,rfl⟩⟩
    have f0:∀ b∈[z,TI,TO,i1,i2],B0 X pins (upd H s.heap.objs.size (.tup [x,y])) b:=λ b hb=>G9 (hf b hb) (Nat.ne_of_lt (lt b hb));have I1:=Inv.turnedL (t':=s.toks) (h':=h') [z,TI,TO,i1,i2] I0 f0 (λ b o hb q=>by
      rcases Heap.get?_push_cases (show (s.heap.push { cls:= .type "tuple",data:= .seq #[u,u2] }).get? b=some o from q) with ⟨q1,q2⟩ | q
      · rw [q1,q2];exact hT
      · exact hk b o (λ e=>hb (by simp [e])) (λ e=>hb (by simp [e])) (λ e=>hb (by simp [e])) (λ e=>hb (by simp [e])) q)
    refine ⟨.ref s.heap.objs.size,rfl,wpAny_letOwnedTupleGo_zip (s:={ s with heap:=h' }) hz' λ h3 hz3 sb=> ?_⟩;refine ⟨.ref s.heap.objs.size,_,Inv.turnedL (t':=s.toks) (h':=h3) [z,TI,TO,i1,i2] I1 f0 (λ b o hb q=>(sb.2 b λ e=>hb (by simp [e])).trans q),rfl,
      ⟨_,x,y,I.fresh,rfl,rfl,λ l hl=>by rw [FW I hl hq1];exact hx,λ l hl=>by rw [FW I hl hq2];exact hy⟩,
      ⟨hz3,(sb.2 TI D.TIz).trans (hk TI _ D.TIz D.TITO D.TIi1 D.TIi2 st.hTI),⟨u,u2,(sb.2 TO D.TOz).trans hTO'⟩,Av h1' λ o q=>(sb.2 i1 D.i1z).trans q,Av h2' λ o q=>(sb.2 i2 D.i2z).trans q⟩,λ b hb=>(f0 b hb).1⟩
  done:=by
    intro X hP hw hK hc i pins s σ H E I hf st hg;subst hP hw hK;obtain ⟨xs,ys,hq1,hq2,hx⟩:=hg;obtain ⟨its,rv,p1⟩:=Bl I hq1;obtain ⟨its2,rv2,p2⟩:=Bl I hq2;have hl:=rv.length;have hl2:=rv2.length;have hT0:s.TypeIs (.ref z) "zip":=⟨_,st.hz,rfl⟩;unfold pyNext;refine wpAny_bind (wpAny_attempt (wpAny_callSpecial?_slot (name:=Str.ofString "__next__") hT0 F.slot_zip_next (wpAny_call_entry F.slot_zip_next hT0 F.entry_zip_next
      (JM (I.ok.hd hc) D st p1 p2 (hx.elim (λ q=> .inl (by simp;omega)) λ q=> .inr (by simp;omega)) λ h' e eb he=> ?_) (F.args_zip_next_1 _))))
    obtain ⟨oe,eo,ce⟩:=he;refine wpAny_bind (wpAny_isInstance (T:="StopIteration") (b:=true) ⟨oe,eo,ce⟩ isSubtype_stop (wpAny_pure ?_));exact ⟨rfl,I.turnedL (t':=s.toks) [z,TI,TO,i1,i2] hf λ b o hb q=>eb b o (λ e=>hb (by simp [e])) (λ e=>hb (by simp [e])) (λ e=>hb (by simp [e])) (λ e=>hb (by simp [e])) q⟩
  self:=λ _ _ _ _ _ st h=>wpAny_pyIter_zip st.hz h
section
variable {X:Cx} {elts:List Expr} {k:Nat} {tpos:Pos} {K:PySem.W.Frag}
def iZs (K:PySem.W.Frag) (ta:TA):TI:=λ σ H R=>ta σ H λ vs H1=>∃ t1 t2 a b,vs=[.ref a, .ref b]/\(∃ xs,SqS t1 K H1 a xs)/\(∃ ys,SqS t2 K H1 b ys)/\R (Izs t1 t2 K a b) H1
theorem JY {l m:Expr} {ta:TA} {p pos:Pos} (hg:Gl X "zip") (hm:X.mg "zip"=none) (ha:PA X [l,m] ta) (hK:X.K=K:=by rfl) (hs:starEach [l,m] X.env=[(false,eval l X.env),(false,eval m X.env)]:=by rfl) (hs2:starEach [m] X.env=[(false,eval m X.env)]:=by rfl):
    PI X (.Tuple elts k tpos) (.Call (.Name "zip" p) [l,m] [] pos) (iZs K ta):=by
  subst hK;intro pins s σ H R I h;refine Call_ (BF I hg hm JP (PyProof.Rows.callWith_type1 (thn (ha pos pins s σ H _ I h) λ us s1 ⟨vs,H1,I1,r1,q1⟩=> ?_) (by rw [hs,hs2]) (by rw [hs2];rfl)));obtain ⟨t1,t2,a,b,e,⟨xs,hq⟩,⟨ys,hq2⟩,q⟩:=q1;subst e;cases r1 with
  | cons r rr=>
    cases rr with
    | cons r' rr=>
    cases rr;cases r;cases r';obtain ⟨its,rv,pl⟩:=Bl I1 hq;obtain ⟨its2,rv2,pl2⟩:=Bl I1 hq2;obtain ⟨oa,_,ea,_⟩:=Cp pl;obtain ⟨ob,_,eb,_⟩:=Cp pl2;refine Io pl pl2 λ h' st hk=> ?_;refine wpAny_pyIter_zip st.hz ?_;have I2:=I1.kept (t':=s1.toks) hk;refine ⟨s1.heap.objs.size+4,_,_,_,H1,rfl,I2,KO t1 t2 a b _ _ _ _ _ (PySem.W.ktu_apart s1.heap.objs.size a b (Heap.lt_size ea) (Heap.lt_size eb)),st,λ c hc=> ?_,q⟩;have hb':s1.heap.objs.size<=c:=by
      simp only [List.mem_cons,List.not_mem_nil,or_false] at hc;rcases hc with q | q | q | q | q <;> rw [q] <;> first | exact Nat.le_refl _ | exact Nat.le_add_right _ _
    exact I1.fpOk hb' (I1.hok.fresh hb')
end
section
variable {X:Cx} {K:PySem.W.Frag}
theorem Ay:bootBuiltins "list"=some (.type "list"):=by decide +kernel
theorem Au:bootBuiltins "tuple"=some (.type "tuple"):=by decide +kernel
def JG (K:PySem.W.Frag):List V->Hp->VK->Prop:=λ xs H Q=>∃ (x:V) (p:Addr) (ns:List String) (t:Value) (b:Bool),xs=[x, .ref p]/\H p=some (.tup (ns.map V.ty))/\TyOf K H x t/\PySem.W.kitAny K t (ns.map Value.type)=some b/\Q (.bl b) H
theorem Ht:∀ {ns:List String} {us:List Value},Vals (ns.map V.ty) us->us=ns.map Value.type
  | [],us,r=>by cases r;rfl
  | n::ns,us,r=>by
    cases r with
    | cons r1 r2=>
      cases r1;rw [Ht r2];rfl
theorem K8 (hK:X.K=K:=by rfl):Bg X (.builtin "isinstance") (JG K):=by
  subst hK;intro pins s σ H xs us Q I r h;obtain ⟨x,p,ns,t,b,rfl,hp,ty,e,q⟩:=h;obtain ⟨u,c,rfl,rx,rc⟩:=Lq r;cases rc;obtain ⟨_,its,rt,ot,e1,e2,nt,e3⟩:=(show ObjOk X.prog X.w H s.heap p (.tup (ns.map V.ty)) from I.hok p _ hp);have ei:=Ht rt;subst ei;have htp:s.heap.get? p=some ⟨.type "tuple",ot.dict, .seq (ns.map Value.type).toArray nt,ot.slots⟩:=by
    rw [e1];obtain ⟨c,d,da,sl⟩:=ot;simp only at e2 e3;rw [e2,e3]
  have fin:∀ tk,EP X pins σ Q (.bool b) { s with toks:=tk }:=λ tk=>⟨.bl b,H,I.tok tk,rfl,q⟩;cases ty with
  | non=>cases (show u=Value.none from rx);exact PySem.W.kia_tup PySem.W.kitx_none I.kIn True.intro htp e (λ z=>nomatch z) fin
  | bl y=>cases (show u=Value.bool y from rx);exact PySem.W.kia_tup PySem.W.kitx_bool I.kIn True.intro htp e (λ z=>nomatch z) fin
  | int i=>obtain ⟨t,q⟩:=(show ∃ t,u=Value.int i t from rx);cases q;exact PySem.W.kia_tup PySem.W.kitx_int I.kIn True.intro htp e (λ z=>nomatch z) fin
  | str y=>obtain ⟨t,q⟩:=(show ∃ t,u=Value.str y t from rx);cases q;exact PySem.W.kia_tup PySem.W.kitx_str I.kIn True.intro htp e (λ z=>nomatch z) fin
  | flt y=>obtain ⟨t,q⟩:=(show ∃ t,u=Value.float y t from rx);cases q;exact PySem.W.kia_tup PySem.W.kitx_float I.kIn True.intro htp e (λ z=>nomatch z) fin
  | @lst a xs ea=>
    cases (show u=Value.ref a from rx);obtain ⟨_,_,n,_,h1⟩:=(show ObjOk X.prog X.w H s.heap a (.lst xs) from I.hok a _ ea);exact PySem.W.kia_tup PySem.W.kitx_list I.kIn ⟨_,h1,rfl⟩ htp e (λ z=>nomatch z) fin
  | @frz a ob xs ea=>
    cases (show u=Value.ref a from rx);obtain ⟨_,_,_,n,_,h1⟩:=(show ObjOk X.prog X.w H s.heap a (.frz ob (.lst xs)) from I.hok a _ ea);exact PySem.W.kia_tup PySem.W.kitx_list I.kIn ⟨_,h1,rfl⟩ htp e (λ z=>nomatch z) fin
  | @tup a xs ea=>
    cases (show u=Value.ref a from rx);obtain ⟨_,_,_,p⟩:=(show ObjOk X.prog X.w H s.heap a (.tup xs) from I.hok a _ ea);obtain ⟨o,h1,h2,_⟩:=p;exact PySem.W.kia_tup PySem.W.kitx_tuple I.kIn ⟨o,h1,h2⟩ htp e (λ z=>nomatch z) fin
  | @dK a kvs ea=>
    cases (show u=Value.ref a from rx);obtain ⟨_,_,vs,_,p⟩:=(show ObjOk X.prog X.w H s.heap a (.dK kvs) from I.hok a _ ea);obtain ⟨o,es,ep,h1,h2,_⟩:=p;exact PySem.W.kia_tup PySem.W.kitx_dict I.kIn ⟨o,h1,h2.1⟩ htp e (λ z=>nomatch z) fin
  | @dT a kvs ea=>
    cases (show u=Value.ref a from rx);obtain ⟨_,_,xs,_,o,es,ep,h1,h2,_⟩:=(show ObjOk X.prog X.w H s.heap a (.dT kvs) from I.hok a _ ea);exact PySem.W.kia_tup PySem.W.kitx_dict I.kIn ⟨o,h1,h2.1⟩ htp e (λ z=>nomatch z) fin
  | @ins a C dx fs ea cl ha hn htk hm=>
    cases (show u=Value.ref a from rx);obtain ⟨mA,O,_⟩:=C6 I.hok ea;obtain ⟨od,J,_⟩:=O.look;exact PySem.W.kia_tup (PySem.W.kitx_own (cl.get _) cl.hd ha hn htk hm) I.kIn J htp e (λ z=>nomatch z) fin
theorem LR {es:List Expr} {k:Nat} {t:TGs} {n:Nat} {pos:Pos} (hc:X.calm=true) (h:PGs X es t) (hK:X.K=K:=by rfl)
    (hn:(assignEach es X.env).length=n:=by rfl) (hst:(assignEach es X.env).findIdx? (·.1)=none:=by rfl):PG X (.Tuple es k pos) (Es K n t):=by
  subst hK;exact Jl hc h hn hst
variable {scope:Scope} {fr:List (Str × Nat)}
theorem HU {x y:Str} {px py pt:Pos} {k:Nat} (h:CO X.env.scope X.N scope [x,y] fr=true) (hc:X.calm=true) (C:Addr) (ex:List Addr) (s:Shared) (H:Hp) (hK:X.K=K:=by rfl):
    PG (AI X scope [x,y] fr C ex s H) (.Tuple [.Name x px, .Name y py] k pt) (Es K 2 (A6 (Ax 0) (A6 (Ax 1) Fe))):=by
  subst hK;exact Jl (X:=AI X scope [x,y] fr C ex s H) hc (A4 (FZ h rfl C ex s H) (A4 (FZ h rfl C ex s H) HF))
theorem BH {elt iter:Expr} {x y:Str} {px py pt:Pos} {k:Nat} {ifs:List Expr} {pos:Pos} {wi:TI} {tc:TT} {te:TE} (hi:PI X (.Tuple [.Name x px, .Name y py] k pt) iter wi)
    (ht:∀ C ex s H,PTs (AI X scope [x,y] (Cr X.N scope) C ex s H) ifs tc) (he:∀ C ex s H,PE (AI X scope [x,y] (Cr X.N scope) C ex s H) elt te) (hK:X.K=K:=by rfl)
    (hb:CO X.env.scope X.N scope [x,y] (Cr X.N scope)=true:=by with_unfolding_all rfl) (hc:X.calm=true:=by rfl)
    (hs:∀ x,foldedSetIterable iter X.env x=pure x:=by intro _;rfl):PE X (.ListComp elt [⟨.Tuple [.Name x px, .Name y py] k pt,iter,ifs,0⟩] scope pos) (Ej wi [x,y] (Cr X.N scope) (Es K 2 (A6 (Ax 0) (A6 (Ax 1) Fe))) tc te):=
  Hs hc (.of hb) hi (λ C ex s H=>HU hb hc C ex s H hK) ht he hs
theorem IS {i:Nat} {v x y:Str} {pv px py pt spos:Pos} {k:Nat} {elt iter:Expr} {ifs:List Expr} {pos:Pos} {wi:TI} {tc:TT} {te:TE} (hN:X.N.Nodup) (hix:X.N[i]?=some v) (hx:Loc X.env.scope v) (hi:PI X (.Tuple [.Name x px, .Name y py] k pt) iter wi)
    (ht:∀ C ex s H,PTs (AI X scope [x,y] (Cr X.N scope) C ex s H) ifs tc) (he:∀ C ex s H,PE (AI X scope [x,y] (Cr X.N scope) C ex s H) elt te) (hK:X.K=K:=by rfl)
    (hb:CO X.env.scope X.N scope [x,y] (Cr X.N scope)=true:=by with_unfolding_all rfl) (hc:X.calm=true:=by rfl)
    (hsw:swapsWith (.ListComp elt [⟨.Tuple [.Name x px, .Name y py] k pt,iter,ifs,0⟩] scope pos) (some (.Name v pv)) spos.line X.env=pure true:=by rfl)
    (hf:X.fn v=true\/X.env.scope.names.lookup v=some .local:=by first | exact .inl rfl | exact .inr rfl | assumption)
    (hs:∀ x,foldedSetIterable iter X.env x=pure x:=by intro _;rfl):
    PS X (.Assign [.Name v pv] (.ListComp elt [⟨.Tuple [.Name x px, .Name y py] k pt,iter,ifs,0⟩] scope pos) spos) (IM (Ej wi [x,y] (Cr X.N scope) (Es K 2 (A6 (Ax 0) (A6 (Ax 1) Fe))) tc te) (Ax i)):=
  HW hN hix hx hc (.of hb) hi (λ C ex s H=>HU hb hc C ex s H hK) ht he hsw hf hs
end
section
variable {K:PySem.W.Frag} {D:Addr} {σ0:St} {tc:TT} {te:TE} {Q:VK} {H:Hp}
theorem Ky {t1 t2:Bool} {a b:Addr} {xs zs:List V} (hlen:xs.length=zs.length) (Pv:Nat->List V->Hp->Prop) (h0:Pv 0 [] (upd H D (.lst [])))
    (hl:∀ i ys H,i<=xs.length->Pv i ys H->SqS t1 K H a xs/\SqS t2 K H b zs)
    (hs:∀ i x z ys H p,xs[i]?=some x->zs[i]?=some z->Pv i ys H->H p=none->Kp σ0 ((σ0.set 0 (some x)).set 1 (some z))/\tc ((σ0.set 0 (some x)).set 1 (some z)) (upd H p (.tup [x,z])) λ b H3=>
      if b=true then te ((σ0.set 0 (some x)).set 1 (some z)) H3 λ y H4=>H4 D=some (.lst ys)/\ys.length<sizeLine/\Pv (i+1) (ys++[y]) (upd H4 D (.lst (ys++[y]))) else Pv (i+1) ys H3)
    (hd:∀ ys H,Pv xs.length ys H->Q (.ref D) H):
    CN (Izs t1 t2 K a b) σ0 (Es K 2 (A6 (Ax 0) (A6 (Ax 1) Fe))) tc te Q H D:=by
  refine ⟨λ i m ys H=>m=xs.length - i/\i<=xs.length/\Pv i ys H,⟨_,rfl,Nat.zero_le _,h0⟩,?_⟩;rintro i m ys H ⟨rfl,hi,p⟩;obtain ⟨q1,q2⟩:=hl i ys H hi p;by_cases hlt:i<xs.length
  · refine .inr ⟨⟨xs,zs,xs[i],zs[i]'(by omega),q1,q2,by simp [hlt],by simp⟩,Pv (i+1),λ ys' H' p'=>⟨xs.length - (i+1),by omega,rfl,hlt,p'⟩,λ x H' y=> ?_⟩;obtain ⟨pp,v,z,hp,rfl,rfl,hv,hz⟩:=y;exact ⟨pp,_,rfl,SqT.of Ag,rfl,_,_,rfl,_,_,rfl,rfl,hs i v z ys H pp (hv xs q1) (hz zs q2) p hp⟩
  · have e:i=xs.length:=by omega
    subst e;exact .inl ⟨⟨xs,zs,q1,q2, .inl (Nat.le_refl _)⟩,hd ys H p⟩
end
inductive Dt where
  | non | bl (b:Bool) | int (i:Int) | str (z:Str) | lst (xs:List Dt) | tup (xs:List Dt)
inductive Rp (H:Hp) (F:Addr->Prop):Nat->V->Dt->Prop where
  | non {n:Nat}:Rp H F n .non .non
  | bl {n:Nat} (b:Bool):Rp H F n (.bl b) (.bl b)
  | int {n:Nat} (i:Int):Rp H F n (.int i) (.int i)
  | str {n:Nat} (z:Str):Rp H F n (.str z) (.str z)
  | lst {n:Nat} {a:Addr} {vs:List V} {ds:List Dt} (h:H a=some (.lst vs)) (f:F a) (b:vs.length<=100000) (l:vs.length=ds.length) (e:∀ (i:Nat) (v:V) (d:Dt),vs[i]?=some v->ds[i]?=some d->Rp H F n v d):Rp H F (n+1) (.ref a) (.lst ds)
  | tup {n:Nat} {a:Addr} {vs:List V} {ds:List Dt} (h:H a=some (.tup vs)) (b:vs.length<=100000) (l:vs.length=ds.length) (e:∀ (i:Nat) (v:V) (d:Dt),vs[i]?=some v->ds[i]?=some d->Rp H F n v d):Rp H F (n+1) (.ref a) (.tup ds)
theorem Rp.mono {H H':Hp} {F F':Addr->Prop} {n:Nat} {v:V} {d:Dt} (r:Rp H F n v d) (k:∀ a o,H a=some o->(∀ xs,o= .lst xs->F a)->H' a=some o) (f:∀ a,F a->F' a):Rp H' F' n v d:=by
  induction r with
  | non=>exact .non
  | bl b=>exact .bl b
  | int i=>exact .int i
  | str z=>exact .str z
  | lst h p b l e ih=>exact .lst (k _ _ h λ _ _=>p) (f _ p) b l λ i v d h1 h2=>ih i v d h1 h2
  | tup h b l e ih=>exact .tup (k _ _ h λ xs q=>by cases q) b l λ i v d h1 h2=>ih i v d h1 h2
theorem Rp.same {H H':Hp} {F:Addr->Prop} {n:Nat} {v:V} {d:Dt} (r:Rp H F n v d) (s:Same H H'):Rp H' F n v d:=r.mono (λ a o h _=>s a o h) λ _ h=>h
theorem Rp.imp {H:Hp} {F F':Addr->Prop} {n:Nat} {v:V} {d:Dt} (r:Rp H F n v d) (f:∀ a,F a->F' a):Rp H F' n v d:=r.mono (λ a o h _=>h) f
theorem Rp.up {H:Hp} {F:Addr->Prop} {n m:Nat} {v:V} {d:Dt} (r:Rp H F n v d) (h:n<=m):Rp H F m v d:=by
  induction r generalizing m with
  | non=>exact .non
  | bl b=>exact .bl b
  | int i=>exact .int i
  | str z=>exact .str z
  | lst h p b l e ih=>
    cases m with
    | zero=>exact absurd h (by omega)
    | succ m=>exact .lst ‹_› p b l λ i v d h1 h2=>ih i v d h1 h2 (by omega)
  | tup h b l e ih=>
    cases m with
    | zero=>exact absurd h (by omega)
    | succ m=>exact .tup ‹_› b l λ i v d h1 h2=>ih i v d h1 h2 (by omega)
abbrev FT:Addr->Prop:=λ _=>True
abbrev FN (H:Hp):Addr->Prop:=λ a=>H a=none
theorem Rp.any {H:Hp} {F:Addr->Prop} {n:Nat} {v:V} {d:Dt} (r:Rp H F n v d):Rp H FT n v d:=r.imp λ _ _=>trivial
theorem Rp.new {H:Hp} {F:Addr->Prop} {n:Nat} {v:V} {d:Dt} {p:Addr} {o:HO} (r:Rp H F n v d) (h:H p=none):Rp (L2.upd H p o) F n v d:=r.same λ b u e=>by rw [Ao (Ap e h)];exact e
def Ly (ns:List Int):Dt:= .lst (ns.map .int)
theorem Hu {H:Hp} {F:Addr->Prop} {n:Nat} {v:V} {ns:List Int} (r:Rp H F n v (Ly ns)):∃ a,v= .ref a/\H a=some (.lst (ns.map V.int))/\F a:=by
  unfold Ly at r;cases r with
  | @lst n a vs _ h f b l e=>
    refine ⟨a,rfl,?_,f⟩;rw [h];congr 2;refine List.ext_getElem (by simpa using l) λ i h1 h2=> ?_;have h2':i<ns.length:=by simpa using h2
    have:=e i vs[i] (.int ns[i]) (by simp [h1]) (by simp [h2']);cases hv:vs[i] <;> rw [hv] at this <;> cases this;simp
section
variable {t u:TS} {D:Ends} {σ:St} {H:Hp} {te ta tb tk:TE} {tt tu:TT} {g:TG} {Q:VK} {QT:Bool->Hp->Prop} {QA:List V->Hp->Prop} {i:Nat} {v x y:V} {r:R2} {tr:TA} {K:PySem.W.Frag}
theorem FP (h:D.nx σ H):Lp D σ H:=h
theorem My (h:te σ H λ x H1=>g x σ H1 D.nx):IM te g D σ H:=h
theorem FY {QS:St->Hp->Prop} (h:QS (σ.set i (some v)) H):Ax i v σ H QS:=h
theorem MO (e:σ[i]?=some (some v)) (h:Q v H):Mi i σ H Q:=⟨v,e,h⟩
theorem OG (h:Q v H):tC v σ H Q:=h
theorem Np (h:ta σ H λ x H1=>tb σ H1 λ y H2=>r x y H2 Q):tOp r ta tb σ H Q:=h
theorem AH {C:Int->Int->Prop} {gg:Int->Int->V} {a b:Int} (c:C a b) (h:Q (gg a b) H):rI C gg (.int a) (.int b) H Q:=⟨a,b,rfl,rfl,c,h⟩
theorem LN {gg:Int->Int->V} {a b:Int} (h:Q (gg a b) H):rI0 gg (.int a) (.int b) H Q:=⟨a,b,rfl,rfl,h⟩
theorem Me {a b:Int} (h:Q (.bl (decide (a=b))) H):rEq (.int a) (.int b) H Q:=⟨rfl,by rw [show decide (V.int a=V.int b)=decide (a=b) by rw [Bool.eq_iff_iff];simp];exact h⟩
theorem L9 {a b:Int} (h:Q (.bl (!decide (a=b))) H):rNe (.int a) (.int b) H Q:=⟨rfl,by rw [show decide (V.int a=V.int b)=decide (a=b) by rw [Bool.eq_iff_iff];simp];exact h⟩
theorem LE {a b:Bool} (h:Q (.bl (decide (a=b))) H):rEq (.bl a) (.bl b) H Q:=⟨rfl,by rw [show decide (V.bl a=V.bl b)=decide (a=b) by rw [Bool.eq_iff_iff];simp];exact h⟩
theorem LZ {a b:Bool} (h:Q (.bl (!decide (a=b))) H):rNe (.bl a) (.bl b) H Q:=⟨rfl,by rw [show decide (V.bl a=V.bl b)=decide (a=b) by rw [Bool.eq_iff_iff];simp];exact h⟩
theorem LK (h:tt σ H λ c H1=>QT (!c) H1):MU tt σ H QT:=h
theorem Kw (h:te σ H λ x H'=>∃ k,x= .bl k/\QT k H'):Lg te σ H QT:=h
theorem M3 (h:te σ H λ x H'=>∃ k,x= .bl k/\QT k H'):tB te σ H QT:=h
theorem MW {b:Bool} {R:Bool->Prop} (h:R b):∃ k,V.bl b= .bl k/\R k:=⟨b,rfl,h⟩
theorem Nm (h:tt σ H λ c H1=>if c=true then QT true H1 else tu σ H1 QT):tOr tt tu σ H QT:=h
theorem KH (h:ta σ H λ x H1=>∃ c,x= .bl c/\if c=true then tb σ H1 Q else Q (.bl false) H1):Li ta tb σ H Q:=h
theorem KM (h:ta σ H λ x H1=>∃ c,x= .bl c/\Q (.bl (!c)) H1):Lo ta σ H Q:=h
theorem LW (h:tt σ H λ b H1=>if b=true then t D σ H1 else u D σ H1):KI tt t u D σ H:=h
theorem MZ (h:tt σ H λ c H1=>if c=true then ta σ H1 Q else tb σ H1 Q):tIf tt ta tb σ H Q:=h
theorem MP (h:te σ H D.rt):Nj te D σ H:=h
theorem K4 (h:te σ H λ _ H1=>D.nx σ H1):Lj te D σ H:=h
theorem LD (h:QA [] H):K6 σ H QA:=h
theorem Kd (h:te σ H λ x H1=>tr σ H1 λ xs H2=>QA (x::xs) H2):Lx te tr σ H QA:=h
theorem LO (h:tr σ H λ xs H1=>xs.length<=sizeLine/\∀ p,H1 p=none->Q (.ref p) (upd H1 p (.lst xs))):NA tr σ H Q:=h
theorem L8 (h:tr σ H λ xs H1=>xs.length<=sizeLine/\∀ p,H1 p=none->Q (.ref p) (upd H1 p (.tup xs))):Nq tr σ H Q:=h
theorem Nn {rr:List V->Hp->VK->Prop} (h:tr σ H λ vs H1=>rr vs H1 Q):tCB rr tr σ H Q:=h
theorem KU {sp:Sp} {E:XK} (h:tr σ H λ vs H1=>sp vs H1 Q E):HM sp [] E tr σ H Q:=by
  unfold HM;simpa using h
theorem Na {rs:V->Option Int->Option Int->Hp->VK->Prop} {tl th:TO} (h:te σ H λ x H1=>tl σ H1 λ l H2=>th σ H2 λ u H3=>rs x l u H3 Q):tSl rs te tl th σ H Q:=h
theorem Lf {QO:Option Int->Hp->Prop} (h:te σ H λ x H1=>∃ i,x= .int i/\QO (some i) H1):Lv te σ H QO:=h
theorem Ie {QO:Option Int->Hp->Prop} (h:QO none H):HS σ H QO:=h
theorem Md {a:Int} {R:Int->Prop} (h:R a):∃ k,V.int a= .int k/\R k:=⟨a,rfl,h⟩
theorem LU {p:Addr} {xs:List V} {lo hi:Option Int} (c:SqL K H p xs) (h:∀ q,H q=none->Q (.ref q) (upd H q (.lst (F1 xs lo hi)))):Mv K (.ref p) lo hi H Q:=⟨p,xs,rfl,c,h⟩
theorem Kz {z:Str} (c:z.length<=sizeLine) (h:Q (.int z.length) H):JU K [.str z] H Q:=⟨_,_,rfl,⟨c,rfl⟩,h⟩
theorem Bo {p:Addr} {xs:List V} (c:SqL K H p xs) (h:Q (.int xs.length) H):JU K [.ref p] H Q:=⟨_,_,rfl, .inl ⟨xs,c,rfl⟩,h⟩
theorem HR {p:Addr} {xs:List V} (c:SqT K H p xs) (h:Q (.int xs.length) H):JU K [.ref p] H Q:=⟨_,_,rfl, .inr ⟨xs,c,rfl⟩,h⟩
theorem Mm {p:Addr} {ns:List Int} (c:SqL K H p (ns.map V.int)) (h:Q (.int ns.sum) H):MR K [.ref p] H Q:=⟨p,ns,rfl,c,h⟩
theorem Er {p:Addr} {bs:List Bool} (c:SqL K H p (bs.map V.bl)) (h:Q (.bl (bs.all id)) H):M6 K [.ref p] H Q:=⟨p,bs,rfl,c,h⟩
theorem AL {n:String} {ty:Value} {b:Bool} (c:TyOf K H x ty) (e:PySem.W.kitOne K ty (.type n)=some b) (h:Q (.bl b) H):Lk K [x, .ty n] H Q:=⟨x,n,ty,b,rfl,c,e,h⟩
theorem BD {p:Addr} {xs:List V} {k:Int} (c:SqL K H p xs) (e:atI xs k=some v) (h:Q v H):L7 K (.ref p) (.int k) H Q:=⟨p,xs,k,v,rfl,rfl,c,e,h⟩
theorem Cd {p:Addr} {xs:List V} {k:Int} (c:SqT K H p xs) (e:atI xs k=some v) (h:Q v H):Mt K (.ref p) (.int k) H Q:=⟨p,xs,k,v,rfl,rfl,c,e,h⟩
theorem Ju {z:Str} {k:Int} {c:Nat} (l:z.length<=sizeLine) (e:atI z.cps.toList k=some c) (h:Q (.str ⟨#[c]⟩) H):ND (.str z) (.int k) H Q:=⟨z,k,c,rfl,rfl,l,e,h⟩
theorem Mp {xs:List V} {B:Prop} (c:xs.length<=1000) (h:B):xs.length<=sizeLine/\B:=⟨Nat.le_trans c (by decide),h⟩
end
theorem Js {p A B:Prop} [Decidable p] (h1:p->A) (h2:¬ p->B):if decide p=true then A else B:=by
  by_cases h:p
  · rw [if_pos (decide_eq_true h)];exact h1 h
  · rw [if_neg (λ q=>h (of_decide_eq_true q))];exact h2 h
theorem NF {p A B:Prop} [Decidable p] (h1:¬ p->A) (h2:p->B):if (!decide p)=true then A else B:=by
  by_cases h:p
  · rw [decide_eq_true h];exact GF (h2 h)
  · rw [decide_eq_false h];exact Jr (h1 h)
theorem Mf {b:Bool} {A B:Prop} (h1:b=true->A) (h2:b=false->B):if b=true then A else B:=by
  cases b with
  | true=>exact Jr (h1 rfl)
  | false=>exact GF (h2 rfl)
def tyD:Dt->String | .non=>"NoneType" | .bl _=>"bool" | .int _=>"int" | .str _=>"str" | .lst _=>"list" | .tup _=>"tuple"
def FD:Dt->Bool | .lst _=>true | _=>false
def CJ:Dt->Bool | .tup _=>true | _=>false
def Oi:Dt->Bool | .bl _=>true | _=>false
theorem Rp.ty {K:PySem.W.Frag} {H:Hp} {F:Addr->Prop} {n:Nat} {v:V} {d:Dt} (r:Rp H F n v d):TyOf K H v (.type (tyD d)):=by
  cases r with
  | non=>exact .non
  | bl b=>exact .bl b
  | int i=>exact .int i
  | str z=>exact .str z
  | lst h _ _ _ _=>exact .lst h
  | tup h _ _ _=>exact .tup h
theorem Iu:BW "NoneType" "list"=some false/\BW "bool" "list"=some false/\BW "int" "list"=some false/\BW "str" "list"=some false/\BW "list" "list"=some true/\BW "tuple" "list"=some false:=by decide +kernel
theorem Eb {K:PySem.W.Frag} (d:Dt):PySem.W.kitOne K (.type (tyD d)) (.type "list")=some (FD d):=by
  obtain ⟨h1,h2,h3,h4,h5,h6⟩:=Iu;cases d with
  | non=>exact kb h1
  | bl _=>exact kb h2
  | int _=>exact kb h3
  | str _=>exact kb h4
  | lst _=>exact kb h5
  | tup _=>exact kb h6
theorem Hl:BW "NoneType" "tuple"=some false/\BW "bool" "tuple"=some false/\BW "int" "tuple"=some false/\BW "str" "tuple"=some false/\BW "list" "tuple"=some false/\BW "tuple" "tuple"=some true:=by decide +kernel
theorem C5 {K:PySem.W.Frag} (d:Dt):PySem.W.kitOne K (.type (tyD d)) (.type "tuple")=some (CJ d):=by
  obtain ⟨h1,h2,h3,h4,h5,h6⟩:=Hl;cases d with
  | non=>exact kb h1
  | bl _=>exact kb h2
  | int _=>exact kb h3
  | str _=>exact kb h4
  | lst _=>exact kb h5
  | tup _=>exact kb h6
theorem Ij:BW "NoneType" "bool"=some false/\BW "bool" "bool"=some true/\BW "int" "bool"=some false/\BW "str" "bool"=some false/\BW "list" "bool"=some false/\BW "tuple" "bool"=some false:=by decide +kernel
theorem Hx {K:PySem.W.Frag} (d:Dt):PySem.W.kitOne K (.type (tyD d)) (.type "bool")=some (Oi d):=by
  obtain ⟨h1,h2,h3,h4,h5,h6⟩:=Ij;cases d with
  | non=>exact kb h1
  | bl _=>exact kb h2
  | int _=>exact kb h3
  | str _=>exact kb h4
  | lst _=>exact kb h5
  | tup _=>exact kb h6
theorem M7 {K:PySem.W.Frag} (d:Dt):PySem.W.kitAny K (.type (tyD d)) (["list","tuple"].map Value.type)=some (FD d||CJ d):=by
  show (match PySem.W.kitOne K (.type (tyD d)) (.type "list") with
    | some true=>some true
    | some false=>(match PySem.W.kitOne K (.type (tyD d)) (.type "tuple") with
      | some true=>some true
      | some false=>some false
      | none=>none)
    | none=>none)=_
  rw [Eb,C5];cases d <;> rfl
theorem IT {K:PySem.W.Frag} {H:Hp} {Q:VK} {x:V} {p:Addr} {ns:List String} {t:Value} {b:Bool} (hp:H p=some (.tup (ns.map V.ty))) (c:TyOf K H x t) (e:PySem.W.kitAny K t (ns.map Value.type)=some b) (h:Q (.bl b) H):JG K [x, .ref p] H Q:=⟨x,p,ns,t,b,rfl,hp,c,e,h⟩
def AF:Dt->List Dt | .lst ds=>ds | .tup ds=>ds | _=>[]
theorem Rp.seq {K:PySem.W.Frag} {H:Hp} {F:Addr->Prop} {n:Nat} {v:V} {d:Dt} (r:Rp H F n v d) (h:(FD d||CJ d)=true):
    ∃ m a vs,n=m+1/\v= .ref a/\SqS (CJ d) K H a vs/\vs.length=(AF d).length/\vs.length<=100000/\∀ (i:Nat) (x:V) (e:Dt),vs[i]?=some x->(AF d)[i]?=some e->Rp H F m x e:=by
  cases r with
  | @lst m a vs ds q f b l e=>exact ⟨m,a,vs,rfl,rfl,(show SqL K H a vs from SqL.of q),l,b,e⟩
  | @tup m a vs ds q b l e=>exact ⟨m,a,vs,rfl,rfl,(show SqT K H a vs from SqT.of q),l,b,e⟩
  | non=>cases h
  | bl _=>cases h
  | int _=>cases h
  | str _=>cases h
theorem HH {K:PySem.W.Frag} {H:Hp} {Q:VK} {tp:Bool} {p:Addr} {xs:List V} (c:SqS tp K H p xs) (h:Q (.int xs.length) H):JU K [.ref p] H Q:=by
  cases tp with
  | false=>exact Bo c h
  | true=>exact HR c h
theorem SqS.same {K:PySem.W.Frag} {H H':Hp} {tp:Bool} {p:Addr} {xs:List V} (c:SqS tp K H p xs) (s:Same H H'):SqS tp K H' p xs:=by
  cases tp with
  | false=>exact (show SqL K H' p xs from s.seq c)
  | true=>
    rcases (show SqT K H p xs from c) with (q | ⟨o,q⟩) | q
    · exact (show SqT K H' p xs from .inl (.inl (s _ _ q)))
    · exact (show SqT K H' p xs from .inl (.inr ⟨o,s _ _ q⟩))
    · exact (show SqT K H' p xs from .inr q)
theorem Aj {H:Hp} {p:Addr} {o:HO} (h:H p=none):Same H (upd H p o):=λ b u e=>by rw [Ao (Ap e h)];exact e
theorem Co {H H':Hp} {D:Addr} {o:HO} (s:Same H H') (h:H D=none):Same H (upd H' D o):=λ b u e=>by rw [Ao (Ap e h)];exact s b u e
theorem IL {v:V} {d:Dt} {H:Hp} {F:Addr->Prop} {n:Nat} (r:Rp H F n v d) (h:(FD d||CJ d)=false):Mo v v=true:=by
  cases r with
  | non=>rfl
  | bl _=>rfl
  | int _=>rfl
  | str _=>rfl
  | lst _ _ _ _ _=>cases h
  | tup _ _ _ _=>cases h
theorem KL {v u:V} {d:Dt} {H:Hp} {F:Addr->Prop} {n:Nat} (r:Rp H F n v d) (r2:Rp H F n u d) (h:(FD d||CJ d)=false):v=u:=by
  cases r with
  | non=>cases r2;rfl
  | bl _=>cases r2;rfl
  | int _=>cases r2;rfl
  | str _=>cases r2;rfl
  | lst _ _ _ _ _=>cases h
  | tup _ _ _ _=>cases h
structure SrcOk (J:It) (g:TG) (σ0:St) (H:Hp) (n:Nat) (st:Nat->St):Prop where
  go:∀ i H',i<n->Same H H'->J.go i H'
  stop:∀ H',Same H H'->J.stop n H'
  yld:∀ i H' x H'' (R:St->Hp->Prop),i<n->Same H H'->J.yld i H' x H''->(∀ H3,Same H' H3->R (st i) H3)->g x σ0 H'' R
  kp:∀ i,i<n->Kp σ0 (st i)
section
variable {J:It} {g:TG} {σ0:St} {H:Hp} {n:Nat} {st:Nat->St} {tc:TT} {te:TE} {Q:VK} {D:Addr}
theorem Rp.off {H:Hp} {F:Addr->Prop} {m:Nat} {v:V} {d:Dt} {D:Addr} {xs:List V} {o:HO} (r:Rp H F m v d) (hD:H D=some (.lst xs)) (hF:¬ F D):Rp (L2.upd H D o) F m v d:=by
  refine r.mono (λ a u e q=> ?_) λ _ h=>h;have n:a≠D:=λ z=>by
    subst z;rw [hD] at e;cases e;exact hF (q _ rfl)
  rw [Ao n];exact e
theorem Fw {m:Nat} {p:Nat->Bool} {G:Nat->Dt} (S:SrcOk J g σ0 H n st) (hD:H D=none) (hn:n<=100000)
    (ht:∀ i H' (R:Bool->Hp->Prop),i<n->Same H H'->(∀ H3,Same H' H3->R (p i) H3)->tc (st i) H' R)
    (he:∀ i H' (R:VK),i<n->p i=true->Same H H'->(∀ H3 y,Same H' H3->Rp H3 (FN H') m y (G i)->R y H3)->te (st i) H' R)
    (hd:∀ H' ys,Same H H'->H' D=some (.lst ys)->Rp H' (FN H) (m+1) (.ref D) (.lst (((List.range n).filter p).map G))->Q (.ref D) H'):
    CN J σ0 g tc te Q H D:=by
  refine ⟨λ i k ys H'=>k=n - i/\i<=n/\Same H H'/\H' D=some (.lst ys)/\ys.length=(((List.range i).filter p).map G).length/\∀ (j:Nat) (y:V) (d:Dt),ys[j]?=some y->(((List.range i).filter p).map G)[j]?=some d->Rp H' (λ a=>H a=none/\a≠D) m y d,
    ⟨_,rfl,Nat.zero_le _,Co (Same.refl _) hD,Ag,rfl,λ j y d q=>by simp at q⟩,?_⟩
  rintro i k ys H1 ⟨rfl,hi,s1,hl,len,el⟩;have bnd:∀ i,(((List.range i).filter p).map G).length<=i:=λ i=>by
    rw [List.length_map];exact Nat.le_trans (List.length_filter_le _ _) (by simp)
  by_cases hlt:i<n
  · refine .inr ⟨S.go i H1 hlt s1,λ ys' H'=>Same H H'/\H' D=some (.lst ys')/\ys'.length=(((List.range (i+1)).filter p).map G).length/\∀ (j:Nat) (y:V) (d:Dt),ys'[j]?=some y->(((List.range (i+1)).filter p).map G)[j]?=some d->Rp H' (λ a=>H a=none/\a≠D) m y d,
      λ ys' H' q=>⟨n - (i+1),by omega,rfl,hlt,q⟩,λ x H2 y=> ?_⟩
    refine S.yld i H1 x H2 _ hlt s1 y λ H3 s3=>⟨S.kp i hlt,?_⟩;refine ht i H3 _ hlt (s1.trans s3) λ H4 s4=> ?_;have hl4:H4 D=some (.lst ys):=s4 _ _ (s3 _ _ hl);have s14:Same H H4:=s1.trans (s3.trans s4);cases hp:p i with
    | false=>
      refine GF ⟨s14,hl4,?_,?_⟩
      · rw [List.range_succ,List.filter_append,List.filter_cons,hp];simpa using len
      · intro j y d h1 h2;have e:((List.range (i+1)).filter p).map G=((List.range i).filter p).map G:=by
          rw [List.range_succ,List.filter_append,List.filter_cons,hp];simp
        rw [e] at h2;exact (el j y d h1 h2).same (s3.trans s4)
    | true=>
      refine Jr ?_;refine he i H4 _ hlt hp s14 λ H5 y s5 ry=> ?_;have hl5:H5 D=some (.lst ys):=s5 _ _ hl4;have e:((List.range (i+1)).filter p).map G=((List.range i).filter p).map G++[G i]:=by
        rw [List.range_succ,List.filter_append,List.filter_cons,hp];simp
      refine ⟨hl5,?_,?_,Ag,?_,?_⟩
      · have:=bnd i;exact Nat.lt_of_le_of_lt (by omega:ys.length<=100000) (by decide)
      · exact Co (s14.trans s5) hD
      · rw [e,List.length_append,List.length_append,len];rfl
      · intro j z d h1 h2;rw [e] at h2;have nF:¬ (H D=none/\D≠D):=λ q=>q.2 rfl;by_cases hj:j<ys.length
        · rw [List.getElem?_append_left hj] at h1;rw [List.getElem?_append_left (by omega)] at h2;exact ((el j z d h1 h2).same (s3.trans (s4.trans s5))).off hl5 nF
        · have ej:j=ys.length:=by
            have:=(List.getElem?_eq_some_iff.mp h1).1;rw [List.length_append] at this;have:([y]:List V).length=1:=rfl;omega
          subst ej;rw [List.getElem?_append_right (Nat.le_refl _),Nat.sub_self] at h1;rw [len,List.getElem?_append_right (Nat.le_refl _),Nat.sub_self] at h2;cases h1;cases h2;refine (ry.imp (F':=λ a=>H a=none/\a≠D) λ a ha=>⟨s14.free ha,λ q=> ?_⟩).off hl5 nF;subst q;rw [show H4 a=none from ha] at hl4;cases hl4
  · have e:i=n:=by omega
    subst e;refine .inl ⟨S.stop H1 s1,hd H1 ys s1 hl (.lst hl hD ?_ len λ j y d h1 h2=>(el j y d h1 h2).imp λ a q=>q.1)⟩;have:=bnd i;omega
theorem AA {m:Nat} {G:Nat->Dt} (S:SrcOk J g σ0 H n st) (hD:H D=none) (hn:n<=100000)
    (he:∀ i H' (R:VK),i<n->Same H H'->(∀ H3 y,Same H' H3->Rp H3 (FN H') m y (G i)->R y H3)->te (st i) H' R)
    (hd:∀ H' ys,Same H H'->H' D=some (.lst ys)->Rp H' (FN H) (m+1) (.ref D) (.lst ((List.range n).map G))->Q (.ref D) H'):
    CN J σ0 g Ip te Q H D:=by
  refine Fw (p:=λ _=>true) (m:=m) (G:=G) S hD hn (λ i H' R _ _ k=>k H' (Same.refl _)) (λ i H' R hi _ s k=>he i H' R hi s k) λ H' ys s hl r=>hd H' ys s hl ?_;have e:(List.range n).filter (λ _=>true)=List.range n:=by simp
  rw [e] at r;exact r
variable {K:PySem.W.Frag} {a b:Addr} {xs zs:List V}
theorem AC (h:SqL K H a xs) (h0:σ0[0]?=some none):SrcOk (Itl K a) (Ax 0) σ0 H xs.length (λ i=>σ0.set 0 (some (xs.getD i .non))) where
  go:=λ i H' hi s=>⟨xs,xs[i],s.seq h,by simp [hi]⟩
  stop:=λ H' s=>⟨xs,s.seq h,Nat.le_refl _⟩
  yld:=λ i H' x H'' R hi s y k=>by
    obtain ⟨e,hv⟩:=y;subst e;have e:x=xs.getD i .non:=by
      have:=hv xs (s.seq h);rw [List.getD_eq_getElem?_getD,this];rfl
    subst e;exact k _ (Same.refl _)
  kp:=λ i hi=>(Kp.refl _).set h0
theorem C8 (h:SqT K H a xs) (h0:σ0[0]?=some none):SrcOk (Itt K a) (Ax 0) σ0 H xs.length (λ i=>σ0.set 0 (some (xs.getD i .non))) where
  go:=λ i H' hi s=>⟨xs,xs[i],(SqS.same (tp:=true) h s),by simp [hi]⟩
  stop:=λ H' s=>⟨xs,(SqS.same (tp:=true) h s),Nat.le_refl _⟩
  yld:=λ i H' x H'' R hi s y k=>by
    obtain ⟨e,hv⟩:=y;subst e;have e:x=xs.getD i .non:=by
      have:=hv xs (SqS.same (tp:=true) h s);rw [List.getD_eq_getElem?_getD,this];rfl
    subst e;exact k _ (Same.refl _)
  kp:=λ i hi=>(Kp.refl _).set h0
theorem Dy {lo:Int} {n:Nat} (h0:σ0[0]?=some none):SrcOk (Itr lo n) (Ax 0) σ0 H n (λ i=>σ0.set 0 (some (.int (lo+i)))) where
  go:=λ i H' hi s=>hi
  stop:=λ H' s=>Nat.le_refl _
  yld:=λ i H' x H'' R hi s y k=>by
    obtain ⟨e,hv⟩:=y;subst e hv;exact k _ (Same.refl _)
  kp:=λ i hi=>(Kp.refl _).set h0
theorem IR (h:SqL K H a xs) (h0:σ0[0]?=some none) (h1:σ0[1]?=some none):SrcOk (Ite K a) (Es K 2 (A6 (Ax 0) (A6 (Ax 1) Fe))) σ0 H xs.length (λ i=>(σ0.set 0 (some (.int i))).set 1 (some (xs.getD i .non))) where
  go:=λ i H' hi s=>⟨xs,xs[i],s.seq h,by simp [hi]⟩
  stop:=λ H' s=>⟨xs,s.seq h,Nat.le_refl _⟩
  yld:=λ i H' x H'' R hi s y k=>by
    obtain ⟨p,v,hp,rfl,rfl,hv⟩:=y;have e:v=xs.getD i .non:=by
      have:=hv xs (s.seq h);rw [List.getD_eq_getElem?_getD,this];rfl
    subst e;exact ⟨p,_,rfl,SqT.of Ag,rfl,_,_,rfl,_,_,rfl,rfl,k _ (Aj hp)⟩
  kp:=λ i hi=>((Kp.refl _).set h0).set h1
theorem J4 {t1 t2:Bool} (h:SqS t1 K H a xs) (h':SqS t2 K H b zs) (hl:xs.length=zs.length) (h0:σ0[0]?=some none) (h1:σ0[1]?=some none):
    SrcOk (Izs t1 t2 K a b) (Es K 2 (A6 (Ax 0) (A6 (Ax 1) Fe))) σ0 H xs.length (λ i=>(σ0.set 0 (some (xs.getD i .non))).set 1 (some (zs.getD i .non))) where
  go:=λ i H' hi s=>⟨xs,zs,xs[i],zs[i]'(by omega),h.same s,h'.same s,by simp [hi],by simp⟩
  stop:=λ H' s=>⟨xs,zs,h.same s,h'.same s, .inl (Nat.le_refl _)⟩
  yld:=λ i H' x H'' R hi s y k=>by
    obtain ⟨p,v,z,hp,rfl,rfl,hv,hz⟩:=y;have e:v=xs.getD i .non:=by
      have:=hv xs (h.same s);rw [List.getD_eq_getElem?_getD,this];rfl
    have e2:z=zs.getD i .non:=by
      have:=hz zs (h'.same s);rw [List.getD_eq_getElem?_getD,this];rfl
    subst e e2;exact ⟨p,_,rfl,SqT.of Ag,rfl,_,_,rfl,_,_,rfl,rfl,k _ (Aj hp)⟩
  kp:=λ i hi=>((Kp.refl _).set h0).set h1
end
theorem AS {α β:Type} (f:α->β) (xs:List α) (d:α):(List.range xs.length).map (λ i=>f (xs.getD i d))=xs.map f:=by
  refine List.ext_getElem (by simp) λ i h1 h2=> ?_;have hi:i<xs.length:=by simpa using h2
  simp [List.getD_eq_getElem?_getD,hi]
theorem IU (a b c:Int) (hc:c≠0):0<=Builtin.Range.rangeSize a b c/\Builtin.Range.rangeSize a b c<=(b - a).natAbs:=by
  unfold Builtin.Range.rangeSize;split
  · rename_i h
    split
    · rename_i h2
      have h3:0<=(b - a - 1) / c:=Int.ediv_nonneg (by omega) (by omega);have h4:(b - a - 1) / c<=b - a - 1:=Int.ediv_le_self _ (by omega);omega
    · omega
  · rename_i h
    split
    · rename_i h2
      have h3:0<=(a - b - 1) / (-c):=Int.ediv_nonneg (by omega) (by omega);have h4:(a - b - 1) / (-c)<=a - b - 1:=Int.ediv_le_self _ (by omega);omega
    · omega
theorem KG {a b c:Int} (ha: -(2 ^ 40)<=a/\a<2 ^ 40) (hb: -(2 ^ 40)<=b/\b<2 ^ 40) (hc: -(2 ^ 20)<=c/\c<2 ^ 20) (h0:c≠0):Builtin.Range.small a b c=true:=by
  have h:=IU a b c h0;unfold Builtin.Range.small;simp only [Builtin.Range.rangeFitsLong,Bool.and_eq_true,Bool.or_eq_true,decide_eq_true_eq,beq_iff_eq];generalize Builtin.Range.rangeSize a b c=n at h;have hn:(b - a).natAbs<2 ^ 42:=by omega
  refine ⟨⟨⟨⟨by omega,by omega⟩,by omega⟩,by omega⟩, .inr ?_⟩;split <;> rw [Bool.and_eq_true,decide_eq_true_eq,decide_eq_true_eq] <;> omega
def Itc (lo c:Int) (n:Nat):It:=⟨λ i _=>i<n,λ i H x H'=>H'=H/\x= .int (lo+i*c),λ i _=>n<=i⟩
theorem Gr {P:Program} {w:World} {K:PySem.W.Frag} {tg:Expr} (it:Addr) (lo c:Int) (n:Nat):Turn P w K tg (Itc lo c n) [it] it (λ i h=>IsRangeIter h it (lo+(i:Nat)*c) ((n:Int) - (i:Nat)) c) where
  mem:=by simp
  obj:=λ i h st b hb=>by
    have e:b=it:=by simpa using hb
    subst e;exact ⟨_,st,λ v z=>by cases (show Data.fields _=Data.cell v from z)⟩
  keep:=λ i h h' st k=>k it (by simp) _ st
  item:=by
    intro X hP hw hK hc i pins s σ H E I hf st hg;subst hP hw hK;obtain ⟨f0,f1,f2,f3,f4,f5⟩:=hf it (by simp);have W:=Walks.range (prog:=X.prog) (w:=X.w) (I.ok.hd hc) it lo c n;refine W.item i s _ _ hg st λ v h' tk hv st' kk=> ?_;obtain ⟨t,rfl⟩:=hv;have I1:Inv X pins σ H { s with heap:=h',toks:=tk }:=I.turned (λ b o hb e=>kk b o (by simpa using hb) e) f0 f1 f3 f4 f5;exact ⟨_,rfl,HJ (s:={ s with heap:=h',toks:=tk }) (n:="range_iterator") st' rfl rfl (by decide) ⟨.int (lo+i*c),H,I1,⟨t,rfl⟩,⟨rfl,rfl⟩,st',λ b hb=>(hf b hb).1⟩⟩
  done:=by
    intro X hP hw hK hc i pins s σ H E I hf st hg;subst hP hw hK;obtain ⟨f0,f1,f2,f3,f4,f5⟩:=hf it (by simp);exact wpAny_pyNext_range_end (I.ok.hd hc) st (by have:n<=i:=hg;omega) λ h' eb=>⟨rfl,I.turned (t':=s.toks) (λ b o hb e=>eb b o hb e) f0 f1 f3 f4 f5⟩
  self:=λ _ _ _ _ _ st h=>wpAny_pyIter_rangeiter st h
section
variable {X:Cx} {tg:Expr}
def Lz (ta:TA):TI:=λ σ H R=>ta σ H λ vs H1=>∃ i j c:Int,vs=[.int i, .int j, .int c]/\(-(2 ^ 40)<=i/\i<2 ^ 40)/\(-(2 ^ 40)<=j/\j<2 ^ 40)/\(-(2 ^ 20)<=c/\c<2 ^ 20)/\c≠0/\R (Itc i c (Builtin.Range.rangeSize i j c).toNat) H1
theorem IH {a b c:Expr} {ta:TA} {p pos:Pos} (hg:Gl X "range") (hm:X.mg "range"=none) (ha:PA X [a,b,c] ta) (hs:starEach [a,b,c] X.env=[(false,eval a X.env),(false,eval b X.env),(false,eval c X.env)]:=by rfl)
    (hs2:starEach [b,c] X.env=[(false,eval b X.env),(false,eval c X.env)]:=by rfl):PI X tg (.Call (.Name "range" p) [a,b,c] [] pos) (Lz ta):=by
  intro pins s σ H R I h;refine Call_ (BF I hg hm boot_range (PyProof.Rows.callWith_type1 (thn (ha pos pins s σ H _ I h) λ us s1 ⟨vs,H1,I1,r1,q1⟩=> ?_) (by rw [hs,hs2]) (by rw [hs2];rfl)));obtain ⟨i,j,k,e,h1,h2,h3,h0,q⟩:=q1;subst e;cases r1 with
  | cons r rr=>
    cases rr with
    | cons r' rr=>
      cases rr with
      | cons r'' rr=>
        cases rr;obtain ⟨t,rfl⟩:=r;obtain ⟨t',rfl⟩:=r';obtain ⟨t'',rfl⟩:=r'';refine call_range_3 h0 ?_ (.inl (PyProof.noPylong_small (by omega)));refine wpAny_pyIter_range (IsRange.new ..) (KG h1 h2 h3 h0) ?_;have I2:Inv X pins σ H1 { s1 with heap:=s1.heap.push { cls:= .type "range",data:= .fields #[.int i t, .int j t', .int k t''] },toks:=s1.toks }:=I1.kept λ b o e=>Heap.get?_push_of_some _ e;refine ⟨(s1.heap.push { cls:= .type "range",data:= .fields #[.int i t, .int j t', .int k t''] }).objs.size,[(s1.heap.push { cls:= .type "range",data:= .fields #[.int i t, .int j t', .int k t''] }).objs.size],_,_,H1,rfl,
          I2.kept (t':=s1.toks) λ b o e=>Heap.get?_push_of_some _ e,Gr _ i k (Builtin.Range.rangeSize i j k).toNat,?_,λ b hb=> ?_,q⟩
        · have e1:i+((0:Nat):Int)*k=i:=by simp
          have e2:(((Builtin.Range.rangeSize i j k).toNat:Nat):Int) - ((0:Nat):Int)=Builtin.Range.rangeSize i j k:=by have:=(IU i j k h0).1;omega
          show IsRangeIter _ _ (i+((0:Nat):Int)*k) ((((Builtin.Range.rangeSize i j k).toNat:Nat):Int) - ((0:Nat):Int)) k;rw [e1,e2];exact Heap.get?_push_size _ rfl
        · have e:b=(s1.heap.push { cls:= .type "range",data:= .fields #[.int i t, .int j t', .int k t''] }).objs.size:=by simpa using hb
          subst e;exact I2.fpOk (Nat.le_refl _) (I2.hok.fresh (Nat.le_refl _))
theorem G7 {lo c:Int} {n:Nat} {σ0:St} {H:Hp} (h0:σ0[0]?=some none):SrcOk (Itc lo c n) (Ax 0) σ0 H n (λ i=>σ0.set 0 (some (.int (lo+i*c)))) where
  go:=λ i H' hi s=>hi
  stop:=λ H' s=>Nat.le_refl _
  yld:=λ i H' x H'' R hi s y k=>by
    obtain ⟨e,hv⟩:=y;subst e hv;exact k _ (Same.refl _)
  kp:=λ i hi=>(Kp.refl _).set h0
def Nf:List V->Hp->VK->Prop:=λ xs H Q=>∃ b:Bool,xs=[.bl b]/\Q (.int (if b=true then 1 else 0)) H
end
theorem L0 {X:Cx}:Bg X (.type "int") Nf:=by
  intro pins s σ H xs us Q I r h;obtain ⟨b,rfl,q⟩:=h;exact IG pins s σ H _ us Q I r (.inr ⟨b,rfl,q⟩)
section
variable {X:Cx} {K:PySem.W.Frag} {e st:Expr} {te ts:TE} {pos p2:Pos}
end
end L2
namespace MM
theorem Gn {α:Type} {p:List α->Prop} (h0:p []) (h1:∀ l a,p l->p (l++[a])):∀ l,p l:=λ l=>by
  have h:∀ r:List α,p r.reverse:=λ r=>by
    induction r with
    | nil=>exact h0
    | cons a r ih=>rw [List.reverse_cons];exact h1 _ _ ih
  have:=h l.reverse
  rwa [List.reverse_reverse] at this
theorem or_add_and (a:Nat):∀ b:Nat,(a ||| b)+(a &&& b)=a+b:=by
  induction a using Nat.strongRecOn with
  | ind a ih=>
    intro b;by_cases h:a=0
    · subst h;simp
    · have ih':=ih (a / 2) (by omega) (b / 2);have e1:(a ||| b)=2*((a ||| b) / 2)+(a ||| b)%2:=by omega
      have e2:(a &&& b)=2*((a &&& b) / 2)+(a &&& b)%2:=by omega
      have d1:(a ||| b) / 2=a / 2 ||| b / 2:=by simpa using Nat.or_div_two (a:=a) (b:=b)
      have d2:(a &&& b) / 2=a / 2 &&& b / 2:=by simpa using Nat.and_div_two (a:=a) (b:=b)
      have m1:(a ||| b)%2+(a &&& b)%2=a%2+b%2:=by
        have z:∀ x:Nat,x%2=(x.testBit 0).toNat:=λ x=>by rw [Nat.toNat_testBit];simp
        rw [z (a ||| b),z (a &&& b),z a,z b,Nat.testBit_or,Nat.testBit_and];cases a.testBit 0 <;> cases b.testBit 0 <;> rfl
      rw [d1] at e1;rw [d2] at e2;omega
def ofB (f:Nat->Bool):Nat->Nat
  | 0=>0
  | w+1=>ofB f w+(f w).toNat*2 ^ w
theorem ofB_lt (f:Nat->Bool):∀ w,ofB f w<2 ^ w
  | 0=>by simp [ofB]
  | w+1=>by
    have:=ofB_lt f w;unfold ofB;rw [Nat.pow_succ];cases f w <;> simp <;> omega
theorem ofB_bit (f:Nat->Bool):∀ w i,(ofB f w).testBit i=(decide (i<w)&&f i)
  | 0,i=>by simp [ofB]
  | w+1,i=>by
    have hl:=ofB_lt f w;unfold ofB;have e:ofB f w+(f w).toNat*2 ^ w=2 ^ w*(f w).toNat+ofB f w:=by rw [Nat.mul_comm];omega
    rw [e,Nat.testBit_two_pow_mul_add _ hl];by_cases h:i<w
    · rw [if_pos h,ofB_bit f w i];simp [h,Nat.lt_succ_of_lt h]
    · rw [if_neg h];by_cases h2:i=w
      · subst h2;cases f i <;> simp
      · have h3:¬ i<w+1:=by omega
        have h4:i - w≠0:=by omega
        have h5:(1:Nat).testBit (i - w)=false:=by
          obtain ⟨d,hd⟩:∃ d,i - w=d+1:=⟨i - w - 1,by omega⟩;rw [hd,Nat.testBit_succ];simp
        cases f w
        · simp [h3]
        · simp only [Bool.toNat_true,h5,h3,decide_false,Bool.false_and]
theorem bit_div (m e:Nat):m / 2 ^ e%2=(m.testBit e).toNat:=by
  rw [Nat.testBit_eq_decide_div_mod_eq];have:m / 2 ^ e%2<2:=Nat.mod_lt _ (by decide);by_cases h:m / 2 ^ e%2=1
  · simp [h]
  · have:m / 2 ^ e%2=0:=by omega
    simp [this]
def mOf (ns:List Nat):Nat:=ns.foldl (λ m n=>m ||| 2 ^ (n - 1)) 0
theorem mOf_snoc (ns:List Nat) (n:Nat):mOf (ns++[n])=mOf ns ||| 2 ^ (n - 1):=by unfold mOf;rw [List.foldl_append];rfl
theorem mOf_bit (ns:List Nat) (i:Nat):(mOf ns).testBit i=ns.any λ n=>decide (n - 1=i):=by
  refine Gn (p:=λ ns=>(mOf ns).testBit i=ns.any λ n=>decide (n - 1=i)) (by simp [mOf]) (λ l a ih=> ?_) ns
  · rw [mOf_snoc,Nat.testBit_or,ih,List.any_append,Nat.testBit_two_pow];simp
theorem mOf_lt {ns:List Nat} {w:Nat} (h:∀ n∈ns,n - 1<w):mOf ns<2 ^ w:=by
  refine Nat.lt_pow_two_of_testBit _ λ i hi=> ?_;rw [mOf_bit,List.any_eq_false];intro n hn;have:=h n hn;simp;omega
def uOf (ms:List Nat):Nat:=ms.foldl (λ m n=>m ||| n) 0
theorem uOf_snoc (ns:List Nat) (n:Nat):uOf (ns++[n])=uOf ns ||| n:=by unfold uOf;rw [List.foldl_append];rfl
theorem uOf_bit (ns:List Nat) (i:Nat):(uOf ns).testBit i=ns.any λ n=>n.testBit i:=by
  refine Gn (p:=λ ns=>(uOf ns).testBit i=ns.any λ n=>n.testBit i) (by simp [uOf]) (λ l a ih=> ?_) ns;rw [uOf_snoc,Nat.testBit_or,ih,List.any_append];simp
def bits (m:Nat):Nat:=if m=0 then 0 else m.log2+1
theorem Hn (m:Nat):m<2 ^ bits m:=by
  unfold bits;split
  · subst_vars;decide
  · exact Nat.lt_log2_self
theorem bits_le {m w:Nat} (h:m<2 ^ w):bits m<=w:=by
  unfold bits;split
  · exact Nat.zero_le _
  · rename_i h0
    exact (Nat.log2_lt h0).mpr h
def nOf (m:Nat):List Nat:=((List.range (bits m)).filter m.testBit).map (· + 1)
theorem nOf_mem (m n:Nat):n∈nOf m↔1<=n/\m.testBit (n - 1)=true:=by
  unfold nOf;simp only [List.mem_map,List.mem_filter,List.mem_range];constructor
  · rintro ⟨k,⟨_,h⟩,rfl⟩;exact ⟨by omega,by simpa using h⟩
  · rintro ⟨h1,h2⟩;refine ⟨n - 1,⟨?_,h2⟩,by omega⟩;rcases Nat.lt_or_ge (n - 1) (bits m) with q | q
    · exact q
    · rw [Nat.testBit_lt_two_pow (Nat.lt_of_lt_of_le (Hn m) (Nat.pow_le_pow_right (by decide) q))] at h2;cases h2
theorem J3 {m w:Nat} (h:m<2 ^ w):nOf m=((List.range w).filter m.testBit).map (· + 1):=by
  unfold nOf;have hb:=bits_le h;obtain ⟨d,rfl⟩:∃ d,w=bits m+d:=⟨w - bits m,by omega⟩;congr 1;rw [List.range_add,List.filter_append];have e:((List.range d).map (bits m+ ·)).filter m.testBit=[]:=by
    rw [List.filter_eq_nil_iff];intro x hx;obtain ⟨k,_,rfl⟩:=List.mem_map.mp hx;rw [Nat.testBit_lt_two_pow (Nat.lt_of_lt_of_le (Hn m) (Nat.pow_le_pow_right (by decide) (Nat.le_add_right _ _)))];simp
  rw [e,List.append_nil]
theorem nOf_len {m w:Nat} (h:m<2 ^ w):(nOf m).length<=w:=by
  rw [J3 h,List.length_map];exact Nat.le_trans (List.length_filter_le _ _) (by simp)
end MM
namespace L2
open PySem PySem.Spec PyProof.Rows
section
variable {X:Cx}
theorem Fx {x:Str} {i:Int} {pos:Pos} (h:∃ t,X.mg x=some (.int i t)) (hg:Gl X x:=by rfl) (hd:(x == ("__debug__":Str))=false:=by decide):PE X (.Name x pos) (tC (.int i)):=by
  obtain ⟨t,e⟩:=h;exact HI hg e ⟨t,rfl⟩ hd
theorem Nb {x z:Str} {pos:Pos} (h:∃ t,X.mg x=some (.str z t)) (hg:Gl X x:=by rfl) (hd:(x == ("__debug__":Str))=false:=by decide):PE X (.Name x pos) (tC (.str z)):=by
  obtain ⟨t,e⟩:=h;exact HI hg e ⟨t,rfl⟩ hd
end
section
variable {H:Hp} {Q:VK} {σ:St} {td ty tv:TE} {D:Ends} {a:Addr} {kvs:List (Key × V)}
end
section
variable {H:Hp} {Q:VK} {σ:St} {K:PySem.W.Frag} {to:TE} {t:TA} {r:V->List V->Hp->VK->Prop} {T:String} {l p q:Addr} {xs ys:List V} {y:V}
theorem LX (h:to σ H λ x H1=>tyV K T x H1/\r x [] H1 Q):Mh K T r to σ H Q:=h
theorem Nv (h:to σ H λ x H1=>tyV K T x H1/\t σ H1 λ xs H2=>r x xs H2 Q):tBM K T r to t σ H Q:=h
theorem tyL {B:Prop} (c:SqL K H l xs) (h:B):tyV K "list" (.ref l) H/\B:=⟨.inl ⟨rfl,xs,c⟩,h⟩
theorem tyS {B:Prop} {z:Str} (h:B):tyV K "str" (.str z) H/\B:=⟨rfl,h⟩
theorem tyI {B:Prop} {i:Int} (h:B):tyV K "int" (.int i) H/\B:=⟨rfl,h⟩
theorem MN (c:H l=some (.lst xs)) (b:xs.length<16777216) (h:Q .non (upd H l (.lst (xs++[y])))):rAppend (.ref l) [y] H Q:=⟨l,xs,y,rfl,rfl,c,by rw [sizeLine_eq];exact b,h⟩
theorem MJ (c:H l=some (.lst xs)) (h:Q .non (upd H l (.lst []))):rClear (.ref l) [] H Q:=⟨l,xs,rfl,rfl,c,h⟩
theorem Mw (c:SqL K H l xs) (d:SqL K H p ys) (b:xs.length+ys.length<=16777216) (h:∀ q,H q=none->Q (.ref q) (upd H q (.lst (xs++ys)))):Jm K (.ref l) (.ref p) H Q:=⟨l,p,xs,ys,rfl,rfl,c,d,by rw [sizeLine_eq];exact b,h⟩
theorem LV {k:Int} (c:H l=some (.lst xs)) (b1:0<=k) (b2:k<=100000) (b3:xs.length<=100) (h:∀ q,H q=none->Q (.ref q) (upd H q (.lst (List.replicate k.toNat xs).flatten))):MY (.ref l) (.int k) H Q:=
  ⟨l,k,xs,rfl,rfl,c,by omega,by omega,by
    rw [sizeLine_eq];have h1:k.toNat<=100000:=by omega
    exact Nat.le_trans (Nat.mul_le_mul b3 h1) (by decide),h⟩
theorem Le {as bs:List Int} (c:SqL K H l (as.map V.int)) (d:SqL K H p (bs.map V.int)) (h:Q (.bl (decide (as=bs))) H):Mr K false (.ref l) (.ref p) H Q:=
  ⟨l,p,_,_,rfl,rfl,c,d,GA as,GA bs,by rw [Jo];exact h⟩
theorem Bx {z:Addr} (c:SqT K H z xs) (h:∀ q,H q=none->Q (.ref q) (upd H q (.lst xs))):HZ K [.ref z] H Q:=⟨z,xs,rfl, .inr c,h⟩
theorem A3 {z:Addr} (c:SqL K H z xs) (h:∀ q,H q=none->Q (.ref q) (upd H q (.tup xs))):Gj K [.ref z] H Q:=⟨z,xs,rfl, .inl ⟨c,h⟩⟩
end
end L2
namespace L2
open PySem
open Sem (wp)
open AutoSeq1 (wpAny_loadPart')
section
variable {prog:Program} {w:World} {A:Around} {E:Value->Shared->Prop} {s:Shared}
theorem Gs {T newId:String} {Bn:Builtin} {v:Value} {x:Str} {u:Value} {Q:Value->Shared->Prop} (ft:TypeCalled T newId "object.__init__") (hne:(some newId != some "object.__new__")=true)
    (hct:checkTypeCall T ⟨[v],[(x,u)]⟩=pure ()) (hcn:checkBuiltinCall newId ⟨[.type T,v],[(x,u)]⟩=pure ()) (hok:∀ obj,argsOk "object.__init__" ⟨[obj,v],[(x,u)]⟩) (entryN:entryFor table newId=some Bn)
    (g:wpAny (model prog w) A.in1.in1 (Bn ⟨[.type T,v],[(x,u)]⟩) (λ fin s1=>∃ obj,fin= .done (.ret obj)/\s1.TypeIs obj T/\Q obj s1) E s):wpAny (model prog w) A (call (.type T) [v] [(x,u)]) Q E s:=by
  obtain ⟨c,tl,hmro⟩:=ft.mro;have hmade:=ft.made;have hsub:=ft.sub;refine wpAny_call (codeAny_of_tree ?_);show wpAny _ _ (callAny (.type T) _) _ _ _;refine wpAny_pure ⟨Code.quiet_builtin _ (by decide +kernel),codeAny_builtin F.entry_type_call ?_⟩;rw [Around.under_plain (weight_type_call_type T [v] [(x,u)]) (units_type_call_type T [v] [(x,u)])];have h1:=ft.notType;have h2:=ft.canCreate
  repeat (any_goals (first | assumption | wp_step))
  refine codeAny_call_builtin ft.plain entryN (wpAny_of_eq hcn (wpAny_mono g (λ fin s1 q=> ?_) λ _ _ q=>q));obtain ⟨obj,rfl,hT,q⟩:=q;have hli:=ft.init.lookup;have hbi:=ft.init.bind obj;show wpAny _ _ _ _ _ _
  repeat (any_goals (first | assumption | wp_step))
  refine codeAny_call_builtin ft.init.plain F.entry_object_init (ft.init.check _ _ _ _ _ _ _ _ hT (hok obj) ?_)
  repeat (any_goals (first | assumption | wp_step))
  trace_state
theorem Gi {v:Value} {t:Tok} {Q:Value->Shared->Prop}
    (h:wpAny (model prog w) A (pyIter v) (λ itv s1=>Q (.ref s1.heap.objs.size) { s1 with heap:=s1.heap.push { cls:= .type "enumerate",data:= .fields #[.none, .bool false,itv,rawInt 1, .none, .none] } }) E s):
    wpAny (model prog w) A (Builtin.«enumerate.__new__» ⟨[.type "enumerate",v],[("start", .int 1 t)]⟩) (λ fin s1=>∃ obj,fin= .done (.ret obj)/\Q obj s1) E s:=by
  have hsub:=sub_enumerate;have hit:∀ {R:Value->Shared->Prop},(∀ itv s1,Q (.ref s1.heap.objs.size) { s1 with heap:=s1.heap.push { cls:= .type "enumerate",data:= .fields #[.none, .bool false,itv,rawInt 1, .none, .none] } }->R itv s1)->wpAny (model prog w) A (pyIter v) R E s:=λ k=>wpAny_mono h k λ _ _ q=>q;unfold Builtin.«enumerate.__new__»
  wp_walk
  refine wpAny_stack_any λ st=>wpAny_pure ?_;split
  · rename_i c _ _ _ _ _
    cases (c == Value.type "enumerate")
    · wp_walk using hit
      intro itv s1 q
      wp_walk
      exact ⟨_,rfl,q⟩
    · wp_walk using hit
      intro itv s1 q
      wp_walk
      exact ⟨_,rfl,q⟩
  · wp_walk using hit
    intro itv s1 q
    wp_walk
    exact ⟨_,rfl,q⟩
theorem GS {v:Value} {t:Tok} {Q:Value->Shared->Prop}
    (h:wpAny (model prog w) A.in1.in1 (pyIter v) (λ itv s1=>∃ it,itv= .ref it/\∀ h',IsEnum h' s1.heap.objs.size it 1 .none->(∀ b o,s1.heap.get? b=some o->h'.get? b=some o)->h'.objs.size=s1.heap.objs.size+1->Q (.ref s1.heap.objs.size) { s1 with heap:=h' }) E s):
    wpAny (model prog w) A (call (.type "enumerate") [v] [("start", .int 1 t)]) Q E s:=by
  refine Gs F.called_enumerate (by decide) (by kernel_rfl) (by kernel_rfl) (λ obj=>by unfold argsOk;kernel_rfl) F.entry_enumerate_new (Gi (wpAny_mono h (λ itv s1 q=> ?_) λ _ _ q=>q));obtain ⟨it,rfl,q⟩:=q;refine ⟨⟨_,Heap.get?_push_size _ rfl,rfl⟩,q _ (Heap.get?_push_size _ rfl) (λ b o e=>Heap.get?_push_of_some _ e) (Heap.size_push ..)⟩
end
theorem Mb {prog:Program} {w:World} {A:Around} {it:Addr} {fp:List Addr} {n:Nat} {Pv:Nat->Value->Prop} {St:Nat->Heap->Prop} (k:Nat) (D:Draws prog w A it fp n Pv St):
    Draws prog w A it fp (n+k) (λ i v=>∃ j,i=j+k/\Pv j v) (λ i h=>∃ j,i=j+k/\St j h) where
  live:=λ i h ⟨j,_,st⟩=>D.live j h st
  frame:=λ i h h' ⟨j,e,st⟩ q=>⟨j,e,D.frame j h h' st q⟩
  item:=λ i s Q E hi ⟨j,e,st⟩ hQ=>D.item j s Q E (by omega) st λ x h' tk p st' sb=>hQ x h' tk ⟨j,e,p⟩ ⟨j+1,by omega,st'⟩ sb
  done:=λ s Q E ⟨j,e,st⟩ hE=>D.done s Q E (by
    have q:j=n:=by omega
    rw [q] at st;exact st) hE
theorem GL {M:Model} {A:Around} {E:Value->Shared->Prop} {s:Shared} {pos:Pos} {T:String} {args:List (Bool × Sem Value)} {kws:List (Option Str × Sem Value)} {Q:Value->Shared->Prop}
    (hp:args.any (·.1)=false) (hk:kws.any (·.1.isNone)=false) (h:wpAny M A (evalArgs (.type T) true args kws) (λ a s1=>wpAny M A (call (.type T) a.pos a.kw) Q E s1) E s):wpAny M A (callWith pos (.type T) [] args kws) Q E s:=by
  unfold callWith;refine wpAny_bind (wpAny_holding (wpAny_mono h (λ a s1 h1=>wpAny_bind (wpAny_standAt ?_)) λ _ _ q=>q));simp only [hp,hk,Bool.or_false];refine wpAny_bind (wpAny_pure ?_);refine wpAny_bind (wpAny_mono h1 (λ r s2 hr=> ?_) λ _ _ q=>q);exact wpAny_bind (wpAny_holding (wpAny_point (wpAny_pure hr)))
end L2
namespace L2
open PySem PySem.Spec PyProof.Rows
theorem LP {prog:Program} {w:World} {A:Around} (hh:A.handled=none) (tp:Bool) (it l:Addr) (hne:l≠it) (items:Array Value):
    Draws prog w A it [it,l] items.size (λ i v=>items[i]?=some v) (λ i h=>A8 tp h it l i/\A9 tp h l items) where
  live:=λ _ _ st=>let ⟨o,e,_⟩:=AX st.1;⟨o,e⟩
  frame:=λ _ _ _ st hk=>⟨Av st.1 λ o e=>hk it (by simp) o e,Bs st.2 λ o e=>hk l (by simp) o e⟩
  item:=λ i s Q E hi st hQ=>Dp st.1 st.2 (x:=items[i]) (by simp [hi]) λ h' hit sb=>hQ _ h' s.toks (by simp [hi]) ⟨hit,Bs st.2 λ o e=>(sb.2 l hne).trans e⟩ sb
  done:=λ s Q E st hE=>Ee hh st.1 st.2 (by simp) hE
def JT (tp:Bool) (K:PySem.W.Frag) (a:Addr):It:=
  ⟨λ i H=>∃ xs x,SqS tp K H a xs/\xs[i]?=some x,λ i H v H'=>∃ p x,H p=none/\v= .ref p/\H'=upd H p (.tup [.int ((i+1:Nat):Int),x])/\∀ xs,SqS tp K H a xs->xs[i]?=some x,λ i H=>∃ xs,SqS tp K H a xs/\xs.length<=i⟩
theorem GU {P:Program} {w:World} {K:PySem.W.Frag} {elts:List Expr} {k:Nat} {pos:Pos} (tp:Bool) (a e it:Addr) (hne:e≠it):
    Turn P w K (.Tuple elts k pos) (JT tp K a) [e,it] e (λ i h=>(∃ old,IsEnum h e it ((i+1:Nat):Int) old)/\A8 tp h it a i) where
  mem:=by simp
  obj:=λ i h st b hb=>by
    obtain ⟨⟨old,he⟩,hi⟩:=st;obtain ⟨o,eo,d⟩:=AX hi;rcases List.mem_cons.mp hb with z | z
    · subst z;exact ⟨_,he,λ v z=>by cases (show Data.fields _=Data.cell v from z)⟩
    · have z:b=it:=by simpa using z
      subst z;exact ⟨o,eo,λ v z=>by rw [d] at z;cases z⟩
  keep:=λ i h h' st kp=>by
    obtain ⟨⟨old,he⟩,hi⟩:=st;exact ⟨⟨old,kp e (by simp) _ he⟩,Av hi λ o z=>kp it (by simp) o z⟩
  item:=by
    intro X hP hw hK hc i pins s σ H E I hf st hg;subst hP hw hK;obtain ⟨xs,x,hq,hx⟩:=hg;obtain ⟨its,rv,p⟩:=Bl I hq;obtain ⟨u,hu,ru⟩:=rv.get hx;obtain ⟨⟨old,he⟩,hi⟩:=st;obtain ⟨oi,ei,di⟩:=AX hi;obtain ⟨oa,na,ea,da⟩:=Cp p;have hel:e<s.heap.objs.size:=Heap.lt_size he;have hil:it<s.heap.objs.size:=Heap.lt_size ei;have nia:a≠it:=λ z=>by
      subst z;rw [ei] at ea;cases ea;rw [di] at da;cases da
    have nea:e≠a:=λ z=>by
      subst z;rw [show s.heap.get? e=_ from he] at ea;cases ea;cases (show Data.fields _=Data.seq _ _ from da)
    have hlt:i<its.toArray.size:=by
      have:=(List.getElem?_eq_some_iff.mp hu).1;simpa using this
    have D:=Mb 1 (LP (prog:=X.prog) (w:=X.w) (A:=X.A.in1) (I.ok.hd hc) tp it a nia its.toArray);refine wpAny_pyNext_enum_itemD (i:=i+1) D he ⟨i,rfl,hi,p⟩ (by omega) hne (by simp [hne,nea]) λ v h' tk pv ho st' hT hsz hk=> ?_;obtain ⟨j,ej,ev⟩:=pv;obtain ⟨j2,ej2,hi',p'⟩:=st';have ej:j=i:=by omega
    have ej2:j2=i+1:=by omega
    subst ej ej2;have ev:v=u:=by
      rw [show its.toArray[j]?=some u by simpa using hu] at ev;exact (Option.some.inj ev).symm
    subst ev;have I0:=I.laid (h':=s.heap.push { cls:= .type "tuple",data:= .seq #[.int ((j+1:Nat):Int) tk,v] }) (a:=s.heap.objs.size) (o:= .tup [.int ((j+1:Nat):Int),x]) (t':=tk+1) (λ _ _ q=>Heap.get?_push_of_some _ q) (Nat.le_refl _)
      ⟨(by show 2<=sizeLine;decide),[.int ((j+1:Nat):Int) tk,v], .cons ⟨_,rfl⟩ (.cons ru .nil),⟨_,Heap.get?_push_size _ rfl,rfl,_,rfl⟩⟩
    have f0:∀ b∈[e,it],B0 X pins (upd H s.heap.objs.size (.tup [.int ((j+1:Nat):Int),x])) b:=λ b hb=>G9 (hf b hb) (by
      rcases List.mem_cons.mp hb with z | z
      · rw [z];exact Nat.ne_of_lt hel
      · rw [show b=it by simpa using z];exact Nat.ne_of_lt hil)
    have I1:=Inv.turnedL (t':=tk+1) (h':=h') [e,it] I0 f0 (λ b o hb z=>by
      have hb1:b≠e:=λ q=>hb (by simp [q]);have hb2:b≠it:=λ q=>hb (by simp [q]);rcases Heap.get?_push_cases (show (s.heap.push { cls:= .type "tuple",data:= .seq #[.int ((j+1:Nat):Int) tk,v] }).get? b=some o from z) with ⟨q1,q2⟩ | q
      · rw [q1,q2];exact hT
      · exact hk b o hb1 hb2 q)
    refine ⟨.ref s.heap.objs.size,rfl,wpAny_letOwnedTupleGo_enum (s:={ s with heap:=h',toks:=tk+1 }) ho λ h2 he2 sb=> ?_⟩;exact ⟨.ref s.heap.objs.size,_,Inv.turnedL (t':=tk+1) (h':=h2) [e,it] I1 f0 (λ b o hb z=>(sb.2 b λ q=>hb (by simp [q])).trans z),rfl,⟨_,x,I.fresh,rfl,rfl,λ ys hy=>by rw [FW I hy hq];exact hx⟩,
      ⟨⟨v,by simpa using he2⟩,Av hi' λ o z=>(sb.2 it hne.symm).trans z⟩,λ b hb=>(f0 b hb).1⟩
  done:=by
    intro X hP hw hK hc i pins s σ H E I hf st hg;subst hP hw hK;obtain ⟨xs,hq,hx⟩:=hg;obtain ⟨its,rv,p⟩:=Bl I hq;obtain ⟨⟨old,he⟩,hi⟩:=st;obtain ⟨oi,ei,di⟩:=AX hi;obtain ⟨oa,na,ea,da⟩:=Cp p;have hT:s.TypeIs (.ref e) "enumerate":=⟨_,he,rfl⟩;have hl:=rv.length;unfold pyNext;refine wpAny_bind (wpAny_attempt (wpAny_callSpecial?_slot (name:=Str.ofString "__next__") hT F.slot_enumerate_next (wpAny_call_entry F.slot_enumerate_next hT F.entry_enumerate_next ?_ (F.args_enumerate_next_1 _))));show wpAny _ _ (field (.ref e) 2 >>= _) _ _ _;refine wpAny_bind (wpAny_field he rfl (x:= .ref it) rfl ?_);refine wpAny_bind (Ee (A:=X.A.in1) (I.ok.hd hc) hi p (by simp;omega) λ h' x eb hx'=> ?_);obtain ⟨o,ho,hc2⟩:=hx';exact wpAny_bind (wpAny_isInstance (T:="StopIteration") (b:=true) ⟨o,ho,hc2⟩ isSubtype_stop (wpAny_pure ⟨rfl,I.turnedL (t':=s.toks) [e,it] hf λ b o hb z=>eb b o (λ q=>hb (by simp [q])) z⟩))
  self:=λ _ _ _ _ _ st h=>by
    obtain ⟨⟨old,he⟩,_⟩:=st;exact wpAny_pyIter_enum he h
section
variable {X:Cx} {elts:List Expr} {k:Nat} {tpos:Pos} {K:PySem.W.Frag}
def Jz (K:PySem.W.Frag) (ta:TA):TI:=λ σ H R=>ta σ H λ vs H1=>∃ tp a,vs=[.ref a]/\(∃ xs,SqS tp K H1 a xs)/\R (JT tp K a) H1
theorem EN {l:Expr} {ta:TA} {p pos kp cp:Pos} {cj:Nat} (hg:Gl X "enumerate") (hm:X.mg "enumerate"=none) (ha:PA X [l] ta) (hK:X.K=K:=by rfl) (hs:starEach [l] X.env=[(false,eval l X.env)]:=by rfl):
    PI X (.Tuple elts k tpos) (.Call (.Name "enumerate" p) [l] [⟨some "start", .Constant (.int 1) cj cp,kp⟩] pos) (Jz K ta):=by
  subst hK;intro pins s σ H R I h;refine wpAny_Call_Name_kw (BF I hg hm Fy (GL (by rw [hs];rfl) rfl (PyProof.Rows.evalArgs_kw2 rfl ?_ (by rw [hs];rfl))));refine thn (ha pos pins s σ H _ I h) λ us s1 ⟨vs,H1,I1,r1,q1⟩=>PyProof.Rows.kwAll_cons ?_;refine Af pins s1 σ H1 (λ v H2=>v= .int 1/\H2=H1) I1 ⟨rfl,rfl⟩ |> λ z=>thn z λ u s2 ⟨v,H2,I2,r2,ev,eh⟩=> ?_
  subst ev eh;obtain ⟨t,rfl⟩:=r2;refine PyProof.Rows.kwAll_nil ?_;obtain ⟨tp,a,e,⟨xs,hq⟩,q⟩:=q1;subst e;cases r1 with
  | cons r rr=>
    cases rr;cases r;obtain ⟨its,rv,pl⟩:=Bl I2 hq;refine GS ?_;refine Ei pl ⟨_,rfl,λ h' he hk hsz=> ?_⟩;refine wpAny_pyIter_enum he ?_;have hz:(s2.heap.push { cls:= .type (Fs tp),data:= .fields #[.ref a, .int 0 0] }).objs.size=s2.heap.objs.size+1:=Heap.size_push ..;have hk2:∀ b o,s2.heap.get? b=some o->h'.get? b=some o:=λ b o z=>hk b o (Heap.get?_push_of_some _ z);have I3:=I2.kept (t':=s2.toks) hk2;have st:A8 tp h' s2.heap.objs.size a 0:=Av DE λ o z=>hk _ o z;refine ⟨_,[_,s2.heap.objs.size],_,_,H2,rfl,I3,GU tp a _ _ (by rw [hz];exact Nat.succ_ne_self _),⟨⟨_,he⟩,st⟩,λ b hb=> ?_,q⟩;have hb':s2.heap.objs.size<=b:=by
      rcases List.mem_cons.mp hb with z | z
      · rw [z,hz];exact Nat.le_succ _
      · have z:b=s2.heap.objs.size:=by simpa using z
        rw [z];exact Nat.le_refl _
    exact I2.fpOk hb' (I2.hok.fresh hb')
end
def Isq (tp:Bool) (K:PySem.W.Frag) (a:Addr):It:=if tp=true then Itt K a else Itl K a
section
variable {X:Cx} {tg:Expr} {K:PySem.W.Frag}
def iSq (K:PySem.W.Frag) (tl:TE):TI:=λ σ H R=>tl σ H λ x H1=>∃ tp a,x= .ref a/\(∃ xs,SqS tp K H1 a xs)/\R (Isq tp K a) H1
theorem JJ {l:Expr} {tl:TE} (hl:PE X l tl) (hK:X.K=K:=by rfl):PI X tg l (iSq K tl):=by
  subst hK;intro pins s σ H R I h;refine thn (hl pins s σ H _ I h) λ v s1 ⟨x,H1,I1,r1,q1⟩=> ?_;obtain ⟨tp,a,e,⟨xs,hq⟩,q⟩:=q1;subst e;cases r1;cases tp with
  | false=>
    obtain ⟨its,rv,p,hz⟩:=I1.list (show SqL X.K H1 a xs from hq);refine wpAny_pyIter_list p.isList ?_;refine ⟨s1.heap.objs.size,[s1.heap.objs.size],_,_,H1,rfl,I1.kept (t':=s1.toks) λ b o e=>Heap.get?_push_of_some _ e,Ft a _,⟨_,Heap.get?_push_size _ rfl,rfl,rfl⟩,λ b hb=> ?_,q⟩;have e:b=s1.heap.objs.size:=by simpa using hb
    subst e;exact I1.fpOk (Nat.le_refl _) (I1.hok.fresh (Nat.le_refl _))
  | true=>
    obtain ⟨its,rv,p,hz⟩:=I1.tuple (show SqT X.K H1 a xs from hq);refine wpAny_pyIter_tuple (show s1.heap.IsTuple a its.toArray from p) ?_;refine ⟨s1.heap.objs.size,[s1.heap.objs.size],_,_,H1,rfl,I1.kept (t':=s1.toks) λ b o e=>Heap.get?_push_of_some _ e,Ey a _,⟨_,Heap.get?_push_size _ rfl,rfl,rfl⟩,λ b hb=> ?_,q⟩;have e:b=s1.heap.objs.size:=by simpa using hb
    subst e;exact I1.fpOk (Nat.le_refl _) (I1.hok.fresh (Nat.le_refl _))
end
structure FSrc (J:It) (g:TG) (H:Hp) (n:Nat) (set:Nat->St->St):Prop where
  go:∀ i H',i<n->Same H H'->J.go i H'
  stop:∀ H',Same H H'->J.stop n H'
  yld:∀ i σ H' x H'' (R:St->Hp->Prop),i<n->Same H H'->J.yld i H' x H''->(∀ H3,Same H' H3->R (set i σ) H3)->g x σ H'' R
theorem Cq {J:It} {g:TG} {H:Hp} {n:Nat} {set:Nat->St->St} {tb:TS} {D:Ends} {σ:St} (S:FSrc J g H n set) (Pv:Nat->St->Hp->Prop) (h0:Pv 0 σ H) (hk:∀ i σ H',Pv i σ H'->Same H H')
    (hs:∀ i σ H' H3,i<n->Pv i σ H'->Same H' H3->tb { D with nx:=Pv (i+1),ct:=Pv (i+1),bk:=D.nx } (set i σ) H3) (hd:∀ σ H',Pv n σ H'->D.nx σ H'):
    ∃ W:Nat->Nat->St->Hp->Prop,(∃ m,W 0 m σ H)/\∀ i m σ H,W i m σ H->
      (J.stop i H/\D.nx σ H)\/(J.go i H/\∃ N:St->Hp->Prop,(∀ σ' H',N σ' H'->∃ m',m'<m/\W (i+1) m' σ' H')/\∀ x H',J.yld i H x H'->g x σ H' λ σ2 H2=>tb { D with nx:=N,ct:=N,bk:=D.nx } σ2 H2):=by
  refine ⟨λ i m σ H'=>m=n - i/\i<=n/\Pv i σ H',⟨n,by simp,Nat.zero_le _,h0⟩,?_⟩;rintro i m σ H1 ⟨rfl,hi,p⟩;by_cases hlt:i<n
  · exact .inr ⟨S.go i H1 hlt (hk _ _ _ p),Pv (i+1),λ σ' H' p'=>⟨n - (i+1),by omega,rfl,hlt,p'⟩,λ x H' y=>S.yld i σ H1 x H' _ hlt (hk _ _ _ p) y λ H3 s3=>hs i σ H1 H3 hlt p s3⟩
  · have e:i=n:=by omega
    subst e;exact .inl ⟨S.stop H1 (hk _ _ _ p),hd σ H1 p⟩
section
variable {K:PySem.W.Frag} {H:Hp} {a b:Addr} {xs zs:List V} {tp t1 t2:Bool} {i1 i2:Nat}
theorem HQ (h:SqS tp K H a xs):FSrc (Isq tp K a) (Ax i1) H xs.length (λ i σ=>σ.set i1 (some (xs.getD i .non))):=by
  cases tp with
  | false=>exact {
      go:=λ i H' hi s=>⟨xs,xs[i],SqS.same (tp:=false) h s,by simp [hi]⟩
      stop:=λ H' s=>⟨xs,SqS.same (tp:=false) h s,Nat.le_refl _⟩
      yld:=λ i σ H' x H'' R hi s y k=>by
        obtain ⟨e,hv⟩:=y;subst e;have e:x=xs.getD i .non:=by
          rw [List.getD_eq_getElem?_getD,hv xs (SqS.same (tp:=false) h s)];rfl
        subst e;exact k _ (Same.refl _) }
  | true=>exact {
      go:=λ i H' hi s=>⟨xs,xs[i],SqS.same (tp:=true) h s,by simp [hi]⟩
      stop:=λ H' s=>⟨xs,SqS.same (tp:=true) h s,Nat.le_refl _⟩
      yld:=λ i σ H' x H'' R hi s y k=>by
        obtain ⟨e,hv⟩:=y;subst e;have e:x=xs.getD i .non:=by
          rw [List.getD_eq_getElem?_getD,hv xs (SqS.same (tp:=true) h s)];rfl
        subst e;exact k _ (Same.refl _) }
theorem HL (h:SqL K H a xs):FSrc (Itl K a) (Ax i1) H xs.length (λ i σ=>σ.set i1 (some (xs.getD i .non))):=HQ (tp:=false) h
theorem J5 {lo:Int} {n:Nat}:FSrc (Itr lo n) (Ax i1) H n (λ i σ=>σ.set i1 (some (.int (lo+i)))) where
  go:=λ i H' hi s=>hi
  stop:=λ H' s=>Nat.le_refl _
  yld:=λ i σ H' x H'' R hi s y k=>by
    obtain ⟨e,hv⟩:=y;subst e hv;exact k _ (Same.refl _)
theorem JV (h:SqS tp K H a xs):FSrc (JT tp K a) (Es K 2 (A6 (Ax i1) (A6 (Ax i2) Fe))) H xs.length (λ i σ=>(σ.set i1 (some (.int ((i+1:Nat):Int)))).set i2 (some (xs.getD i .non))) where
  go:=λ i H' hi s=>⟨xs,xs[i],h.same s,by simp [hi]⟩
  stop:=λ H' s=>⟨xs,h.same s,Nat.le_refl _⟩
  yld:=λ i σ H' x H'' R hi s y k=>by
    obtain ⟨p,v,hp,rfl,rfl,hv⟩:=y;have e:v=xs.getD i .non:=by
      rw [List.getD_eq_getElem?_getD,hv xs (h.same s)];rfl
    subst e;exact ⟨p,_,rfl,SqT.of Ag,rfl,_,_,rfl,_,_,rfl,rfl,k _ (Aj hp)⟩
theorem FSrc.src {J:It} {g:TG} {n:Nat} {set:Nat->St->St} {σ0:St} (S:FSrc J g H n set) (kp:∀ i,i<n->Kp σ0 (set i σ0)):SrcOk J g σ0 H n (λ i=>set i σ0) where
  go:=S.go
  stop:=S.stop
  yld:=λ i H' x H'' R hi s y k=>S.yld i σ0 H' x H'' R hi s y k
  kp:=kp
theorem MB {σ0:St} (h:SqS tp K H a xs) (h0:σ0[0]?=some none):SrcOk (Isq tp K a) (Ax 0) σ0 H xs.length (λ i=>σ0.set 0 (some (xs.getD i .non))):=(HQ h).src λ i _=>(Kp.refl _).set h0
theorem DD {σ0:St} (h:SqS tp K H a xs) (h0:σ0[0]?=some none) (h1:σ0[1]?=some none):SrcOk (JT tp K a) (Es K 2 (A6 (Ax 0) (A6 (Ax 1) Fe))) σ0 H xs.length (λ i=>(σ0.set 0 (some (.int ((i+1:Nat):Int)))).set 1 (some (xs.getD i .non))):=
  (JV h).src λ i _=>((Kp.refl _).set h0).set h1
end
theorem bA (a b:Nat):Builtin.bitAnd (a:Int) (b:Int)=((a &&& b:Nat):Int):=by
  rw [PyProof.Rows.bitAnd_pp (by omega) (by omega)];rfl
theorem bO (a b:Nat):Builtin.bitOr (a:Int) (b:Int)=((a ||| b:Nat):Int):=by
  have h:=MM.or_add_and a b;rw [PyProof.Rows.bitOr_and,bA];omega
theorem KP (m:Nat):((Builtin.Int.intBits (m:Int):Nat):Int)=((MM.bits m:Nat):Int):=by
  unfold Builtin.Int.intBits MM.bits;by_cases h:m=0
  · subst h;rfl
  · have e:((m:Int) == 0)=false:=by simp [h]
    rw [e,if_neg h];simp
theorem C3 (n:Nat):(1:Int)*2 ^ n=((2 ^ n:Nat):Int):=by
  rw [Int.one_mul];push_cast;rfl
section
variable {X:Cx}
def rBits:V->List V->Hp->VK->Prop:=λ x vs H Q=>∃ i:Int,x= .int i/\vs=[]/\Q (.int (Builtin.Int.intBits i:Nat)) H
theorem EX:MtM X "int.bit_length" rBits:=by
  intro pins s σ H x vs v us Q I rx rv h;obtain ⟨i,rfl,rfl,q⟩:=h;obtain ⟨t,rfl⟩:=rx;have hus:=rv.zero;subst hus;exact PyProof.Rows.call_int_bit_length ⟨.int _,H,I.tok _,⟨_,rfl⟩,q⟩
end
section
variable {H:Hp} {Q:VK} {σ:St} {D:Ends} {te:TE} {ti:TIp} {i:Nat} {x:V}
theorem K0 {m:Nat} (h:Q (.int (MM.bits m:Nat)) H):rBits (.int (m:Nat)) [] H Q:=⟨m,rfl,rfl,by rw [KP];exact h⟩
theorem JQ (e:σ[i]?=some (some x)) (h:te σ H λ y H1=>ti x y H1 λ z H2=>D.nx (σ.set i (some z)) H2):Nu i te ti D σ H:=⟨x,e,h⟩
end
abbrev nV (n:Nat):V:= .int (n:Nat)
theorem AK {ns:List Nat} {i:Nat} (h:i<(ns.map nV).length):(ns.map nV).getD i .non= .int (ns.getD i 0:Nat):=by
  have h':i<ns.length:=by simpa using h
  simp [List.getD_eq_getElem?_getD,h']
theorem BJ {ns:List Int} {i:Nat} (h:i<(ns.map V.int).length):(ns.map V.int).getD i .non= .int (ns.getD i 0):=by
  have h':i<ns.length:=by simpa using h
  simp [List.getD_eq_getElem?_getD,h']
theorem Kr {ns:List Int} {k:Int} (h0:0<=k) (h1:k<ns.length):atI (ns.map V.int) k=some (.int (ns.getD k.toNat 0)):=by
  obtain ⟨j,rfl⟩:∃ j:Nat,k=j:=⟨k.toNat,by omega⟩;have h':j<ns.length:=by omega
  refine AM ?_;rw [show ((j:Int)).toNat=j by omega];simp [List.getD_eq_getElem?_getD,h']
theorem EA {ns:List Nat} {k:Int} (h0:0<=k) (h1:k<ns.length):atI (ns.map nV) k=some (.int (ns.getD k.toNat 0:Nat)):=by
  obtain ⟨j,rfl⟩:∃ j:Nat,k=j:=⟨k.toNat,by omega⟩;have h':j<ns.length:=by omega
  refine AM ?_;rw [show ((j:Int)).toNat=j by omega];simp [List.getD_eq_getElem?_getD,h']
theorem Fu {ns:List Nat} {i:Nat} (h:i<ns.length):ns.take (i+1)=ns.take i++[ns.getD i 0]:=by
  rw [List.take_succ_eq_append_getElem h];simp [List.getD_eq_getElem?_getD,h]
theorem AW {J:It} {g:TG} {σ0:St} {H:Hp} {n:Nat} {st:Nat->St} {te:TE} {Q:VK} {D:Addr} {G:Nat->Int} (S:SrcOk J g σ0 H n st) (hD:H D=none) (hn:n<=100000)
    (he:∀ i H' (R:VK),i<n->Same H H'->(∀ H3,Same H' H3->R (.int (G i)) H3)->te (st i) H' R)
    (hd:∀ H',Same H H'->H' D=some (.lst (((List.range n).map G).map V.int))->Q (.ref D) H'):CN J σ0 g Ip te Q H D:=by
  refine AA (m:=0) (G:=λ i=> .int (G i)) S hD hn (λ i H' R hi s k=>he i H' R hi s λ H3 s3=>k H3 _ s3 (.int _)) λ H' ys s hl r=> ?_;have e:(List.range n).map (λ i=>Dt.int (G i))=((List.range n).map G).map Dt.int:=by rw [List.map_map];rfl
  rw [e] at r;obtain ⟨b,eb,hb,fb⟩:=Hu r;cases eb;exact hd H' s hb
theorem C2 {J:It} {g:TG} {σ0:St} {H:Hp} {n:Nat} {st:Nat->St} {tc:TT} {te:TE} {Q:VK} {D:Addr} {p:Nat->Bool} {G:Nat->Int} (S:SrcOk J g σ0 H n st) (hD:H D=none) (hn:n<=100000)
    (ht:∀ i H' (R:Bool->Hp->Prop),i<n->Same H H'->(∀ H3,Same H' H3->R (p i) H3)->tc (st i) H' R)
    (he:∀ i H' (R:VK),i<n->p i=true->Same H H'->(∀ H3,Same H' H3->R (.int (G i)) H3)->te (st i) H' R)
    (hd:∀ H',Same H H'->H' D=some (.lst ((((List.range n).filter p).map G).map V.int))->Q (.ref D) H'):CN J σ0 g tc te Q H D:=by
  refine Fw (m:=0) (p:=p) (G:=λ i=> .int (G i)) S hD hn ht (λ i H' R hi hp s k=>he i H' R hi hp s λ H3 s3=>k H3 _ s3 (.int _)) λ H' ys s hl r=> ?_;have e:((List.range n).filter p).map (λ i=>Dt.int (G i))=(((List.range n).filter p).map G).map Dt.int:=by rw [List.map_map];rfl
  rw [e] at r;obtain ⟨b,eb,hb,fb⟩:=Hu r;cases eb;exact hd H' s hb
theorem Dn {J:It} {g:TG} {σ0:St} {H:Hp} {n:Nat} {st:Nat->St} {te:TE} {Q:VK} {D:Addr} {G:Nat->Bool} (S:SrcOk J g σ0 H n st) (hD:H D=none) (hn:n<=100000)
    (he:∀ i H' (R:VK),i<n->Same H H'->(∀ H3,Same H' H3->R (.bl (G i)) H3)->te (st i) H' R)
    (hd:∀ H',Same H H'->H' D=some (.lst (((List.range n).map G).map V.bl))->Q (.ref D) H'):CN J σ0 g Ip te Q H D:=by
  refine AA (m:=0) (G:=λ i=> .bl (G i)) S hD hn (λ i H' R hi s k=>he i H' R hi s λ H3 s3=>k H3 _ s3 (.bl _)) λ H' ys s hl r=> ?_;have e:ys=((List.range n).map G).map V.bl:=by
    cases r with
    | @lst _ _ vs _ q f b l ee=>
      rw [hl] at q;cases q;refine List.ext_getElem (by simpa using l) λ i h1 h2=> ?_;have hi:i<n:=by simpa using h2
      have:=ee i ys[i] (.bl (G i)) (by simp [h1]) (by simp [hi]);cases hv:ys[i] <;> rw [hv] at this <;> cases this;simp
  rw [e] at hl;exact hd H' s hl
def GM (P:Program) (w:World) (K:PySem.W.Frag) (mg:Str->Option Value) (base:Heap) (x:Str) (C:Addr) (k:Nat) (ps:List Str) (sp:Sp):Prop:=
  ∃ f fd,mg x=some (.ref C)/\Mk K C f/\FnOk P w K mg base CX0 k f fd ps sp/\Binds K fd ps []
def Fo (P:Program) (w:World) (K:PySem.W.Frag) (mg:Str->Option Value) (base:Heap) (C:Addr) (m:Str) (k:Nat) (ps:List Str) (sp:Sp):Prop:=
  ∃ f fd,Cls K C/\Meth K C m f/\FnOk P w K mg base CX0 k f fd ps sp/\Binds K fd ps []
section
variable {X:Cx} {x m:Str} {C:Addr} {k:Nat} {ps:List Str} {sp:Sp} {o e:Expr} {es:List Expr} {t:TA} {ta:TE} {p pos apos:Pos}
theorem Gt (h:GM X.prog X.w X.K X.mg X.base x C k ps sp) (hr:Room (k+1) X.A) (ha:PA X (e::es) t) (hg:Gl X x:=by rfl) (hdb:(x == ("__debug__":Str))=false:=by decide)
    (he:starEach (e::es) X.env=(false,eval e X.env)::starEach es X.env:=by rfl) (hpl:(backTo pos (starEach es X.env)).any (·.1)=false:=by rfl):
    PE X (.Call (.Name x p) (e::es) [] pos) (HP C sp [] E0 t):=by
  obtain ⟨f,fd,hm,M,F,hb⟩:=h;exact KY M F hr hg hm hb .nil HK ha hdb he hpl
theorem M5 {pl:Sem Bool} (he:PE X o ta) (h:Fo X.prog X.w X.K X.mg X.base C m k ps sp) (hr:Room k X.A) (ha:PA X (e::es) t)
    (hst:starEach (e::es) X.env=(false,eval e X.env)::starEach es X.env:=by rfl) (hpl:(backTo pos (starEach es X.env)).any (·.1)=false:=by rfl)
    (ht:eval (.Call (.Attribute o m apos) (e::es) [] pos) X.env=(do
      let ov <-eval o X.env
      standAt apos.atName
      let (f,first) <-holding [ov] (getMethod ov m pl)
      callWith pos f first (backTo pos (starEach (e::es) X.env)) (backToKw pos (keywordEach [] X.env))):=by rfl):
    PE X (.Call (.Attribute o m apos) (e::es) [] pos) (FB C m sp [] E0 ta t):=by
  obtain ⟨f,fd,c,hm,F,hb⟩:=h;exact KJ (pl:=pl) he c hm F hr hb .nil HK ha hst hpl ht
theorem FG {pl:Sem Bool} (he:PE X o ta) (h:Fo X.prog X.w X.K X.mg X.base C m k ps sp) (hr:Room k X.A)
    (ht:eval (.Call (.Attribute o m apos) [] [] pos) X.env=(do
      let ov <-eval o X.env
      standAt apos.atName
      let (f,first) <-holding [ov] (getMethod ov m pl)
      callWith pos f first (backTo pos (starEach [] X.env)) (backToKw pos (keywordEach [] X.env))):=by rfl):
    PE X (.Call (.Attribute o m apos) [] [] pos) (FB C m sp [] E0 ta K6):=by
  obtain ⟨f,fd,c,hm,F,hb⟩:=h;exact IV (pl:=pl) he c hm F hr hb .nil HK ht
end
structure Kind (K:PySem.W.Frag) (C:Addr):Prop where
  cl:Cls K C
  ha:PySem.W.findIn K (.ref C) "__class__"=some (some (.builtin "object.__class__"))
  hn:PySem.W.specialIn K (.builtin "object.__class__") "__get__"=some (some (.builtin "getset_descriptor.__get__"))
  htk:PySem.W.takesIn K (.builtin "object.__class__")=some true
  hm:PySem.W.mroIn K C (.type "object")=some true
section
variable {K:PySem.W.Frag} {H:Hp} {Q:VK} {σ:St} {D:Ends} {te tv:TE} {t:TA} {a C dx:Addr} {fs:List (Str × V)} {f:Str} {v:V} {sp:Sp}
theorem Mc (h:te σ H λ x H1=>∃ a C dx fs v,x= .ref a/\H1 a=some (.ins C dx fs)/\Cls K C/\NoAttr K C f/\fs.lookup f=some v/\Q v H1):MH K te f σ H Q:=h
theorem Mj (h:tv σ H λ y H1=>te σ H1 λ x H2=>∃ a C dx fs,x= .ref a/\H2 a=some (.ins C dx fs)/\Cls K C/\NoAttr K C f/\fs.length<1000/\D.nx σ (upd H2 a (.ins C dx (AB f y fs)))):Nr K te tv f D σ H:=h
theorem B1 {y:V} (e:H a=some (.ins C dx fs)) (c:Cls K C) (n:NoAttr K C f) (l:fs.length<1000) (h:D.nx σ (upd H a (.ins C dx (AB f y fs)))):∃ a' C' dx' fs',V.ref a= .ref a'/\H a'=some (.ins C' dx' fs')/\Cls K C'/\NoAttr K C' f/\fs'.length<1000/\D.nx σ (upd H a' (.ins C' dx' (AB f y fs'))):=⟨a,C,dx,fs,rfl,e,c,n,l,h⟩
theorem Lc (h:t σ H λ vs H1=>∀ x dx,H1 x=none->H1 dx=none->dx≠x->sp (.ref x::vs) (upd (upd H1 dx (.own x)) x (.ins C dx [])) (λ v H2=>v= .non/\Q (.ref x) H2) E0):HP C sp [] E0 t σ H Q:=by
  unfold HP;simpa using h
theorem Kb {m:Str} (h:te σ H λ x H1=>∃ a dx fs,x= .ref a/\H1 a=some (.ins C dx fs)/\fs.lookup m=none/\t σ H1 λ vs H2=>sp (x::vs) H2 Q E0):FB C m sp [] E0 te t σ H Q:=by
  unfold FB;simpa using h
end
theorem IW {r r':R2} {ta tb tc:TE} {σ:St} {H:Hp} {Q:VK} (h:ta σ H λ x H1=>tb σ H1 λ y H2=>r x y H2 λ z H3=>∃ k,z= .bl k/\(if k=true then tc σ H3 λ w' H4=>r' y w' H4 Q else Q (.bl false) H3)):IY r r' ta tb tc σ H Q:=h
def DI (x:V) (a b:Int):Bool:=match x with | .int i=>decide (a<=i)&&decide (i<=b) | _=>false
theorem CA {b b':Bool} {Q:VK} {H:Hp} (e:b=b') (h:Q (.bl b') H):Q (.bl b) H:=e▸h
theorem GW {b:Bool} {A B:Prop} (h1:b=true->A) (h2:b=false->B):if b=true then A else B:=by
  cases b with
  | true=>exact h1 rfl
  | false=>exact h2 rfl
theorem GJ {H:Hp} {x dx:Addr} {o:HO} {u:HO} (h1:H x=none) (h2:H dx=none):Same H (upd (upd H dx u) x o):=λ b q e=>by
  rw [Ao (Ap e h1),Ao (Ap e h2)];exact e
section
variable {X:Cx} {pins:List (Addr × Obj)} {σ:St} {H:Hp} {s:Shared}
end
abbrev dN (n:Nat):Dt:= .int (n:Nat)
def dL (ns:List Nat):Dt:= .lst (ns.map dN)
def dT (ns:List Nat):Dt:= .tup (ns.map dN)
def dS (zs:List Str):Dt:= .lst (zs.map .str)
def dST (zs:List Str):Dt:= .tup (zs.map .str)
def dLL (ls:List (List Nat)):Dt:= .lst (ls.map dL)
def dTT (ls:List (List Nat)):Dt:= .tup (ls.map dT)
section
variable {H:Hp} {F:Addr->Prop} {n:Nat} {v:V}
theorem Dj {α:Type} {f:α->V} {g:α->Dt} (uniq:∀ (a:α) (v:V),Rp H F n v (g a)->v=f a) {vs:List V} {as:List α} (l:vs.length=(as.map g).length)
    (e:∀ (i:Nat) (v:V) (d:Dt),vs[i]?=some v->(as.map g)[i]?=some d->Rp H F n v d):vs=as.map f:=by
  refine List.ext_getElem (by simpa using l) λ i h1 h2=> ?_;have h3:i<as.length:=by simpa using h2
  rw [List.getElem_map];exact uniq _ _ (e i vs[i] (g as[i]) (by simp [h1]) (by simp [h3]))
theorem JE (a:Nat) (v:V) (r:Rp H F n v (dN a)):v=nV a:=by cases r;rfl
theorem Jk (a:Str) (v:V) (r:Rp H F n v (.str a)):v= .str a:=by cases r;rfl
theorem FE {ns:List Nat} (r:Rp H F n v (dL ns)):∃ a,v= .ref a/\H a=some (.lst (ns.map nV))/\F a/\ns.length<=100000:=by
  unfold dL at r;cases r with
  | @lst m a vs _ h f b l e=>
    have q:=Dj (f:=nV) (λ a v r=>JE a v r) l e;subst q;exact ⟨a,rfl,h,f,by simpa using b⟩
theorem EQ {ns:List Nat} (r:Rp H F n v (dT ns)):∃ a,v= .ref a/\H a=some (.tup (ns.map nV))/\ns.length<=100000:=by
  unfold dT at r;cases r with
  | @tup m a vs _ h b l e=>
    have q:=Dj (f:=nV) (λ a v r=>JE a v r) l e;subst q;exact ⟨a,rfl,h,by simpa using b⟩
theorem Gk {zs:List Str} (r:Rp H F n v (dS zs)):∃ a,v= .ref a/\H a=some (.lst (zs.map V.str))/\F a/\zs.length<=100000:=by
  unfold dS at r;cases r with
  | @lst m a vs _ h f b l e=>
    have q:=Dj (f:=V.str) (λ a v r=>Jk a v r) l e;subst q;exact ⟨a,rfl,h,f,by simpa using b⟩
theorem Dv {zs:List Str} (r:Rp H F n v (dST zs)):∃ a,v= .ref a/\H a=some (.tup (zs.map V.str))/\zs.length<=100000:=by
  unfold dST at r;cases r with
  | @tup m a vs _ h b l e=>
    have q:=Dj (f:=V.str) (λ a v r=>Jk a v r) l e;subst q;exact ⟨a,rfl,h,by simpa using b⟩
theorem F9 {α:Type} {f:α->V} {g:α->Dt} {as:List α} (k:∀ a∈as,Rp H F n (f a) (g a)):∀ (i:Nat) (v:V) (d:Dt),(as.map f)[i]?=some v->(as.map g)[i]?=some d->Rp H F n v d:=by
  intro i v d h1 h2;rw [List.getElem?_map] at h1 h2;cases e:as[i]? with
  | none=>rw [e] at h1;cases h1
  | some a=>
    rw [e] at h1 h2;cases h1;cases h2;exact k a (List.mem_of_getElem? e)
theorem Iy {a:Addr} {ns:List Nat} (h:H a=some (.lst (ns.map nV))) (f:F a) (b:ns.length<=100000):Rp H F (n+1) (.ref a) (dL ns):= .lst h f (by simpa using b) (by simp) (F9 λ k _=> .int _)
theorem Ma {a:Addr} {ns:List Nat} (h:H a=some (.tup (ns.map nV))) (b:ns.length<=100000):Rp H F (n+1) (.ref a) (dT ns):= .tup h (by simpa using b) (by simp) (F9 λ k _=> .int _)
theorem IJ {a:Addr} {zs:List Str} (h:H a=some (.lst (zs.map V.str))) (f:F a) (b:zs.length<=100000):Rp H F (n+1) (.ref a) (dS zs):= .lst h f (by simpa using b) (by simp) (F9 λ k _=> .str _)
theorem Ll {a:Addr} {zs:List Str} (h:H a=some (.tup (zs.map V.str))) (b:zs.length<=100000):Rp H F (n+1) (.ref a) (dST zs):= .tup h (by simpa using b) (by simp) (F9 λ k _=> .str _)
theorem DG {ds:List Dt} (r:Rp H F n v (.lst ds)):∃ m a vs,n=m+1/\v= .ref a/\H a=some (.lst vs)/\F a/\vs.length=ds.length/\vs.length<=100000/\∀ i,i<ds.length->Rp H F m (vs.getD i .non) (ds.getD i .non):=by
  cases r with
  | @lst m a vs _ h f b l e=>
    refine ⟨m,a,vs,rfl,rfl,h,f,l,b,λ i hi=>e i _ _ ?_ ?_⟩
    · rw [List.getD_eq_getElem?_getD,List.getElem?_eq_getElem (by omega)];rfl
    · rw [List.getD_eq_getElem?_getD,List.getElem?_eq_getElem hi];rfl
theorem F3 {ds:List Dt} (r:Rp H F n v (.tup ds)):∃ m a vs,n=m+1/\v= .ref a/\H a=some (.tup vs)/\vs.length=ds.length/\vs.length<=100000/\∀ i,i<ds.length->Rp H F m (vs.getD i .non) (ds.getD i .non):=by
  cases r with
  | @tup m a vs _ h b l e=>
    refine ⟨m,a,vs,rfl,rfl,h,l,b,λ i hi=>e i _ _ ?_ ?_⟩
    · rw [List.getD_eq_getElem?_getD,List.getElem?_eq_getElem (by omega)];rfl
    · rw [List.getD_eq_getElem?_getD,List.getElem?_eq_getElem hi];rfl
theorem Az {α β:Type} (f:α->β) (as:List α) (i:Nat) (x:β) (y:α) (h:i<as.length):(as.map f).getD i x=f (as.getD i y):=by simp [List.getD_eq_getElem?_getD,h]
theorem Bv {zs:List Str} {i:Nat} (h:i<(zs.map V.str).length):(zs.map V.str).getD i .non= .str (zs.getD i Str.empty):=Az V.str zs i .non Str.empty (by simpa using h)
theorem As {α:Type} {as:List α} {i:Nat} {y:α} (h:i<as.length):as.getD i y∈as:=by
  rw [List.getD_eq_getElem?_getD,List.getElem?_eq_getElem h];exact List.getElem_mem h
theorem BG {α β:Type} (f:α->β) (as:List α) (y:α):(List.range as.length).map (λ i=>f (as.getD i y))=as.map f:=AS f as y
end
theorem Rp.ins {H:Hp} {F:Addr->Prop} {n:Nat} {v:V} {d:Dt} {x C dx:Addr} {fs:List (Str × V)} {o:HO} (r:Rp H F n v d) (h:H x=some (.ins C dx fs)):Rp (L2.upd H x o) F n v d:=by
  induction r with
  | non=>exact .non
  | bl b=>exact .bl b
  | int i=>exact .int i
  | str z=>exact .str z
  | @lst n a vs ds q f b l e ih=>
    refine .lst ?_ f b l ih;rw [Ao (DQ q h (by intro z;cases z))];exact q
  | @tup n a vs ds q b l e ih=>
    refine .tup ?_ b l ih;rw [Ao (DQ q h (by intro z;cases z))];exact q
def But (x:Addr) (H H':Hp):Prop:=∀ b o,H b=some o->b≠x->H' b=some o
theorem But.same {x:Addr} {H H1 H2:Hp} (b:But x H H1) (s:Same H1 H2):But x H H2:=λ a o e n=>s _ _ (b a o e n)
theorem But.of {x:Addr} {H H1:Hp} (s:Same H H1):But x H H1:=λ a o e _=>s _ _ e
theorem But.put {x:Addr} {H H1:Hp} {o:HO} (b:But x H H1):But x H (upd H1 x o):=λ a u e n=>by rw [Ao n];exact b a u e n
theorem But.rp {x:Addr} {H H':Hp} {F:Addr->Prop} {n:Nat} {v:V} {d:Dt} {C dx:Addr} {fs:List (Str × V)} (k:But x H H') (h:H x=some (.ins C dx fs)) (r:Rp H F n v d):Rp H' F n v d:=by
  induction r with
  | non=>exact .non
  | bl b=>exact .bl b
  | int i=>exact .int i
  | str z=>exact .str z
  | @lst n a vs ds q f b l e ih=>exact .lst (k _ _ q (DQ q h (by intro z;cases z))) f b l ih
  | @tup n a vs ds q b l e ih=>exact .tup (k _ _ q (DQ q h (by intro z;cases z))) b l ih
theorem Rp.tupd {H:Hp} {F:Addr->Prop} {n:Nat} {D t:Addr} {ds:List Dt} {ys:List V} (r:Rp H F (n+1) (.ref D) (.lst ds)) (hl:H D=some (.lst ys)) (ht:H t=none):Rp (L2.upd H t (.tup ys)) F (n+1) (.ref t) (.tup ds):=by
  cases r with
  | @lst _ _ vs _ q f b l ee=>
    rw [hl] at q;cases q;exact .tup Ag b l λ i v e h1 h2=>(ee i v e h1 h2).new ht
theorem LB (ls:List (List Nat)):(List.range ls.length).map (λ i=>dT (ls.getD i []))=ls.map dT:=AS dT ls []
theorem Lm (ls:List (List Nat)):(List.range ls.length).map (λ i=>dL (ls.getD i []))=ls.map dL:=AS dL ls []
section
variable {H:Hp} {a:Addr} {kvs:List (Key × V)}
end
theorem Nk {xs:List V} {k:Int} (h:0<=k):F1 xs (some k) none=xs.drop k.toNat:=by
  unfold F1;have e2:HT.sIx xs.length xs.length none=xs.length:=rfl;rw [e2];have e1:HT.sIx xs.length 0 (some k)=min k.toNat xs.length:=by
    unfold HT.sIx;simp only;split <;> omega
  rw [e1];by_cases q:k.toNat<=xs.length
  · rw [Nat.min_eq_left q,List.take_of_length_le (by simp)]
  · rw [Nat.min_eq_right (by omega),List.drop_of_length_le (Nat.le_refl _),List.drop_of_length_le (by omega)];simp
theorem Ml {xs:List V} {k:Int} (h:0<=k):F1 xs none (some k)=xs.take k.toNat:=by
  unfold F1;have e2:HT.sIx xs.length 0 none=0:=rfl;rw [e2,List.drop_zero];have e1:HT.sIx xs.length xs.length (some k)=min k.toNat xs.length:=by
    unfold HT.sIx;simp only;split <;> omega
  rw [e1,Nat.sub_zero];by_cases q:k.toNat<=xs.length
  · rw [Nat.min_eq_left q]
  · rw [Nat.min_eq_right (by omega),List.take_of_length_le (Nat.le_refl _),List.take_of_length_le (by omega)]
section
variable {K:PySem.W.Frag} {wi:TI} {own:List Str} {fr:List (Str × Nat)} {g:TG} {tc:TT} {te tl:TE} {tb:TS} {D:Ends} {σ:St} {H:Hp} {Q:VK} {R:It->Hp->Prop} {ta:TA}
theorem Lb (h:wi σ H λ J H1=>∀ D,H1 D=none->CN J (Ds own fr σ) g tc te Q H1 D):Ej wi own fr g tc te σ H Q:=h
theorem L6 (h:wi σ H λ J H1=>∃ W:Nat->Nat->St->Hp->Prop,(∃ m,W 0 m σ H1)/\∀ i m σ H,W i m σ H->
  (J.stop i H/\D.nx σ H)\/(J.go i H/\∃ N:St->Hp->Prop,(∀ σ' H',N σ' H'->∃ m',m'<m/\W (i+1) m' σ' H')/\∀ x H',J.yld i H x H'->g x σ H' λ σ2 H2=>tb { D with nx:=N,ct:=N,bk:=D.nx } σ2 H2)):Nw wi g tb D σ H:=h
theorem MX (h:tl σ H λ x H1=>∃ a,x= .ref a/\(∃ xs,SqL K H1 a xs)/\R (Itl K a) H1):JF K tl σ H R:=h
theorem Nz (h:tl σ H λ x H1=>∃ a,x= .ref a/\(∃ xs,SqT K H1 a xs)/\R (Itt K a) H1):LS K tl σ H R:=h
theorem Nh (h:tl σ H λ x H1=>∃ tp a,x= .ref a/\(∃ xs,SqS tp K H1 a xs)/\R (Isq tp K a) H1):iSq K tl σ H R:=h
theorem Nx (h:ta σ H λ vs H1=>∃ a,vs=[.ref a]/\(∃ xs,SqL K H1 a xs)/\R (Ite K a) H1):Ls K ta σ H R:=h
theorem NE (h:ta σ H λ vs H1=>∃ tp a,vs=[.ref a]/\(∃ xs,SqS tp K H1 a xs)/\R (JT tp K a) H1):Jz K ta σ H R:=h
theorem Ng (h:ta σ H λ vs H1=>∃ t1 t2 a b,vs=[.ref a, .ref b]/\(∃ xs,SqS t1 K H1 a xs)/\(∃ ys,SqS t2 K H1 b ys)/\R (Izs t1 t2 K a b) H1):iZs K ta σ H R:=h
theorem Ni (h:ta σ H λ vs H1=>∃ j:Int,vs=[.int j]/\ -(2 ^ 62)<=j/\j<2 ^ 62/\R (Itr 0 j.toNat) H1):Lu ta σ H R:=h
theorem MT (h:ta σ H λ vs H1=>∃ i j:Int,vs=[.int i, .int j]/\(-(2 ^ 62)<=i/\i<2 ^ 62/\ -(2 ^ 62)<=j/\j<2 ^ 62)/\R (Itr i (j - i).toNat) H1):LA ta σ H R:=h
theorem MS (h:ta σ H λ vs H1=>∃ i j c:Int,vs=[.int i, .int j, .int c]/\(-(2 ^ 40)<=i/\i<2 ^ 40)/\(-(2 ^ 40)<=j/\j<2 ^ 40)/\(-(2 ^ 20)<=c/\c<2 ^ 20)/\c≠0/\R (Itc i c (Builtin.Range.rangeSize i j c).toNat) H1):Lz ta σ H R:=h
end
theorem Kc {K:PySem.W.Frag} {n:Nat} {t:TGs} {a:Addr} {xs:List V} {σ:St} {H:Hp} {QS:St->Hp->Prop} (h:SqT K H a xs) (l:xs.length=n) (k:t xs σ H QS):Es K n t (.ref a) σ H QS:=⟨a,xs,rfl,h,l,k⟩
theorem JB {t:TG} {u:TGs} {v:V} {vs:List V} {σ:St} {H:Hp} {QS:St->Hp->Prop} (k:t v σ H λ σ' H'=>u vs σ' H' QS):A6 t u (v::vs) σ H QS:=⟨v,vs,rfl,k⟩
theorem Ki {σ:St} {H:Hp} {QS:St->Hp->Prop} (k:QS σ H):Fe [] σ H QS:=⟨rfl,k⟩
theorem Fq {H:Hp} {i1 n:Nat}:FSrc (Itr 0 n) (Ax i1) H n (λ i σ=>σ.set i1 (some (.int (i:Nat)))):=by
  have:=J5 (H:=H) (i1:=i1) (lo:=0) (n:=n);simpa using this
theorem BR {n:Nat} {σ0:St} {H:Hp} (h0:σ0[0]?=some none):SrcOk (Itr 0 n) (Ax 0) σ0 H n (λ i=>σ0.set 0 (some (.int (i:Nat)))):=by
  have:=Dy (H:=H) (lo:=0) (n:=n) h0;simpa using this
theorem Jt {H:Hp} {F:Addr->Prop} {n:Nat} {a:Addr} {x y:V} {d e:Dt} (h:H a=some (.lst [x,y])) (f:F a) (r1:Rp H F n x d) (r2:Rp H F n y e):Rp H F (n+1) (.ref a) (.lst [d,e]):=by
  refine .lst h f (by simp) rfl λ i v u h1 h2=> ?_
  match i with
  | 0=>cases h1;cases h2;exact r1
  | 1=>cases h1;cases h2;exact r2
  | i+2=>cases h1
theorem Nd {A B:Prop} (h:B):if (!true)=true then A else B:=by simpa using h
theorem Hv {H:Hp} {F:Addr->Prop} {n:Nat} {a:Addr} {v0 v1 v2 v3 v4 v5 v6:V} {d0 d1 d2 d3 d4 d5 d6:Dt} (h:H a=some (.tup [v0,v1,v2,v3,v4,v5,v6])) (r0:Rp H F n v0 d0) (r1:Rp H F n v1 d1) (r2:Rp H F n v2 d2) (r3:Rp H F n v3 d3) (r4:Rp H F n v4 d4) (r5:Rp H F n v5 d5) (r6:Rp H F n v6 d6):
    Rp H F (n+1) (.ref a) (.tup [d0,d1,d2,d3,d4,d5,d6]):=by
  refine .tup h (by simp) rfl λ i v u h1 h2=> ?_
  match i with
  | 0=>cases h1;cases h2;exact r0
  | 1=>cases h1;cases h2;exact r1
  | 2=>cases h1;cases h2;exact r2
  | 3=>cases h1;cases h2;exact r3
  | 4=>cases h1;cases h2;exact r4
  | 5=>cases h1;cases h2;exact r5
  | 6=>cases h1;cases h2;exact r6
  | i+7=>cases h1
theorem By {α:Type} {xs:List α} {n:Nat} (h:xs.length=n+1):∃ x ys,xs=x::ys/\ys.length=n:=by
  cases xs with
  | nil=>cases h
  | cons x ys=>exact ⟨x,ys,rfl,Nat.succ.inj h⟩
theorem HG {H:Hp} {F:Addr->Prop} {n:Nat} {v:V} {d0 d1 d2 d3 d4 d5 d6:Dt} (r:Rp H F n v (.tup [d0,d1,d2,d3,d4,d5,d6])):∃ m a v0 v1 v2 v3 v4 v5 v6,n=m+1/\v= .ref a/\H a=some (.tup [v0,v1,v2,v3,v4,v5,v6])/\
    Rp H F m v0 d0/\Rp H F m v1 d1/\Rp H F m v2 d2/\Rp H F m v3 d3/\Rp H F m v4 d4/\Rp H F m v5 d5/\Rp H F m v6 d6:=by
  cases r with
  | @tup m a vs _ h b l e=>
    replace l:vs.length=7:=l;obtain ⟨v0,w0,rfl,l0⟩:=By l;obtain ⟨v1,w1,rfl,l1⟩:=By l0;obtain ⟨v2,w2,rfl,l2⟩:=By l1;obtain ⟨v3,w3,rfl,l3⟩:=By l2;obtain ⟨v4,w4,rfl,l4⟩:=By l3;obtain ⟨v5,w5,rfl,l5⟩:=By l4;obtain ⟨v6,w6,rfl,l6⟩:=By l5;cases List.eq_nil_of_length_eq_zero l6;exact ⟨m,a,v0,v1,v2,v3,v4,v5,v6,rfl,rfl,h,e 0 _ _ rfl rfl,e 1 _ _ rfl rfl,e 2 _ _ rfl rfl,e 3 _ _ rfl rfl,e 4 _ _ rfl rfl,e 5 _ _ rfl rfl,e 6 _ _ rfl rfl⟩
theorem ifJ {c:TT} {t u:TS} {D:Ends} {σ:St} {H:Hp} (J:St->Hp->Prop) (h1:∀ σ' H',J σ' H'->D.nx σ' H') (h2:(∀ σ' H',J σ' H'->D.nx σ' H')->KI c t u D σ H):KI c t u D σ H:=h2 h1
theorem F0 {α:Type} (f:α->List Nat) (xs:List α):Dt.lst (xs.map λ x=>dL (f x))=dLL (xs.map f):=by unfold dLL;rw [List.map_map];rfl
theorem L4 {α:Type} (f:α->Nat) (xs:List α):Dt.lst (xs.map λ x=>dN (f x))=dL (xs.map f):=by unfold dL;rw [List.map_map];rfl
theorem Hb {α:Type} (f:α->Str) (xs:List α):Dt.lst (xs.map λ x=>Dt.str (f x))=dS (xs.map f):=by unfold dS;rw [List.map_map];rfl
theorem Kn (s:Nat) (ns:List Nat):inV (nV s) (ns.map nV)=decide (s∈ns):=by
  unfold inV;rw [Bool.eq_iff_iff,List.any_eq_true,decide_eq_true_eq];constructor
  · rintro ⟨y,hy,e⟩;obtain ⟨k,hk,rfl⟩:=List.mem_map.mp hy;have e:((k:Nat):Int)=(s:Nat):=by simpa [eqV] using e
    have:k=s:=by omega
    exact this▸hk
  · intro h;exact ⟨nV s,List.mem_map.mpr ⟨s,h,rfl⟩,by simp [eqV]⟩
theorem JD (ns:List Nat):(ns.map nV).all A7=true:=by simp [A7]
theorem LH {K:PySem.W.Frag} {H:Hp} {Q:VK} {tp:Bool} {p:Addr} {s:Nat} {ns:List Nat} (c:SqS tp K H p (ns.map nV)) (h:Q (.bl (decide (s∈ns))) H):rIn K false (nV s) (.ref p) H Q:=by
  refine ⟨p,_,rfl,?_,rfl,JD ns,by rw [Kn];exact h⟩;cases tp with
  | false=>exact .inl c
  | true=>exact .inr c
theorem Do {vs:List V} {k:Int} {j:Nat} (e:k=j) (h:j<vs.length):atI vs k=some (vs.getD j .non):=by
  subst e;refine AM ?_;rw [List.getD_eq_getElem?_getD,List.getElem?_eq_getElem h];rfl
end L2
namespace L2
theorem Hz {α:Type} {as:List α} {i:Nat} {y:α} (h:i<as.length):as.getD i y=as[i]:=by
  rw [List.getD_eq_getElem?_getD,List.getElem?_eq_getElem h];rfl
end L2
namespace L2
open PySem PySem.Spec PyProof.Rows
theorem Hk {n j y:Nat} (h:j<n):(List.range n).getD j y=j:=by
  rw [Hz (by simpa using h),List.getElem_range]
theorem Iq {α:Type} (f:Nat->α) {n j:Nat} {y:α} (h:j<n):((List.range n).map f).getD j y=f j:=by
  rw [Az f (List.range n) j y 0 (by simpa using h),Hk h]
def M0 (i j:Int):Prop:=0<j/\j<2 ^ 200
theorem Iw {j:Int} (h0:0<j) (h:j<2 ^ 200):j.natAbs.log2<9000:=by
  have h1:j.natAbs<2 ^ 200:=by omega
  have:=(Nat.log2_lt (show j.natAbs≠0 by omega)).mpr h1;omega
theorem GG {X:Cx}:OpR X (binaryOp .FloorDiv) (rI M0 λ i j=> .int (i / j)):=opI λ i j _ _ _ _ _ hc q=>by
  rw [<-Int.fdiv_eq_ediv_of_nonneg i (by have:=hc.1;omega)] at q;exact floordiv_int (by have:=hc.1;omega) q (.inl (PyProof.noPylong_of_log2 (Iw hc.1 hc.2)))
section
variable {prog:Program} {w:World} {A:Around} {E:Value->Shared->Prop} {s:Shared} {T:String} {r d:Addr} {n:Nat} {P:Nat->Value->Prop} {St:Nat->Heap->Prop}
theorem Gd {R:Result->Shared->Prop} {S:Addr} {res:Value} {c0:Nat} (W:Walks prog w A.in1 r [r,d] [r] n P St) (hT:s.TypeIs (.ref r) T) (nl:(Value.type T == Value.type "list")=false) (nt:(Value.type T == Value.type "tuple")=false)
    (hint:∀ (E:Value->Shared->Prop) (Q:Bool->Shared->Prop),(∀ b tk,Q b { s with toks:=tk })->wpAny (model prog w) A.in1 (Builtin.List.listLengthHint (.ref r)) Q E s)
    (st:St 0 s.heap) (hSr:S≠r) (hSd:S≠d) (hS:s.heap.get? S=some { cls:= .type "list",data:= .seq #[] c0 })
    (hR:∀ h' tk acc' c',(∀ b o,b≠S->b≠r->s.heap.get? b=some o->h'.get? b=some o)->h'.get? S=some { cls:= .type "list",dict:=none,data:= .seq acc' c',slots:= #[] }->ItemsOf P acc' n->R (.ok (.ret res)) { s with heap:=h',toks:=tk }) (hn:n<=sizeLine):
    wpAny (model prog w) A.in1 (Builtin.List.listExtendWith (.ref S) (.ref r) res)
      (λ fin s'=>match fin with | .done f=>R (.ok f) s' | .again c'=>c'.quiet=true/\codeAny (model prog w) A c' R s') (λ e s'=>R (.error e) s') s:=by
  have hSf:S∉[r,d]:=by simp [hSr,hSd]
  have key:∀ (h:Heap) (c1 tk:Nat),St 0 h->(∀ b o,b≠S->s.heap.get? b=some o->h.get? b=some o)->h.get? S=some { cls:= .type "list",data:= .seq #[] c1 }->
      codeAny (model prog w) A (.builtin "list.extend.loop" ⟨[.ref S, .ref r,res],[]⟩) R { s with heap:=h,toks:=tk }:=by
    intro h c1 tk hst hk hS1;refine codeAny_extend_loopS W.toS hn S hSf res n 0 _ #[] c1 rfl (Nat.zero_le _) hst hS1 (ItemsOf.nil _) λ s' acc' c' hm hS' hacc=> ?_;rw [Moved.eq_with hm];refine hR s'.heap s'.toks acc' c' (λ b o hb hbr e=>hm.heap b o (λ hmem=> ?_) (hk b o hb e)) hS' hacc;rcases List.mem_cons.mp hmem with z | z
    · exact hb z
    · exact hbr (List.mem_singleton.mp z)
  unfold Builtin.List.listExtendWith;refine wpAny_bind (wpAny_typeOf (T:=T) hT ?_);have h1:Builtin.List.listSameRef (.ref S) (.ref r)=false:=by simp [Builtin.List.listSameRef,hSr]
  simp only [h1,nl,nt,Bool.or_false,Bool.false_eq_true,if_false];refine wpAny_bind (W.self 0 s _ _ st ?_);refine wpAny_bind (wpAny_holding (hint _ _ λ b tk=> ?_));refine wpAny_ite_split (λ _=> ?_) (λ _=>wpAny_pure ⟨plainId_quiet PySem.F.plain_extend_loop _,key _ c0 _ st (λ b o _ e=>e) hS⟩);refine wpAny_bind (wpAny_rule ?_);refine wpAny_bind ?_;show wpAny _ _ (updateSeq S (·.push .none) >>= λ _=>updateSeq S (·.pop)) _ _ _;refine wpAny_bind (wpAny_updateSeq hS rfl ?_);have hS2:=Heap.get?_update_self (Obj.mapSeq (·.push Value.none)) hS rfl;refine wpAny_updateSeq (hz:=by seq_fits) hS2 rfl ?_;have hS3:=Heap.get?_update_self (Obj.mapSeq (·.pop)) hS2 rfl;have oth:∀ b o,b≠S->s.heap.get? b=some o->((s.heap.update S (Obj.mapSeq (·.push Value.none))).update S (Obj.mapSeq (·.pop))).get? b=some o:=λ b o hb e=>
    (Heap.get?_update_other _ _ (Ne.symm hb)).trans ((Heap.get?_update_other _ _ (Ne.symm hb)).trans e)
  exact wpAny_pure ⟨plainId_quiet PySem.F.plain_extend_loop _,key _ _ _ (W.frame 0 _ _ st λ b hb o e=>oth b o (λ z=>hSf (z▸hb)) e) oth hS3⟩
theorem FX {Q:List Value->Shared->Prop} (W:Walks prog w A.in1 r [r,d] [r] n P St) (hT:∀ h,St 0 h->Shared.TypeIs { s with heap:=h } (.ref r) T) (nl:(Value.type T == Value.type "list")=false) (nt:(Value.type T == Value.type "tuple")=false)
    (hint:∀ (h:Heap) (E:Value->Shared->Prop) (Q:Bool->Shared->Prop),St 0 h->(∀ b tk,Q b { s with heap:=h,toks:=tk })->wpAny (model prog w) A.in1 (Builtin.List.listLengthHint (.ref r)) Q E { s with heap:=h })
    (st:St 0 s.heap) (hr:r<s.heap.objs.size) (hd:d<s.heap.objs.size) (hn:n<=sizeLine)
    (hQ:∀ h' tk acc',(∀ b o,b≠r->s.heap.get? b=some o->h'.get? b=some o)->ItemsOf P acc' n->Q acc'.toList { s with heap:=h',toks:=tk }):wpAny (model prog w) A (collect (.ref r)) Q E s:=by
  unfold collect;refine wpAny_bind (wpAny_runValue (codeAny_builtin PySem.F.entry_proto_collect ?_));rw [Around.under_plainId PySem.F.plain_proto_collect _];show wpAny _ A.in1 (newList [] >>= λ l=>again (.builtin "list.__iadd__" ⟨[l, .ref r],[]⟩)) _ _ s;refine wpAny_bind (wpAny_newObj_type ?_);refine wpAny_pure ⟨plainId_quiet PySem.F.plain_list_iadd _,codeAny_builtin PySem.F.entry_list_iadd ?_⟩;rw [Around.under_plainId PySem.F.plain_list_iadd _];have g0:(s.heap.push { cls:= .type "list",data:= .seq ([]:List Value).toArray }).get? s.heap.objs.size=some { cls:= .type "list",data:= .seq #[] }:=Heap.get?_push_size _ rfl;have st1:St 0 (s.heap.push { cls:= .type "list",data:= .seq ([]:List Value).toArray }):=W.frame 0 _ _ st λ b _ o e=>Heap.get?_push_of_some _ e;show wpAny _ A.in1 (Builtin.List.listExtendWith (.ref s.heap.objs.size) (.ref r) (.ref s.heap.objs.size)) _ _ _;refine Gd (R:=λ q z=>match q with
      | .ok (.ret v)=>wpAny (model prog w) A (match v with
        | .ref a=>(do
          let ob <-load a
          match ob.data with
          | .seq xs _=>pure xs.toList
          | _=>unsupported "internal:collect")
        | _=>unsupported "internal:collect") Q E z
      | .ok _=>False
      | .error e=>E e z) (s:={ s with heap:=s.heap.push { cls:= .type "list",data:= .seq ([]:List Value).toArray } }) W (hT _ st1) nl nt (λ E Q k=>hint _ E Q st1 k) st1 (Nat.ne_of_gt hr) (Nat.ne_of_gt hd) g0 (λ h' tk acc' c' kp g2 it=> ?_) hn
  show wpAny _ A (load s.heap.objs.size >>= _) _ _ _;refine wpAny_bind (wpAny_load g2 (wpAny_pure ?_));exact hQ h' tk acc' (λ b o nb e=>kp b o (Nat.ne_of_lt (Heap.lt_size e)) nb (Heap.get?_push_of_some _ e)) it
end
section
variable {prog:Program} {w:World} {A:Around} {E:Value->Shared->Prop} {s:Shared}
theorem Ku:typeLookup (.type "list_reverseiterator") "__len__"=pure none:=by rw [typeLookup_type,builtinLookup_eq_fast];kernel_rfl
theorem JZ:typeLookup (.type "list_reverseiterator") "__length_hint__"=pure (some (.builtin "list_reverseiterator.__length_hint__")):=by rw [typeLookup_type,builtinLookup_eq_fast];kernel_rfl
theorem J2 {r:Addr} {Q:Bool->Shared->Prop} (hT:s.TypeIs (.ref r) "list_reverseiterator") (h:Q false s):wpAny (model prog w) A (Builtin.List.listLengthHint (.ref r)) Q E s:=by
  unfold Builtin.List.listLengthHint;refine wpAny_bind (wpAny_specialOf hT Ku ?_);show wpAny _ _ (specialOf (Value.ref r) (Str.ofString "__length_hint__") >>= _) _ _ _;refine wpAny_bind (wpAny_specialOf hT JZ ?_);generalize hid:("list_reverseiterator.__length_hint__":String)=id0
  wp_delta
  rw [show splitId id0=some ("list_reverseiterator","__length_hint__") from by subst hid;decide +kernel];subst hid;refine wpAny_bind (wpAny_isInstance (T:="list_reverseiterator") (b:=true) hT (by rw [isSubtype_type];kernel_rfl) ?_);refine wpAny_ite_split (λ hab=>absurd hab (by decide)) (λ _=> ?_);refine wpAny_ite_split (λ _=> ?_) (λ hab=>absurd (by decide +kernel) hab);refine wpAny_ite_split (λ hab=>absurd hab (by decide)) (λ _=> ?_);exact wpAny_pure h
end
section
variable {X:Cx} {K:PySem.W.Frag} {e o:Expr} {ta:TA} {to:TE} {p p2 pos pos2 apos cpos:Pos}
theorem J6:bootBuiltins "reversed"=some (.type "reversed"):=by decide +kernel
theorem ME {pins:List (Addr × Obj)} {s:Shared} {σ:St} {H:Hp} {Kt:Addr->List V->Hp->Prop} (hg:Gl X "reversed") (hm:X.mg "reversed"=none) (ha:PA X [e] ta) (hs:starEach [e] X.env=[(false,eval e X.env)]) (I:Inv X pins σ H s)
    (h:ta σ H λ vs H1=>∃ a xs,vs=[.ref a]/\SqL X.K H1 a xs/\Kt a xs H1):
    wpAny (model X.prog X.w) X.A (eval (.Call (.Name "reversed" p2) [e] [] pos2) X.env) (λ v s1=>∃ r a xs H1,v= .ref r/\Inv X pins σ H1 s1/\SqL X.K H1 a xs/\s1.heap.IsRevIter r a ((xs.length:Int) - 1)/\B0 X pins H1 r/\Kt a xs H1) X.xe s:=by
  refine wpAny_Call_Name_kw (BF I hg hm J6 (PyProof.Rows.callWith_type1 (thn (ha pos2 pins s σ H _ I h) λ us s1 ⟨vs,H1,I1,r1,q1⟩=> ?_) hs rfl));obtain ⟨a,xs,rfl,hq,kt⟩:=q1;cases r1 with
  | cons r rr=>
    cases rr;cases r;obtain ⟨its,rv,pl,hz⟩:=I1.list hq;have hl:=rv.length;refine call_reversed_list pl.isList ?_;have I2:Inv X pins σ H1 { s1 with heap:=s1.heap.push (revObj a ((its.toArray.size:Int) - 1)) }:=I1.kept (t':=s1.toks) λ b ob z=>Heap.get?_push_of_some _ z;refine ⟨_,a,xs,H1,rfl,I2,hq,?_,I1.fpOk (Nat.le_refl _) (I1.hok.fresh (Nat.le_refl _)),kt⟩;rw [show ((xs.length:Int) - 1)=((its.toArray.size:Int) - 1) by rw [hl];simp];exact ⟨_,Heap.get?_push_size _ rfl,rfl,rfl⟩
theorem J1 {xs:List V} {its acc:List Value} (rv:Vals xs its) (hl:acc.length=its.length) (h:∀ j v,acc[j]?=some v->its.toArray[its.toArray.size - 1 - j]?=some v):acc=its.reverse:=by
  refine List.ext_getElem (by simpa using hl) λ j h1 h2=> ?_;have:=h j acc[j] (by simp [h1]);rw [List.size_toArray,List.getElem?_toArray,List.getElem?_eq_getElem (by omega)] at this;rw [List.getElem_reverse];exact (Option.some.inj this).symm
open Builtin Builtin.Str in
theorem GY {pins:List (Addr × Obj)} {s1:Shared} {σ:St} {H1:Hp} {Q:VK} {r a:Addr} {ys:List Str} {z:Str} {t:Tok} (hc:X.calm=true) (I1:Inv X pins σ H1 s1) (hq:SqL X.K H1 a (ys.map V.str)) (hit:s1.heap.IsRevIter r a (((ys.map V.str).length:Int) - 1)) (fp:B0 X pins H1 r)
    (hz:(ys.map (·.length)).sum+ys.length*z.length<=16777216) (q:Q (.str (Txt.join z ys.reverse)) H1):
    wpAny (model X.prog X.w) X.A (call (.builtin "str.join") [.str z t, .ref r]) (EP X pins σ Q) X.xe s1:=by
  obtain ⟨its,rv,pl,hsz⟩:=I1.list hq;have hl:=rv.length;obtain ⟨oi,ei,ci,di⟩:=id hit;obtain ⟨ol,el,_⟩:=id pl.isList;have nar:a≠r:=λ z=>by
    subst z;obtain ⟨q,eq,cq,nq,dq⟩:=pl.isList;rw [ei] at eq;cases eq;rw [di] at dq;cases dq
  have W:=Walks.listRev (prog:=X.prog) (w:=X.w) (A:=X.A.in1.in1) (I1.ok.hd hc) r a nar its.toArray;have e0:(((ys.map V.str).length:Int) - 1)=((its.toArray.size:Int) - 1 - ((0:Nat):Int)):=by rw [hl];simp
  rw [e0] at hit;refine wpAny_call (codeAny_call_builtin F.slot_str_join.plain F.entry_str_join (F.slot_str_join.check _ _ _ _ _ _ _ _ (typeIs_str _ _ _) (F.args_str_join_2 _ _) ?_));rw [join_tree_other];have hT:s1.TypeIs (.ref r) "list_reverseiterator":=⟨_,ei,ci⟩;refine wpAny_bind (wpAny_typeOf hT ?_);show wpAny _ X.A.in1 ((pyIter (.ref r)).tryCatch _ >>= λ it=>collect it >>= λ items=>joinTail z items) _ _ s1;refine wpAny_bind (wpAny_tryCatch (W.of_in1.self 0 s1 _ _ ⟨Nat.zero_le _,hit,pl.isList⟩ ?_));refine wpAny_bind (FX (A:=X.A.in1) W (λ h st=>⟨_,(st.2.1).choose_spec.1,(st.2.1).choose_spec.2.1⟩) (by decide) (by decide) (λ h E Q st k=>J2 (s:={ s1 with heap:=h }) ⟨_,(st.2.1).choose_spec.1,(st.2.1).choose_spec.2.1⟩ (k _ _)) ⟨Nat.zero_le _,hit,pl.isList⟩ (Heap.lt_size ei) (Heap.lt_size el) (by rw [List.size_toArray, <-hl];exact hsz) λ h' tk acc kp it=> ?_);have ea:acc.toList=its.reverse:=J1 rv (by rw [Array.length_toList,it.1];simp) λ j v hj=>it.2 j v (by rw [<-Array.getElem?_toList];exact hj);have I2:=Inv.turnedL (t':=tk) (h':=h') [r] I1 (λ b hb=>by rw [List.mem_singleton.mp hb];exact fp) (λ b ob hb z=>kp b ob (λ q=>hb (by simp [q])) z);have rr:Vals (ys.reverse.map V.str) its.reverse:=by rw [List.map_reverse];exact rv.reverse
  obtain ⟨l,hv,hy⟩:=strsAre_values (CP rr);rw [ea,hv];have hok:JoinOk z (l.map (·.1))=true:=by
    rw [hy];refine joinOk_of ?_;rw [List.map_reverse,List.sum_reverse,List.length_reverse];exact hz
  unfold JoinOk at hok;rw [Bool.not_eq_true'] at hok;have g:Gives (joinTail z (strValues l)) (joinMade z l):=by
    have g0:=gives_joinTail z l hok;cases l with
    | nil=>exact g0
    | cons p r=>cases r with
      | nil=>exact g0
      | cons q r'=>exact g0
  refine g X.prog X.w X.A (wants _ X.xe) _ (post_join l ⟨joinFit_length hok,λ t' k=> ?_⟩);rw [hy];exact ⟨.str _,H1,I2.tok k,⟨t',rfl⟩,q⟩
def Gy (K:PySem.W.Frag) (to:TE) (ta:TA):TE:=λ σ H Q=>to σ H λ x H0=>∃ z,x= .str z/\ta σ H0 λ vs H1=>∃ a xs,vs=[.ref a]/\SqL K H1 a xs/\∃ ys:List Str,xs=ys.map V.str/\(ys.map (·.length)).sum+ys.length*z.length<=16777216/\Q (.str (Txt.join z ys.reverse)) H1
theorem G1 (hg:Gl X "reversed") (hm:X.mg "reversed"=none) (ho:PE X o to) (ha:PA X [e] ta) (hK:X.K=K:=by rfl) (hc:X.calm=true:=by rfl) (hs:starEach [e] X.env=[(false,eval e X.env)]:=by rfl)
    (hs1:starEach [Expr.Call (.Name "reversed" p2) [e] [] pos2] X.env=[(false,eval (.Call (.Name "reversed" p2) [e] [] pos2) X.env)]:=by rfl)
    (hbase:attributeBase o "join" X.env (eval o X.env)=eval o X.env:=by rfl)
    (hfew:((backTo cpos (starEach [Expr.Call (.Name "reversed" p2) [e] [] pos2] X.env)).all (λ x=> !x.1)&&(backToKw cpos (keywordEach [] X.env)).all (λ x=>x.1.isSome)
      && decide (([Expr.Call (.Name "reversed" p2) [e] [] pos2]).length+([]:List Keyword).length+(if ([]:List Keyword).isEmpty then 0 else 1)<30))=true:=by rfl)
    (hline:(apos.endLine == cpos.line)=true:=by rfl):
    PE X (.Call (.Attribute o "join" apos) [.Call (.Name "reversed" p2) [e] [] pos2] [] cpos) (Gy K to ta):=by
  subst hK;intro pins s σ H Q I h;refine wpAny_Call_method_late hbase hfew hline rfl (thn (ho pins s σ H _ I h) λ v s1 ⟨x,H1,I1,r1,z,ez,q1⟩=> ?_);subst ez;obtain ⟨t,rfl⟩:=r1;refine ⟨"str","str.join",PySem.F.plainAttrs_str,PySem.F.slot_str_join,PySem.F.type_str_join,typeIs_str _ _ _,λ a ea=>(by cases ea),?_⟩;rw [hs1];refine Calls.callWith_builtin rfl (Calls.evalArgs_plain ?_);show wpAny _ _ (spliced [(false,eval (.Call (.Name "reversed" p2) [e] [] pos2) X.env)]) _ _ s1;refine Calls.spliced_cons (thn (ME (Kt:=λ a xs H1=>∃ ys:List Str,xs=ys.map V.str/\(ys.map (·.length)).sum+ys.length*z.length<=16777216/\Q (.str (Txt.join z ys.reverse)) H1) hg hm ha hs I1 q1) λ v s2 ⟨r,a,xs,H2,ev,I2,hq,hit,fp,ys,ey,hz,q⟩=>Calls.spliced_nil ?_);subst ev ey;exact GY hc I2 hq hit fp hz q
theorem GT {to:TE} {ta:TA} {σ:St} {H:Hp} {Q:VK} (h:to σ H λ x H0=>∃ z,x= .str z/\ta σ H0 λ vs H1=>∃ a xs,vs=[.ref a]/\SqL K H1 a xs/\∃ ys:List Str,xs=ys.map V.str/\(ys.map (·.length)).sum+ys.length*z.length<=16777216/\Q (.str (Txt.join z ys.reverse)) H1):Gy K to ta σ H Q:=h
end
section
variable {X:Cx} {K:PySem.W.Frag} {e o:Expr} {es:List Expr} {ta to:TE} {t:TA} {f name:Str} {pos apos cpos:Pos} {T id:String} {r:V->List V->Hp->VK->Prop}
theorem Ba (he:PE X e ta) (hb:attributeBase e f X.env (eval e X.env)=eval e X.env) (hK:X.K=K:=by rfl):PE X (.Attribute e f pos) (MH K ta f):=by
  subst hK;exact MK he hb
theorem JK (pa:PlainAttrs T) (slot:Slot T name id) (hty:typeOf (.builtin id)=pure (.type "method_descriptor")) (hm:MtR X id r) (ho:PE X o to) (hK:X.K=K:=by rfl)
    (hbase:attributeBase o name X.env (eval o X.env)=eval o X.env:=by rfl) (hline:(apos.endLine == cpos.line)=true:=by rfl):PE X (.Call (.Attribute o name apos) [] [] cpos) (Mh K T r to):=by
  subst hK;exact MA pa slot hty hm ho hbase hline
theorem Lh (pa:PlainAttrs T) (slot:Slot T name id) (hty:typeOf (.builtin id)=pure (.type "method_descriptor")) (hm:MtR X id r) (ho:PE X o to) (ha:PA X (e::es) t) (hK:X.K=K:=by rfl)
    (hbase:attributeBase o name X.env (eval o X.env)=eval o X.env:=by rfl)
    (hfew:((backTo cpos (starEach (e::es) X.env)).all (λ x=> !x.1)&&(backToKw cpos (keywordEach [] X.env)).all (λ x=>x.1.isSome)
      && decide ((e::es).length+([]:List Keyword).length+(if ([]:List Keyword).isEmpty then 0 else 1)<30))=true:=by rfl)
    (hline:(apos.endLine == cpos.line)=true:=by rfl) (hs:starEach (e::es) X.env=(false,eval e X.env)::starEach es X.env:=by rfl) (hplain:(backTo cpos (starEach es X.env)).any (·.1)=false:=by rfl):
    PE X (.Call (.Attribute o name apos) (e::es) [] cpos) (tBM K T r to t):=by
  subst hK;exact M9 pa slot hty hm ho ha hbase hfew hline hs hplain
end
section
variable {prog:Program} {w:World} {A:Around} {E:Value->Shared->Prop} {s:Shared}
end
section
variable {X:Cx} {K:PySem.W.Frag} {e o:Expr} {ta:TA} {to:TE} {p p2 pos pos2 apos cpos:Pos}
end
section
variable {X:Cx} {k:Nat} {e o:Expr} {es:List Expr} {t:TA} {to:TE} {pos:Pos} {S:Addr->Sp->Prop}
end
theorem arg1 {α:Type} {P:List α->Prop} (h:∀ a0,P [a0]):∀ us:List α,us.length=1->P us:=λ us hl=>match us,hl with | [a0],_=>h a0
theorem arg2 {α:Type} {P:List α->Prop} (h:∀ a0 a1,P [a0,a1]):∀ us:List α,us.length=2->P us:=λ us hl=>match us,hl with | [a0,a1],_=>h a0 a1
theorem arg3 {α:Type} {P:List α->Prop} (h:∀ a0 a1 a2,P [a0,a1,a2]):∀ us:List α,us.length=3->P us:=λ us hl=>match us,hl with | [a0,a1,a2],_=>h a0 a1 a2
theorem arg4 {α:Type} {P:List α->Prop} (h:∀ a0 a1 a2 a3,P [a0,a1,a2,a3]):∀ us:List α,us.length=4->P us:=λ us hl=>match us,hl with | [a0,a1,a2,a3],_=>h a0 a1 a2 a3
theorem arg5 {α:Type} {P:List α->Prop} (h:∀ a0 a1 a2 a3 a4,P [a0,a1,a2,a3,a4]):∀ us:List α,us.length=5->P us:=λ us hl=>match us,hl with | [a0,a1,a2,a3,a4],_=>h a0 a1 a2 a3 a4
theorem arg6 {α:Type} {P:List α->Prop} (h:∀ a0 a1 a2 a3 a4 a5,P [a0,a1,a2,a3,a4,a5]):∀ us:List α,us.length=6->P us:=λ us hl=>match us,hl with | [a0,a1,a2,a3,a4,a5],_=>h a0 a1 a2 a3 a4 a5
theorem arg7 {α:Type} {P:List α->Prop} (h:∀ a0 a1 a2 a3 a4 a5 a6,P [a0,a1,a2,a3,a4,a5,a6]):∀ us:List α,us.length=7->P us:=λ us hl=>match us,hl with | [a0,a1,a2,a3,a4,a5,a6],_=>h a0 a1 a2 a3 a4 a5 a6
theorem arg8 {α:Type} {P:List α->Prop} (h:∀ a0 a1 a2 a3 a4 a5 a6 a7,P [a0,a1,a2,a3,a4,a5,a6,a7]):∀ us:List α,us.length=8->P us:=λ us hl=>match us,hl with | [a0,a1,a2,a3,a4,a5,a6,a7],_=>h a0 a1 a2 a3 a4 a5 a6 a7
theorem arg9 {α:Type} {P:List α->Prop} (h:∀ a0 a1 a2 a3 a4 a5 a6 a7 a8,P [a0,a1,a2,a3,a4,a5,a6,a7,a8]):∀ us:List α,us.length=9->P us:=λ us hl=>match us,hl with | [a0,a1,a2,a3,a4,a5,a6,a7,a8],_=>h a0 a1 a2 a3 a4 a5 a6 a7 a8
structure BlkScopeC (X:Cx) (scope:Scope) (cx:Str) (own:List Str) (fr:List (Str × Nat)):Prop where
  kind:scope.kind= .function
  onec:∀ y∈scope.names,y.2= .cell->y.1=cx
  isc:scope.names.lookup cx=some .cell
  lay:∀ n cl,cellsFrom n scope.names cl=(cx,n)::cl
  push:∀ h:Heap,pushCells h scope.names=h.push { cls:= .type "cell",data:= .cell none }
  loc:∀ y∈scope.names,y.2= .local->scope.names.lookup y.1=some .local
  free:∀ y∈scope.names,y.2= .free->(X.env.scope.names.lookup y.1=some .cell\/X.env.scope.names.lookup y.1=some .free)
  fr:∀ p∈fr,X.N[p.2]?=some p.1/\(p.1,NameKind.free)∈scope.names
  only:∀ x,(x,NameKind.free)∈scope.names->scope.names.lookup x=some .free
section
variable {X:Cx} {pins:List (Addr × Obj)} {σ:St} {H:Hp} {s:Shared} {scope:Scope} {cx:Str} {own:List Str} {fr:List (Str × Nat)} {fp:List Addr}
end
section
variable {X:Cx}
end
section
variable {X:Cx} {scope:Scope} {cx:Str} {own:List Str} {fr:List (Str × Nat)}
end
section
variable {X:Cx} {K:PySem.W.Frag} {scope:Scope} {fr:List (Str × Nat)}
end
section
variable {X:Cx} {e o:Expr} {es:List Expr} {t:TA} {to:TE} {pos:Pos} {S:Addr->Sp->Prop}
end
section
variable {X:Cx} {K:PySem.W.Frag}
end
end L2
namespace HT
open PySem PySem.Spec PyProof.Rows
variable {prog:Program} {w:World} {A:Around} {E:Value->Shared->Prop} {s:Shared}
end HT
namespace L2
open PySem PySem.Spec PyProof.Rows
def f2 (o:Obj):Option Value:=match o.data with
  | .fields vs=>vs[2]?
  | _=>none
def KD (h h':Heap):Prop:=∀ (b:Nat) (o:Obj),h.objs[b]?=some o->∃ o',h'.objs[b]?=some o'/\o'.dict=o.dict/\f2 o'=f2 o
theorem KD.push (h:Heap) (o:Obj):KD h (h.push o):=λ b u e=>by
  refine ⟨u,?_,rfl,rfl⟩;show (h.objs.push o)[b]?=some u;have hb:b<h.objs.size:=(Array.getElem?_eq_some_iff.mp e).1;rw [Array.getElem?_push_lt hb];rw [Array.getElem?_eq_getElem hb] at e;exact e
section
variable {M:Model} {A:Around} {E:Value->Shared->Prop} {s:Shared}
end
section
variable {P:Program} {w:World} {K:PySem.W.Frag} {mg:Str->Option Value} {base:Heap} {N:List Str} {qual:Str} {scope:Scope} {f:Addr} {cd:Value} {A:Around} {outer:List Env} {s₀:Shared} {H₀:Hp} {E:XK}
end
section
variable {X:Cx} {pins:List (Addr × Obj)} {σ:St} {H:Hp} {s s₁:Shared} {E:XK} {e:Value}
end
section
variable {X:Cx} {pins pins0:List (Addr × Obj)} {σ:St} {H:Hp} {s:Shared} {xe:Value->Shared->Prop}
end
end L2
namespace L2
open PySem PySem.Spec PyProof.Rows PySem.W
end L2
namespace HT
open PySem PySem.Spec PyProof.Rows PySem.W PySem.Calls PySem.Builtin PySem.Builtin.ObjectAttr PySem.Builtin.Getset_descriptor
def ExcAt (a C:Addr) (h:Heap):Prop:=∃ o,h.get? a=some o/\o.cls= .ref C
structure ExcKind (K:Frag) (C:Addr):Prop where
  cl:(clsIn K C).isSome=true
  ga:findIn K (.ref C) "__getattribute__"=some (some (.builtin "BaseException.__getattribute__"))
  ng:findIn K (.ref C) "__getattr__"=some none
  hb:mroIn K C (.type "BaseException")=some true
  ha:findIn K (.ref C) "__class__"=some (some (.builtin "object.__class__"))
  hn:specialIn K (.builtin "object.__class__") "__get__"=some (some (.builtin "getset_descriptor.__get__"))
  htk:takesIn K (.builtin "object.__class__")=some true
  hm:mroIn K C (.type "object")=some true
theorem ExcAt.type {M:Model} {h:Heap} {a C:Addr} (x:ExcAt a C h):Looks M h (typeOf (.ref a)) (.ref C):=by
  obtain ⟨o,e,c⟩:=x;exact c▸(Looks.ld e).andThen .now
section
variable {prog:Program} {w:World} {A:Around} {E:Value->Shared->Prop} {s:Shared} {K:Frag} {a C:Addr}
end
end HT
namespace L2
open PySem PySem.Spec PyProof.Rows
end L2
namespace HT
open PySem PySem.Spec PyProof.Rows PySem.W
end HT
namespace L2
open PySem PySem.Spec PyProof.Rows
section
variable {X:Cx} {x:Str} {C:Addr} {k:Nat} {ps:List Str} {sp:Sp} {E:XK} {e:Expr} {es:List Expr} {t:TA} {p pos:Pos}
end
section
variable {P:Program} {w:World} {K:PySem.W.Frag} {mg:Str->Option Value} {base:Heap}
end
end L2
namespace HT
open PySem PySem.Spec PyProof.Rows PySem.SeqAt
open PySem.AutoSeq1 (wpAny_loadPart')
open PySem.MeetsSeq PySem.MeetsSeq2 PySem.MeetsSeq3
section
variable {A:Around} {s:Shared}
end
end HT
namespace L2
open PySem PySem.Spec PyProof.Rows
inductive DX where
  | d (d:Dt) | dic | tdic (rest:List Dt)
inductive Rx (H:Hp) (n:Nat):V->DX->Prop
  | d {v:V} {d:Dt} (r:Rp H FT n v d):Rx H n v (.d d)
  | dic {a:Addr} (h:H a=some (.dK [])):Rx H n (.ref a) .dic
  | tdic {t a:Addr} {ws:List V} {ds:List Dt} (ht:H t=some (.tup (.ref a::ws))) (h:H a=some (.dK [])) (l:ws.length=ds.length) (e:∀ (i:Nat) (v:V) (d:Dt),ws[i]?=some v->ds[i]?=some d->Rp H FT n v d):Rx H n (.ref t) (.tdic ds)
section
variable {X:Cx} {pins:List (Addr × Obj)} {σ:St} {H:Hp} {s:Shared}
end
end L2
namespace L2
open PySem PySem.Spec PyProof.Rows PySem.W
def exO (a:Addr) (o:Obj):HO:= .ext λ h=>h.get? a=some o
section
variable {P:Program} {w:World} {K:PySem.W.Frag} {mg:Str->Option Value} {base:Heap} {N:List Str} {qual:Str} {scope:Scope} {f:Addr} {cd:Value} {cl:List (Str × Addr)} {A:Around} {outer:List Env} {s:Shared} {H:Hp} {E:XK}
structure ClOkL (N:List Str) (scope:Scope) (cl:List (Str × Addr)) (h:Heap) (H:Hp) (vs:List V):Prop where
  len:vs.length=N.length
  inj:∀ x y c,cl.lookup x=some c->cl.lookup y=some c->x=y
  has:∀ x,(scope.names.lookup x=some .cell\/scope.names.lookup x=some .free)->∃ c,cl.lookup x=some c
  val:∀ (i:Nat) (x:Str) (v:V),N[i]?=some x->vs[i]?=some v->∃ c u,scope.names.lookup x=some .free/\cl.lookup x=some c/\RelV v u/\h.IsCell c (some u)
  cell:∀ x c,cl.lookup x=some c->(∃ v,h.IsCell c v)/\H c=none
end
def MV (qual:Str) (oc:Obj):Prop:=∃ vs t,oc.data= .fields vs/\vs[1]?=some (.str qual t)
structure LamX (X:Cx) (c P:Addr):Prop where
  code:X.env.code= .ref c
  hd:CodeHd X.base c P
  blt:X.base.BuiltinsAt X.mg P
section
variable {X:Cx} {pins:List (Addr × Obj)} {σ:St} {H:Hp} {s:Shared}
end
structure LamOk (params:Arguments) (scope:Scope):Prop where
  kind:scope.kind= .function
  co:scope.isCoroutine=false
  gen:scope.isGenerator=false
  cell:∀ x∈scope.names,x.2≠ .cell
  bind:∀ (qual:Str) (body:Expr) (cl:List (Str × Addr)) (pm cdv ctv:Value),bindArgs (kla_fn "<lambda>" qual params body scope cl pm cdv ctv) ⟨[],[]⟩=pure []
section
variable {P:Program} {w:World} {K:PySem.W.Frag} {mg:Str->Option Value} {base:Heap}
structure ThAt (s:Shared) (H:Hp) (outer:List Env) (f c':Addr) (oc:Obj) (N:List Str) (qual:Str) (scope:Scope) (cl:List (Str × Addr)) (params:Arguments) (body:Expr) (pm ctv:Value) (vs:List V):Prop where
  hf:s.heap.get? f=some (kla_obj "<lambda>" qual params body scope cl pm c' ctv)
  hf0:H f=none
  nf:f∉frs outer
  hc:H c'=some (exO c' oc)
  hoc:MV qual oc
  C:ClOkL N scope cl s.heap H vs
  nc:∀ x c,cl.lookup x=some c->c∉frs outer
  lo:LamOk params scope
end
end L2
namespace L2
open PySem PySem.Spec PyProof.Rows
section
variable {X:Cx} {K:PySem.W.Frag} {e lo st:Expr} {te tl ts:TE} {pos p2:Pos}
end
section
variable {J:It} {g:TG} {σ0:St} {H:Hp} {n:Nat} {st:Nat->St} {te:TE} {Q:VK} {D:Addr}
end
end L2
namespace L2
open PySem PySem.Spec PyProof.Rows PySem.W
section
variable {prog:Program} {w:World} {A:Around} {E:Value->Shared->Prop} {s:Shared}
end
section
variable {X:Cx} {pins:List (Addr × Obj)} {σ:St} {H:Hp} {s:Shared} {A:Around} {E:Value->Shared->Prop}
end
section
variable {X:Cx} {K:PySem.W.Frag}
end
end L2
namespace L2
open PySem PySem.Spec PyProof.Rows
section
variable {X:Cx} {e o:Expr} {es:List Expr} {t:TA} {to:TE} {pos:Pos} {S:Addr->Sp->Prop} {E:XK}
end
section
variable {X:Cx} {K:PySem.W.Frag} {tg l:Expr} {ta:TA} {p pos:Pos}
end
section
variable {K:PySem.W.Frag} {σ0:St} {H:Hp} {a:Addr} {xs:List V}
end
section
variable {X:Cx} {scope:Scope} {cx:Str}
end
structure FnA (K:PySem.W.Frag) (m q:Str) (st:Stmt) (ps:List Str) (f:Addr) (fd:FuncData):Prop where
  fn:Fun K m q st f fd
  bi:Binds K fd ps []
section
variable {K:PySem.W.Frag} {mg:Str->Option Value} {m q x:Str} {st:Stmt} {ps:List Str} {f:Addr} {fd:FuncData}
theorem def_mk (a:mg x=some (.ref f)) (F:Fun K x x st f fd) (b:∀ us:List Value,us.length=ps.length->bindArgs fd ⟨us,[]⟩=pure (ps.zip us)):DefAt K mg x st ps f fd:=⟨F,a, .all b⟩
theorem fnA_mk (F:Fun K m q st f fd) (b:∀ us:List Value,us.length=ps.length->bindArgs fd ⟨us,[]⟩=pure (ps.zip us)):FnA K m q st ps f fd:=⟨F, .all b⟩
theorem exc_mk {C:Addr} (a:PySem.W.isClsIn K C=true) (b:PySem.W.findIn K (.ref C) "__getattribute__"=some (some (.builtin "BaseException.__getattribute__"))) (c:PySem.W.findIn K (.ref C) "__getattr__"=some none) (d:PySem.W.mroIn K C (.type "BaseException")=some true) (e:PySem.W.findIn K (.ref C) "__class__"=some (some (.builtin "object.__class__")))
    (f:PySem.W.specialIn K (.builtin "object.__class__") "__get__"=some (some (.builtin "getset_descriptor.__get__"))) (g:PySem.W.takesIn K (.builtin "object.__class__")=some true) (h:PySem.W.mroIn K C (.type "object")=some true):HT.ExcKind K C:=⟨a,b,c,d,e,f,g,h⟩
theorem ci_mk {n:Int} {t:Tok} (h:mg x=some (.int n t)):∃ t,mg x=some (.int n t):=⟨t,h⟩
theorem cs_mk {z:Str} {t:Tok} (h:mg x=some (.str z t)):∃ t,mg x=some (.str z t):=⟨t,h⟩
theorem own_nil:Own mg []:=λ _ h=>by cases h
theorem own_cons {xs:List Str} (a:mg x=none) (h:Own mg xs):Own mg (x::xs):=λ y hy=>by
  rcases List.mem_cons.mp hy with rfl | hy
  · exact a
  · exact h y hy
end
def Nxt (N:St->Hp->Prop):St->Hp->Prop:=N
structure Cut (u:TS) (D:Ends) (N:St->Hp->Prop):Prop where
  go:∀ σ H,u D σ H->N σ H
theorem J9 {t u:TS} {D:Ends} {σ:St} {H:Hp} (h:∀ N,Cut u D N->t { D with nx:=Nxt N } σ H):Nl t u D σ H:=h (u D) ⟨λ _ _ x=>x⟩
theorem MF {u:TS} {D:Ends} {N:St->Hp->Prop} {σ:St} {H:Hp} (k:Cut u D N) (h:u D σ H):Nxt N σ H:=k.go _ _ h
end L2
open L2
local macro_rules | `(tactic| walk_at "t") => `(tactic| first | (with_reducible first | refine J9 λ _ _ => ?_ | refine MF (by assumption) ?_ | refine My ?_ | refine FY ?_ | refine OG ?_ | refine Np ?_ | refine LN ?_ | refine Me ?_ | refine L9 ?_ | refine LE ?_ | refine LZ ?_ | refine LK ?_ | refine Kw ?_ | refine M3 ?_ | refine MW ?_ | refine Nm ?_ | refine KH ?_ | refine KM ?_ | refine MZ ?_ | refine MP ?_ | refine K4 ?_ | refine LD ?_ | refine Kd ?_ | refine LO ?_ | refine L8 ?_ | refine Nn ?_ | refine KU ?_ | refine Na ?_ | refine Lf ?_ | refine Ie ?_ | refine Md ?_ | refine Jr ?_ | refine GF ?_ | refine FP ?_ | refine LX ?_ | refine Nv ?_ | refine Nd ?_ | refine GT ?_ | refine Lb ?_ | refine L6 ?_ | refine MX ?_ | refine Nz ?_ | refine Nh ?_ | refine Nx ?_ | refine NE ?_ | refine Ng ?_ | refine Ni ?_ | refine MT ?_ | refine MS ?_ | refine JB ?_ | refine Ki ?_ | refine IW ?_ | refine Mc ?_ | refine Mj ?_ | refine Lc ?_ | refine Kb ?_) | ((with_reducible apply MO); exact rfl) | (with_reducible refine Mp (by simp only [List.length_cons, List.length_nil]; decide) ?_))
local macro_rules | `(tactic| walk_at "s") => `(tactic| first | walk_at "t" | (with_reducible refine LW ?_))
local macro_rules | `(tactic| walk_at "v") => `(tactic| repeat walk_at "t")
local macro_rules | `(tactic| walk_at "w") => `(tactic| repeat walk_at "s")
local macro_rules | `(tactic| wrow_has $H $n) => do let t := ((n.getId.toString.drop 1).toString); let i := λ (a : String) => Lean.mkIdent (Lean.Name.mkSimple (a ++ t)); `(tactic| (generalize e : upd $H $(i "p") _ = $(i "H"); have $(i "s"):ident : Same $H $(i "H") := (by rw [<-e]; exact Aj $(i "n")); have $(i "g"):ident := (congrFun e $(i "p")).symm.trans Ag; clear e))
local macro_rules | `(tactic| row_lines $H $n) => do let t := ((n.getId.toString.drop 1).toString); let i := λ (a : String) => Lean.mkIdent (Lean.Name.mkSimple (a ++ t)); `(tactic| (intro $(i "p"):ident $(i "n"):ident; wrow_has $H $n))
local macro_rules | `(tactic| walk_at "x") => `(tactic| repeat first | walk_at "s" | (with_reducible refine AH (by decide) ?_))
namespace K14
open PySem L2 PySem.Spec PyProof.Rows
seal L2.PE L2.PT L2.PW L2.PA L2.PS L2.PSs L2.PI L2.PG L2.PTs L2.PGs
section
variable {P:Program} {w:World} {K:PySem.W.Frag} {mg:Str->Option Value} {base:Heap}
structure Cs where
  Cloth:Addr
  Draft:Addr
structure Txt (K:PySem.W.Frag) (mg:Str->Option Value) (c:Cs):Prop where
  own:Own mg ["isinstance","int","bool","str","list","tuple","len","all","range","sum","zip","enumerate","reversed"]
  g_Cloth:mg "Cloth"=some (.ref c.Cloth)
  kd_Cloth:Kind K c.Cloth
  is_Cloth:PySem.W.kitOne K (.ref c.Cloth) (.ref c.Cloth)=some true
  na_Cloth_width:NoAttr K c.Cloth "width"
  na_Cloth_rows:NoAttr K c.Cloth "rows"
  g_Draft:mg "Draft"=some (.ref c.Draft)
  kd_Draft:Kind K c.Draft
  is_Draft:PySem.W.kitOne K (.ref c.Draft) (.ref c.Draft)=some true
  na_Draft_shafts:NoAttr K c.Draft "shafts"
  na_Draft_treadles:NoAttr K c.Draft "treadles"
  na_Draft_threading:NoAttr K c.Draft "threading"
  na_Draft_ties:NoAttr K c.Draft "ties"
  na_Draft_treading:NoAttr K c.Draft "treading"
  na_Draft_warp:NoAttr K c.Draft "warp"
  na_Draft_weft:NoAttr K c.Draft "weft"
  k_MOST_SHAFTS:∃ t,mg "MOST_SHAFTS"=some (.int 16 t)
  k_MOST_TREADLES:∃ t,mg "MOST_TREADLES"=some (.int 16 t)
  k_MOST_ENDS:∃ t,mg "MOST_ENDS"=some (.int 60 t)
  k_MOST_PICKS:∃ t,mg "MOST_PICKS"=some (.int 60 t)
  k_COLOURS:∃ t,mg "COLOURS"=some (.str "abcdefghijklmnopqrstuvwxyz" t)
def Hy (K:PySem.W.Frag):Sp:=λ vs H Q _=>∃ (a:Addr) (ns:List Int),vs=[.ref a]/\SqL K H a (ns.map V.int)/\ns.length<=63/\∀ H',Q (.bl true) H'
end
section
variable {P:Program} {w:World} {K:PySem.W.Frag} {mg:Str->Option Value} {base:Heap} {c:Cs}
def Bm:Nat->Sp
  | 0=>λ _ _ _ _=>False
  | n+1=>λ vs H Q _=>∃ v u d,vs=[v,u]/\Rp H FT n v d/\Rp H FT n u d/\∀ H',Same H H'->Q (.bl true) H'
abbrev BB:Stmt:=top 46
theorem FO:FnScope ["_law_found","_law_due"] ["_law_found","_law_due"] (Ah BB):=⟨rfl,rfl,rfl,by decide +kernel,rfl,by decide +kernel,by decide +kernel⟩
theorem Fi {n:Nat} {f:Addr} {fd:FuncData} (F:Fun K "_law_same" "_law_same" BB f fd) (T:Txt K mg c) (c__law_same:An P w K mg base "_law_same" (n+1) ["_law_found","_law_due"] (Bm n)):FnOk P w K mg base CX0 (n+2) f fd ["_law_found","_law_due"] (Bm (n+1)):=by
  refine F.ok FO (λ vs H Q E h=> ?_) (λ cdv A outer s H vs Q E hr h=> ?_)
  · obtain ⟨v,u,d,rfl,_⟩:=h;rfl
  · obtain ⟨v,u,d,rfl,rv,ru,k⟩:=h;refine ⟨_,(Ad (BA (AV (Ai (K8 (K:=K)) rfl (T.own _ (by decide)) boot_isinstance (Aa (pv 1) (Aa (G4 (Aa (Bi rfl (T.own _ (by decide)) Ay) (Aa (Bi rfl (T.own _ (by decide)) Au) Ab))) Ab)))) (Ad (BA (PW.pt (Ln (BY Hw (Ai (A1 (K:=K)) rfl (T.own _ (by decide)) boot_isinstance (Aa (pv 0) (Aa (Bi rfl (T.own _ (by decide)) Ay) Ab))) (Ai (A1 (K:=K)) rfl (T.own _ (by decide)) boot_isinstance (Aa (pv 1) (Aa (Bi rfl (T.own _ (by decide)) Ay) Ab))) (Bh _)) (JC (BY Hw (Ai (A1 (K:=K)) rfl (T.own _ (by decide)) boot_isinstance (Aa (pv 0) (Aa (Bi rfl (T.own _ (by decide)) Au) Ab))) (Ai (A1 (K:=K)) rfl (T.own _ (by decide)) boot_isinstance (Aa (pv 1) (Aa (Bi rfl (T.own _ (by decide)) Au) Ab))) (Bh _))))) (Ae (Ak De)) AQ)
      (Ae (Ak (Cg (B3 En (Ai (Ca (K:=K)) rfl (T.own _ (by decide)) boot_len (Aa (pv 0) Ab)) (Ai (Ca (K:=K)) rfl (T.own _ (by decide)) boot_len (Aa (pv 1) Ab)) (Bh _)) (CS (Ai (Gh (K:=K)) rfl (T.own _ (by decide)) BI (Aa (BH (K:=K) (JY (K:=K) rfl (T.own _ (by decide)) (Aa (pv 0) (Aa (pv 1) Ab))) (λ _ _ _ _=>Al) (λ _ _ _ _=>(Ac c__law_same hr (Aa (pv 0) (Aa (pv 1) Ab))))) Ab))))))) AQ)
      (Ae (Ak (Cg (B3 En (Ai (A1 (K:=K)) rfl (T.own _ (by decide)) boot_isinstance (Aa (pv 0) (Aa (Bi rfl (T.own _ (by decide)) boot_bool) Ab))) (Ai (A1 (K:=K)) rfl (T.own _ (by decide)) boot_isinstance (Aa (pv 1) (Aa (Bi rfl (T.own _ (by decide)) boot_bool) Ab))) (Bh _)) (CS (B3 En (pv 0) (pv 1) (Bh _))))))),?_⟩
    walk_at "w";intro p hp;walk_at "w";have sp:=Aj (o:=HO.tup [V.ty "list",V.ty "tuple"]) hp;refine IT (ns:=["list","tuple"]) Ag (ru.same sp).ty (M7 d) ?_;have rv:=rv.same sp;have ru:=ru.same sp;generalize upd H p (HO.tup [V.ty "list",V.ty "tuple"])=H1 at rv ru sp ⊢;walk_at "w";refine Mf (λ hc=> ?_) (λ hc=> ?_)
    · walk_at "w";refine AL rv.ty (Eb d) ?_;walk_at "w";refine AL ru.ty (Eb d) ?_;walk_at "w";refine NF (λ q=>absurd rfl q) (λ _=> ?_);walk_at "w";refine AL rv.ty (C5 d) ?_;walk_at "w";refine AL ru.ty (C5 d) ?_;walk_at "w";refine NF (λ q=>absurd rfl q) (λ _=> ?_);walk_at "w";obtain ⟨m,a,xs,hm,rfl,sa,la,ba,ea⟩:=rv.seq (K:=K) hc;obtain ⟨m',b,zs,hm',rfl,sb,lb,bb,eb⟩:=ru.seq (K:=K) hc;subst hm;cases hm';refine HH sa ?_;walk_at "w";refine HH sb ?_;walk_at "w";refine Js (λ _=> ?_) (λ q=>absurd (by rw [la,lb]) q);walk_at "w";refine ⟨CJ d,CJ d,a,b,rfl,⟨_,sa⟩,⟨_,sb⟩,λ D hD=> ?_⟩;refine Ky (xs:=xs) (zs:=zs) (by omega) (λ i ys H'=>ys=(List.replicate i true).map V.bl/\Same H1 H'/\H' D=some (.lst ys)) ⟨rfl,Co (Same.refl _) hD,Ag⟩ (λ i ys H' _ ⟨_,s,_⟩=>⟨sa.same s,sb.same s⟩) ?_ ?_
      · rintro i x z ys H' q hx hz ⟨rfl,s1,hl⟩ hq;refine ⟨((Kp.refl _).set rfl).set rfl,Ms ?_⟩;walk_at "w";have hi:i<(AF d).length:=by
          have:=(List.getElem?_eq_some_iff.mp hx).1;omega
        have hd:(AF d)[i]?=some (AF d)[i]:=List.getElem?_eq_getElem hi;have s2:Same H1 (upd H' q (HO.tup [x,z])):=s1.trans (Aj hq);refine ⟨x,z,(AF d)[i],rfl,(ea i x _ hx hd).same s2,(eb i z _ hz hd).same s2,λ H'' s3=> ?_⟩;have hl':H'' D=some (.lst ((List.replicate i true).map V.bl)):=s3 _ _ (Aj hq _ _ hl);refine ⟨hl',?_,?_,?_,Ag⟩
        · rw [List.length_map,List.length_replicate];exact Nat.lt_of_lt_of_le hi (Nat.le_trans (by omega) (show 100000<=sizeLine by decide))
        · rw [List.replicate_succ',List.map_append];rfl
        · exact Co (s2.trans s3) hD
      · rintro ys H' ⟨rfl,s1,hl⟩;walk_at "w";refine Er (SqL.of hl) ?_;have e:(List.replicate xs.length true).all id=true:=by simp
        rw [e];exact k H' (sp.trans s1)
    · walk_at "w";refine AL rv.ty (Hx d) ?_;walk_at "w";refine AL ru.ty (Hx d) ?_;walk_at "w";refine Js (λ _=> ?_) (λ q=>absurd rfl q);walk_at "w";have e:=KL rv ru hc;subst e;refine ⟨IL rv hc,?_⟩;rw [decide_eq_true rfl];exact k H1 sp
theorem Dc {f:Addr} {fd:FuncData} (D:DefAt K mg "_law_same" BB ["_law_found","_law_due"] f fd) (T:Txt K mg c):∀ n,FnOk P w K mg base CX0 (n+1) f fd ["_law_found","_law_due"] (Bm n)
  | 0=>⟨λ _ _ _ _ h=>h.elim,λ _ _ _ _ _ _ _ _ _ _ _ _ _ h=>h.elim⟩
  | n+1=>Fi D.fn T (D.call (Dc D T n))
def Dx:Sp:=λ vs H Q _=>∃ n:Nat,vs=[.int n]/\1<=n/\n<=1000/\Q (.int ((2 ^ (n - 1):Nat):Int)) H
abbrev EB:Stmt:=top 2
theorem Im:FnScope ["number"] ["number"] (Ah EB):=⟨rfl,rfl,rfl,by decide +kernel,rfl,by decide +kernel,by decide +kernel⟩
theorem Ik {f:Addr} {fd:FuncData} (F:Fun K "bit_of" "bit_of" EB f fd) (T:Txt K mg c):FnOk P w K mg base CX0 1 f fd ["number"] Dx:=by
  refine F.ok Im (λ vs H Q E h=> ?_) (λ cdv A outer s H vs Q E hr h=> ?_)
  · obtain ⟨n,rfl,_⟩:=h;rfl
  · obtain ⟨n,rfl,h1,h2,q⟩:=h;refine ⟨_,(Ae (Ak (Am F6 Af (Am Eh (pv 0) Af)))),?_⟩;walk_at "w";refine AH ⟨by omega,by omega,by decide⟩ ?_;rw [show ((n:Int) - 1).toNat=n - 1 by omega,C3];exact q
def C1 (K:PySem.W.Frag):Sp:=λ vs H Q _=>∃ tp a,∃ ns:List Nat,vs=[.ref a]/\SqS tp K H a (ns.map nV)/\(∀ n∈ns,1<=n/\n<=1000)/\∀ H',Same H H'->Q (.int ((MM.mOf ns:Nat):Int)) H'
abbrev Du:Stmt:=top 3
theorem sc_mask_of:FnScope ["numbers","mask","number"] ["numbers"] (Ah Du):=⟨rfl,rfl,rfl,by decide +kernel,rfl,by decide +kernel,by decide +kernel⟩
theorem Hm {f:Addr} {fd:FuncData} (F:Fun K "mask_of" "mask_of" Du f fd) (T:Txt K mg c) (c_bit_of:An P w K mg base "bit_of" 1 ["number"] Dx):FnOk P w K mg base CX0 2 f fd ["numbers"] (C1 K):=by
  refine F.ok sc_mask_of (λ vs H Q E h=> ?_) (λ cdv A outer s H vs Q E hr h=> ?_)
  · obtain ⟨tp,a,ns,rfl,_⟩:=h;rfl
  · obtain ⟨tp,a,ns,rfl,sa,hn,q⟩:=h;refine ⟨_,(Ad (AE (i:=1) sc_mask_of.nd rfl (Or.inl rfl) Af)
      (Ad (DB PassesOwn.never rfl (JJ (K:=K) (pv 0)) (AN (i:=2) sc_mask_of.nd rfl (Or.inl rfl)) (Ae (JO (i:=1) sc_mask_of.nd rfl (Or.inl rfl) (Ac c_bit_of hr (Aa (pv 2) Ab)) Jx)))
      (Ae (Ak (pv 1))))),?_⟩
    walk_at "w";refine ⟨tp,a,rfl,⟨_,sa⟩,Cq (HQ sa) (λ i σ H3=>∃ x,σ=[some (.ref a),some (.int ((MM.mOf (ns.take i):Nat):Int)),x]/\Same H H3) ⟨_,rfl,Same.refl _⟩ (λ i σ H3 ⟨_,_,s⟩=>s) ?_ ?_⟩
    · rintro i σ H' H3 hi ⟨x,rfl,s'⟩ s3;have hi':i<ns.length:=by simpa using hi
      have hm:ns.getD i 0∈ns:=by rw [List.getD_eq_getElem?_getD,List.getElem?_eq_getElem hi'];exact List.getElem_mem hi'
      rw [AK hi];walk_at "w";refine JQ rfl ?_;walk_at "w";refine ⟨_,rfl,(hn _ hm).1,(hn _ hm).2,?_⟩;walk_at "w";rw [bO, <-MM.mOf_snoc, <-Fu hi'];exact ⟨_,rfl,s'.trans s3⟩
    · rintro σ H3 ⟨x,rfl,s3⟩;walk_at "w";rw [List.length_map,List.take_length];exact q H3 s3
def EE:Sp:=λ vs H Q _=>∃ n:Nat,vs=[.int n]/\n<=1000/\Q (.int ((2 ^ n - 1:Nat):Int)) H
abbrev Dw:Stmt:=top 4
theorem GP:FnScope ["most"] ["most"] (Ah Dw):=⟨rfl,rfl,rfl,by decide +kernel,rfl,by decide +kernel,by decide +kernel⟩
theorem GZ {f:Addr} {fd:FuncData} (F:Fun K "mask_to" "mask_to" Dw f fd) (T:Txt K mg c):FnOk P w K mg base CX0 1 f fd ["most"] EE:=by
  refine F.ok GP (λ vs H Q E h=> ?_) (λ cdv A outer s H vs Q E hr h=> ?_)
  · obtain ⟨n,rfl,_⟩:=h;rfl
  · obtain ⟨n,rfl,h1,q⟩:=h;refine ⟨_,(Ae (Ak (Am Eh (Am F6 Af (pv 0)) Af))),?_⟩;walk_at "w";refine AH ⟨by omega,by omega,by decide⟩ ?_;walk_at "w";have hp:0<2 ^ n:=Nat.two_pow_pos n;rw [show ((n:Int)).toNat=n by omega,C3,show ((2 ^ n:Nat):Int) - 1=((2 ^ n - 1:Nat):Int) by omega];exact q
def Be:Sp:=λ vs H Q _=>∃ m n:Nat,vs=[.int m, .int n]/\1<=n/\n<=1000/\Q (.bl (m.testBit (n - 1))) H
theorem K2 (m i:Nat):(!decide (((m &&& 2 ^ i:Nat):Int)=0))=m.testBit i:=by
  have e:(m &&& 2 ^ i)=(m.testBit i).toNat*2 ^ i:=by
    refine Nat.eq_of_testBit_eq λ j=> ?_;rw [Nat.testBit_and,Nat.testBit_two_pow];by_cases h:i=j
    · subst h;cases hb:m.testBit i <;> simp
    · cases hb:m.testBit i <;> simp [h,Nat.testBit_two_pow]
  rw [e];have hp:0<2 ^ i:=Nat.two_pow_pos i;cases m.testBit i with
  | false=>simp
  | true=>
    rw [decide_eq_false (by rw [Bool.toNat_true];omega)];rfl
abbrev BM:Stmt:=top 5
theorem EV:FnScope ["mask","number"] ["mask","number"] (Ah BM):=⟨rfl,rfl,rfl,by decide +kernel,rfl,by decide +kernel,by decide +kernel⟩
theorem E2 {f:Addr} {fd:FuncData} (F:Fun K "has_number" "has_number" BM f fd) (T:Txt K mg c) (c_bit_of:An P w K mg base "bit_of" 1 ["number"] Dx):FnOk P w K mg base CX0 2 f fd ["mask","number"] Be:=by
  refine F.ok EV (λ vs H Q E h=> ?_) (λ cdv A outer s H vs Q E hr h=> ?_)
  · obtain ⟨m,n,rfl,_⟩:=h;rfl
  · obtain ⟨m,n,rfl,h1,h2,q⟩:=h;refine ⟨_,(Ae (Ak (B3 Hw (Am Jd (pv 0) (Ac c_bit_of hr (Aa (pv 1) Ab))) Af (Bh _)))),?_⟩;walk_at "w";refine ⟨n,rfl,h1,h2,?_⟩;walk_at "w";rw [bA,K2];exact q
def Cy:Sp:=λ vs H Q _=>∃ m:Nat,vs=[.int m]/\m<2 ^ 900/\∀ H' p,Same H H'->H p=none->H' p=some (.lst ((MM.nOf m).map nV))->Q (.ref p) H'
abbrev BO:Stmt:=top 6
theorem E5:FnScope ["mask"] ["mask"] (Ah BO):=⟨rfl,rfl,rfl,by decide +kernel,rfl,by decide +kernel,by decide +kernel⟩
theorem EU {f:Addr} {fd:FuncData} (F:Fun K "numbers_of" "numbers_of" BO f fd) (T:Txt K mg c) (c_has_number:An P w K mg base "has_number" 2 ["mask","number"] Be):FnOk P w K mg base CX0 3 f fd ["mask"] Cy:=by
  refine F.ok E5 (λ vs H Q E h=> ?_) (λ cdv A outer s H vs Q E hr h=> ?_)
  · obtain ⟨m,rfl,_⟩:=h;rfl
  · obtain ⟨m,rfl,h1,q⟩:=h;have hb:=MM.bits_le h1;refine ⟨_,(Ae (Ak (Ar (Fl rfl (T.own _ (by decide)) (Aa Af (Aa (Am AZ (JK (K:=K) PySem.F.plainAttrs_int PySem.F.slot_int_bit_length PySem.F.type_int_bit_length EX (pv 0)) Af) Ab))) (λ _ _ _ _=>(F8 (AV (Ac c_has_number hr (Aa (pv 1) (Aa (pv 0) Ab)))))) (λ _ _ _ _=>(pv 0))))),?_⟩;walk_at "w";refine tyI ?_;refine K0 ?_;walk_at "w";refine ⟨_,_,rfl,⟨by decide,by decide,by omega,by omega⟩,λ D hD=> ?_⟩;rw [show ((MM.bits m:Nat)+1 - 1:Int).toNat=MM.bits m by omega];refine C2 (p:=m.testBit) (G:=λ i=>1+(i:Int)) (Dy rfl) hD (by omega) ?_ ?_ ?_
    · intro i H' R hi s k;walk_at "w";refine ⟨m,i+1,by rw [show (1:Int)+(i:Nat)=((i+1:Nat):Int) by omega],by omega,by omega,?_⟩;rw [show i+1 - 1=i by omega];exact ⟨_,rfl,k H' (Same.refl _)⟩
    · intro i H' R hi hp s k;walk_at "w";exact k H' (Same.refl _)
    · intro H' s hl;refine q H' D s hD ?_;rw [hl];unfold MM.nOf;rw [List.map_map,List.map_map];congr 2;refine List.map_congr_left λ i _=> ?_;show V.int (1+(i:Int))=V.int ((i+1:Nat):Int);congr 1;omega
def Cj (K:PySem.W.Frag):Sp:=λ vs H Q _=>∃ tp a,∃ ns:List Nat,vs=[.ref a]/\SqS tp K H a (ns.map nV)/\∀ H',Same H H'->Q (.int ((MM.uOf ns:Nat):Int)) H'
abbrev C0:Stmt:=top 7
theorem sc_union_of:FnScope ["masks","union","mask"] ["masks"] (Ah C0):=⟨rfl,rfl,rfl,by decide +kernel,rfl,by decide +kernel,by decide +kernel⟩
theorem Gg {f:Addr} {fd:FuncData} (F:Fun K "union_of" "union_of" C0 f fd) (T:Txt K mg c):FnOk P w K mg base CX0 1 f fd ["masks"] (Cj K):=by
  refine F.ok sc_union_of (λ vs H Q E h=> ?_) (λ cdv A outer s H vs Q E hr h=> ?_)
  · obtain ⟨tp,a,ns,rfl,_⟩:=h;rfl
  · obtain ⟨tp,a,ns,rfl,sa,q⟩:=h;refine ⟨_,(Ad (AE (i:=1) sc_union_of.nd rfl (Or.inl rfl) Af)
      (Ad (DB PassesOwn.never rfl (JJ (K:=K) (pv 0)) (AN (i:=2) sc_union_of.nd rfl (Or.inl rfl)) (Ae (JO (i:=1) sc_union_of.nd rfl (Or.inl rfl) (pv 2) Jx)))
      (Ae (Ak (pv 1))))),?_⟩
    walk_at "w";refine ⟨tp,a,rfl,⟨_,sa⟩,Cq (HQ sa) (λ i σ H3=>∃ x,σ=[some (.ref a),some (.int ((MM.uOf (ns.take i):Nat):Int)),x]/\Same H H3) ⟨_,rfl,Same.refl _⟩ (λ i σ H3 ⟨_,_,s⟩=>s) ?_ ?_⟩
    · rintro i σ H' H3 hi ⟨x,rfl,s'⟩ s3;have hi':i<ns.length:=by simpa using hi
      rw [AK hi];walk_at "w";refine JQ rfl ?_;walk_at "w";rw [bO, <-MM.uOf_snoc, <-Fu hi'];exact ⟨_,rfl,s'.trans s3⟩
    · rintro σ H3 ⟨x,rfl,s3⟩;walk_at "w";rw [List.length_map,List.take_length];exact q H3 s3
def DN (K:PySem.W.Frag):Sp:=λ vs H Q _=>∃ x,vs=[x]/\Ty K H x/\Q (.bl (Jj x)) H
abbrev CT:Stmt:=top 18
theorem Gx:FnScope ["thing"] ["thing"] (Ah CT):=⟨rfl,rfl,rfl,by decide +kernel,rfl,by decide +kernel,by decide +kernel⟩
theorem Gv {f:Addr} {fd:FuncData} (F:Fun K "is_whole" "is_whole" CT f fd) (T:Txt K mg c):FnOk P w K mg base CX0 1 f fd ["thing"] (DN K):=by
  refine F.ok Gx (λ vs H Q E h=> ?_) (λ cdv A outer s H vs Q E hr h=> ?_)
  · obtain ⟨x,rfl,_⟩:=h;rfl
  · obtain ⟨x,rfl,⟨n,ty⟩,k⟩:=h;refine ⟨_,(Ae (Ak (Cg (Ai (A1 (K:=K)) rfl (T.own _ (by decide)) boot_isinstance (Aa (pv 0) (Aa (Bi rfl (T.own _ (by decide)) boot_int) Ab))) (CS (Mn (Ai (A1 (K:=K)) rfl (T.own _ (by decide)) boot_isinstance (Aa (pv 0) (Aa (Bi rfl (T.own _ (by decide)) boot_bool) Ab)))))))),?_⟩;walk_at "w";refine AL ty (K3 ty) ?_;walk_at "w";refine GW (λ hc=> ?_) (λ hc=> ?_)
    · walk_at "w";refine AL ty (Jf ty) ?_;walk_at "w";exact CA (by cases x <;> first | rfl | exact absurd hc Bool.false_ne_true) k
    · exact CA (by cases x <;> first | rfl | exact absurd hc.symm Bool.false_ne_true) k
def Bf (K:PySem.W.Frag):Sp:=λ vs H Q _=>∃ x a b,vs=[x, .int a, .int b]/\Ty K H x/\Q (.bl (DI x a b)) H
abbrev CQ:Stmt:=top 19
theorem GN:FnScope ["thing","least","most"] ["thing","least","most"] (Ah CQ):=⟨rfl,rfl,rfl,by decide +kernel,rfl,by decide +kernel,by decide +kernel⟩
theorem GH {f:Addr} {fd:FuncData} (F:Fun K "is_among" "is_among" CQ f fd) (T:Txt K mg c) (c_is_whole:An P w K mg base "is_whole" 1 ["thing"] (DN K)):FnOk P w K mg base CX0 2 f fd ["thing","least","most"] (Bf K):=by
  refine F.ok GN (λ vs H Q E h=> ?_) (λ cdv A outer s H vs Q E hr h=> ?_)
  · obtain ⟨x,a,b,rfl,_⟩:=h;rfl
  · obtain ⟨x,a,b,rfl,ty,k⟩:=h;refine ⟨_,(Ae (Ak (Cg (Ac c_is_whole hr (Aa (pv 0) Ab)) (CS (Jy Lr Lr (pv 1) (pv 0) (pv 2)))))),?_⟩;walk_at "w";refine ⟨x,rfl,ty,?_⟩;walk_at "w";refine GW (λ hc=> ?_) (λ hc=> ?_)
    · cases x with
      | int i=>
        walk_at "w";refine GW (λ h1=> ?_) (λ h1=> ?_)
        · walk_at "w";exact CA (by show _=(decide (a<=i)&&decide (i<=b));rw [h1,Bool.true_and]) k
        · walk_at "w";exact CA (by show _=(decide (a<=i)&&decide (i<=b));rw [h1,Bool.false_and]) k
      | _=>exact absurd hc Bool.false_ne_true
    · exact CA (by cases x <;> first | rfl | exact absurd hc.symm Bool.false_ne_true) k
def Mg (C:Addr) (H:Hp) (x:Addr) (n:Nat) (rs:List Nat):Prop:=∃ dx t,H x=some (.ins C dx [("width",nV n),("rows", .ref t)])/\H t=some (.tup (rs.map nV))
structure ClOk (n:Nat) (rs:List Nat):Prop where
  n1:1<=n
  n2:n<=60
  p1:1<=rs.length
  p2:rs.length<=60
  lt:∀ r∈rs,r<2 ^ n
def CH:Sp:=λ vs H Q _=>∃ (n:Nat) (a:Addr) (rs:List Nat),vs=[.int n, .ref a]/\H a=some (.lst (rs.map nV))/\ClOk n rs/\∀ H',Same H H'->Q .non H'
abbrev B6:Stmt:=top 22
theorem E1:FnScope ["ends","rows"] ["ends","rows"] (Ah B6):=⟨rfl,rfl,rfl,by decide +kernel,rfl,by decide +kernel,by decide +kernel⟩
theorem Ff {f:Addr} {fd:FuncData} (F:Fun K "need_cloth" "need_cloth" B6 f fd) (T:Txt K mg c) (c_is_among:An P w K mg base "is_among" 2 ["thing","least","most"] (Bf K)) (c_mask_to:An P w K mg base "mask_to" 1 ["most"] EE):FnOk P w K mg base CX0 3 f fd ["ends","rows"] CH:=by
  refine F.ok E1 (λ vs H Q E h=> ?_) (λ cdv A outer s H vs Q E hr h=> ?_)
  · obtain ⟨n,a,rs,rfl,_⟩:=h;rfl
  · obtain ⟨n,a,rs,rfl,ha,ok,k⟩:=h;refine ⟨_,(Ad (BA (Ce (AV (Ac c_is_among hr (Aa (pv 0) (Aa Af (Aa (Fx T.k_MOST_ENDS) Ab)))))) (Ae Da) AQ)
      (Ad (BA (PW.pt (Ln (Ce (AV (Ai (A1 (K:=K)) rfl (T.own _ (by decide)) boot_isinstance (Aa (pv 1) (Aa (Bi rfl (T.own _ (by decide)) Ay) Ab))))) (JC (Ce (AV (Ac c_is_among hr (Aa (Ai (Ca (K:=K)) rfl (T.own _ (by decide)) boot_len (Aa (pv 1) Ab)) (Aa Af (Aa (Fx T.k_MOST_PICKS) Ab))))))))) (Ae Da) AQ)
      (Ae (BA (Ce (AV (Ai (Gh (K:=K)) rfl (T.own _ (by decide)) BI (Aa (Ar (Bk (K:=K) (pv 1)) (λ _ _ _ _=>Al) (λ _ _ _ _=>(Ac c_is_among hr (Aa (pv 0) (Aa Af (Aa (Ac c_mask_to (hr.mono (by decide)) (Aa (pv 1) Ab)) Ab)))))) Ab)))) (Ae Da) AQ)))),?_⟩
    walk_at "w";refine ⟨_,_,_,rfl,⟨_, .int _⟩,?_⟩;walk_at "w";have e1:DI (.int n) 1 60=true:=by
      have:=ok.n1;have:=ok.n2;show (decide ((1:Int)<=n)&&decide ((n:Int)<=60))=true;simp;omega
    rw [e1];refine GF ?_;walk_at "w";refine AL (.lst ha) (kb (b:=true) (by decide +kernel)) ?_;walk_at "w";refine Bo (SqL.of ha) ?_;walk_at "w";refine ⟨_,_,_,rfl,⟨_, .int _⟩,?_⟩;walk_at "w";have e2:DI (.int ((rs.map nV).length:Nat)) 1 60=true:=by
      have:=ok.p1;have:=ok.p2;rw [List.length_map];show (decide ((1:Int)<=(rs.length:Nat))&&decide (((rs.length:Nat):Int)<=60))=true;simp;omega
    rw [e2];refine GF ?_;walk_at "w";refine ⟨a,rfl,⟨_,SqL.of ha⟩,λ D hD=> ?_⟩;refine Dn (G:=λ _=>true) (AC (SqL.of ha) rfl) hD (by have:=ok.p2;rw [List.length_map];omega) ?_ ?_
    · intro i H' R hi s kk;have hi':i<rs.length:=by simpa using hi
      rw [AK hi];walk_at "w";refine ⟨n,rfl,by have:=ok.n2;omega,?_⟩;walk_at "w";refine ⟨_,_,_,rfl,⟨_, .int _⟩,?_⟩;have e3:DI (.int (rs.getD i 0:Nat)) 0 ((2 ^ n - 1:Nat):Int)=true:=by
        have hm:rs.getD i 0∈rs:=by rw [List.getD_eq_getElem?_getD,List.getElem?_eq_getElem hi'];exact List.getElem_mem hi'
        have:=ok.lt _ hm;have hp:0<2 ^ n:=Nat.two_pow_pos n;show (decide ((0:Int)<=(rs.getD i 0:Nat))&&decide (((rs.getD i 0:Nat):Int)<=((2 ^ n - 1:Nat):Int)))=true;simp only [Bool.and_eq_true,decide_eq_true_eq];omega
      rw [e3];exact kk H' (Same.refl _)
    · intro H' s hl;walk_at "w";refine Er (SqL.of hl) ?_;walk_at "w";have e4:((List.range (rs.map nV).length).map λ _=>true).all id=true:=by simp
      rw [e4];refine GF ?_;walk_at "w";exact k H' s
def A5 (c:Cs):Sp:=λ vs H Q _=>∃ (x dx:Addr) (n:Nat) (a:Addr) (rs:List Nat),vs=[.ref x, .int n, .ref a]/\H x=some (.ins c.Cloth dx [])/\H a=some (.lst (rs.map nV))/\ClOk n rs/\
  ∀ H',(∀ b o,H b=some o->b≠x->H' b=some o)->Mg c.Cloth H' x n rs->Q .non H'
abbrev Bb:Stmt:=AJ (top 23) 0
theorem Dq:FnScope ["self","ends","rows"] ["self","ends","rows"] (Ah Bb):=⟨rfl,rfl,rfl,by decide +kernel,rfl,by decide +kernel,by decide +kernel⟩
theorem C9 {f:Addr} {fd:FuncData} (F:Fun K "__init__" "Cloth.__init__" Bb f fd) (T:Txt K mg c) (c_need_cloth:An P w K mg base "need_cloth" 3 ["ends","rows"] CH):FnOk P w K mg base CX0 4 f fd ["self","ends","rows"] (A5 c):=by
  refine F.ok Dq (λ vs H Q E h=> ?_) (λ cdv A outer s H vs Q E hr h=> ?_)
  · obtain ⟨x,dx,n,a,rs,rfl,_⟩:=h;rfl
  · obtain ⟨x,dx,n,a,rs,rfl,hx,ha,ok,k⟩:=h;refine ⟨_,(Ad (AO (Ac c_need_cloth hr (Aa (pv 1) (Aa (pv 2) Ab))))
      (Ad (BS (pv 0) (pv 1) rfl)
      (Ae (BS (pv 0) (Aw (Bp (K:=K)) rfl (T.own _ (by decide)) Au (Aa (pv 2) Ab)) rfl)))),?_⟩
    walk_at "w";refine ⟨n,a,rs,rfl,ha,ok,λ H1 s1=> ?_⟩;walk_at "w";refine B1 (s1 _ _ hx) T.kd_Cloth.cl T.na_Cloth_width (by decide) ?_;walk_at "w";have nax:a≠x:=DQ ha hx (by intro z;cases z);refine A3 (SqL.of (by rw [Ao nax];exact s1 _ _ ha)) λ t ht=> ?_;walk_at "w";have nxt:x≠t:=Ap Ag ht;refine B1 (by rw [Ao nxt];exact Ag) T.kd_Cloth.cl T.na_Cloth_rows (by show 1<1000;decide) ?_;walk_at "w";refine k _ (λ b o e hb=> ?_) ⟨dx,t,Ag,by rw [Ao (Ne.symm nxt),Ag]⟩;have hbt:b≠t:=λ z=>by
      subst z;rw [Ao hb,s1 _ _ e] at ht;cases ht
    rw [Ao hb,Ao hbt,Ao hb];exact s1 _ _ e
theorem K7 {c:Cs} {H:Hp} {Q:VK} {n:Nat} {a:Addr} {rs:List Nat} (ha:H a=some (.lst (rs.map nV))) (ok:ClOk n rs) (h:∀ H' x,Same H H'->H x=none->Mg c.Cloth H' x n rs->Q (.ref x) H'):
    ∀ x dx,H x=none->H dx=none->dx≠x->A5 c [.ref x, .int n, .ref a] (upd (upd H dx (.own x)) x (.ins c.Cloth dx [])) (λ v H2=>v= .non/\Q (.ref x) H2) E0:=by
  intro x dx hx hdx ne;have s0:=GJ (o:=HO.ins c.Cloth dx []) (u:= .own x) hx hdx;exact ⟨x,dx,n,a,rs,rfl,Ag,s0 _ _ ha,ok,λ H' kp at'=>⟨rfl,h H' x (λ b o e=>kp b o (s0 b o e) (Ap e hx)) hx at'⟩⟩
abbrev colS:Str:="abcdefghijklmnopqrstuvwxyz"
def Ge (z:Str):Prop:=z.length=1/\(!(Builtin.Str.occurrences colS z 0 colS.length 1).isEmpty)=true
def Dm:Sp:=λ vs H Q _=>∃ z,vs=[.str z]/\Ge z/\Q (.bl true) H
abbrev Cm:Stmt:=top 20
theorem FR:FnScope ["thing"] ["thing"] (Ah Cm):=⟨rfl,rfl,rfl,by decide +kernel,rfl,by decide +kernel,by decide +kernel⟩
theorem F5 {f:Addr} {fd:FuncData} (F:Fun K "is_colour" "is_colour" Cm f fd) (T:Txt K mg c):FnOk P w K mg base CX0 1 f fd ["thing"] Dm:=by
  refine F.ok FR (λ vs H Q E h=> ?_) (λ cdv A outer s H vs Q E hr h=> ?_)
  · obtain ⟨z,rfl,_⟩:=h;rfl
  · obtain ⟨z,rfl,hz,k⟩:=h;refine ⟨_,(Ae (Ak (Cg (Ai (A1 (K:=K)) rfl (T.own _ (by decide)) boot_isinstance (Aa (pv 0) (Aa (Bi rfl (T.own _ (by decide)) boot_str) Ab))) (Cg (B3 En (Ai (Ca (K:=K)) rfl (T.own _ (by decide)) boot_len (Aa (pv 0) Ab)) Af (Bh _)) (CS (B3 ID (pv 0) (Nb T.k_COLOURS) (by with_unfolding_all rfl))))))),?_⟩;walk_at "w";refine AL (.str z) (kb (b:=true) (by decide +kernel)) ?_;walk_at "w";refine Kz (by rw [hz.1];decide) ?_;walk_at "w";refine Js (λ _=> ?_) (λ q=>absurd (by rw [hz.1];rfl) q);walk_at "w";refine ⟨_,_,rfl,rfl,?_⟩;rw [hz.2];exact k
def Ia:Sp:=λ vs H Q _=>∃ z,vs=[.bl true, .str z]/\Q .non H
abbrev G0:Stmt:=top 37
theorem KR:FnScope ["holds","words"] ["holds","words"] (Ah G0):=⟨rfl,rfl,rfl,by decide +kernel,rfl,by decide +kernel,by decide +kernel⟩
theorem Ko {f:Addr} {fd:FuncData} (F:Fun K "need" "need" G0 f fd) (T:Txt K mg c):FnOk P w K mg base CX0 1 f fd ["holds","words"] Ia:=by
  refine F.ok KR (λ vs H Q E h=> ?_) (λ cdv A outer s H vs Q E hr h=> ?_)
  · obtain ⟨z,rfl,_⟩:=h;rfl
  · obtain ⟨z,rfl,k⟩:=h;refine ⟨_,(Ae (BA (Ce (AV (pv 0))) (Ae Da) AQ)),?_⟩;walk_at "w";exact k
def CV:Sp:=λ vs H Q _=>∃ a xs,∃ lo hi:Int,vs=[.ref a, .int lo, .int hi]/\H a=some (.lst xs)/\lo<=xs.length/\xs.length<=hi/\Q (.bl true) H
abbrev Dz:Stmt:=top 38
theorem G5:FnScope ["thing","least","most"] ["thing","least","most"] (Ah Dz):=⟨rfl,rfl,rfl,by decide +kernel,rfl,by decide +kernel,by decide +kernel⟩
theorem G3 {f:Addr} {fd:FuncData} (F:Fun K "is_list" "is_list" Dz f fd) (T:Txt K mg c) (c_is_among:An P w K mg base "is_among" 2 ["thing","least","most"] (Bf K)):FnOk P w K mg base CX0 3 f fd ["thing","least","most"] CV:=by
  refine F.ok G5 (λ vs H Q E h=> ?_) (λ cdv A outer s H vs Q E hr h=> ?_)
  · obtain ⟨a,xs,lo,hi,rfl,_⟩:=h;rfl
  · obtain ⟨a,xs,lo,hi,rfl,ha,h1,h2,k⟩:=h;refine ⟨_,(Ae (Ak (Cg (Ai (A1 (K:=K)) rfl (T.own _ (by decide)) boot_isinstance (Aa (pv 0) (Aa (Bi rfl (T.own _ (by decide)) Ay) Ab))) (CS (Ac c_is_among hr (Aa (Ai (Ca (K:=K)) rfl (T.own _ (by decide)) boot_len (Aa (pv 0) Ab)) (Aa (pv 1) (Aa (pv 2) Ab)))))))),?_⟩;walk_at "w";refine AL (.lst ha) (kb (b:=true) (by decide +kernel)) ?_;walk_at "w";refine Bo (SqL.of ha) ?_;walk_at "w";refine ⟨_,_,_,rfl,⟨_, .int _⟩,?_⟩;refine CA ?_ k;show (decide (lo<=(xs.length:Nat))&&decide (((xs.length:Nat):Int)<=hi))=true;simp [h1,h2]
def Rise (m:Nat) (ns:List Nat):Prop:=∀ i,i<ns.length->(0::ns).getD i 0+1<=ns.getD i 0/\ns.getD i 0<=m
def Dh:Sp:=λ vs H Q _=>∃ a ns m,vs=[.ref a,nV m]/\H a=some (.lst (ns.map nV))/\Rise m ns/\∀ H',Same H H'->Q (.bl true) H'
abbrev Ck:Stmt:=top 39
theorem sc_is_rising:FnScope ["thing","most","last","number"] ["thing","most"] (Ah Ck):=⟨rfl,rfl,rfl,by decide +kernel,rfl,by decide +kernel,by decide +kernel⟩
theorem F7 {f:Addr} {fd:FuncData} (F:Fun K "is_rising" "is_rising" Ck f fd) (T:Txt K mg c) (c_is_among:An P w K mg base "is_among" 2 ["thing","least","most"] (Bf K)):FnOk P w K mg base CX0 3 f fd ["thing","most"] Dh:=by
  refine F.ok sc_is_rising (λ vs H Q E h=> ?_) (λ cdv A outer s H vs Q E hr h=> ?_)
  · obtain ⟨a,ns,m,rfl,_⟩:=h;rfl
  · obtain ⟨a,ns,m,rfl,ha,hr',k⟩:=h;refine ⟨_,(Ad (BA (Ce (AV (Ai (A1 (K:=K)) rfl (T.own _ (by decide)) boot_isinstance (Aa (pv 0) (Aa (Bi rfl (T.own _ (by decide)) Ay) Ab))))) (Ae (Ak De)) AQ)
      (Ad (AE (i:=2) sc_is_rising.nd rfl (Or.inl rfl) Af)
      (Ad (DB PassesOwn.never rfl (Bk (K:=K) (pv 0)) (AN (i:=3) sc_is_rising.nd rfl (Or.inl rfl)) (Ad (BA (Ce (AV (Ac c_is_among hr (Aa (pv 3) (Aa (Am AZ (pv 2) Af) (Aa (pv 1) Ab)))))) (Ae (Ak De)) AQ)
      (Ae (AE (i:=2) sc_is_rising.nd rfl (Or.inl rfl) (pv 3)))))
      (Ae (Ak De))))),?_⟩
    walk_at "w";refine AL (.lst ha) (kb (b:=true) (by decide +kernel)) ?_;walk_at "w";refine ⟨a,rfl,⟨_,SqL.of ha⟩,Cq (HL (SqL.of ha)) (λ i σ H3=>∃ x,σ=[some (.ref a),some (nV m),some (nV ((0::ns).getD i 0)),x]/\Same H H3) ⟨_,rfl,Same.refl _⟩ (λ i σ H3 ⟨_,_,s⟩=>s) ?_ ?_⟩
    · rintro i σ H' H3 hi ⟨x,rfl,s'⟩ s3;have hi':i<ns.length:=by simpa using hi
      have hq:=hr' i hi';rw [AK hi];walk_at "w";refine ⟨_,_,_,rfl,⟨_, .int _⟩,?_⟩;walk_at "w";have e:DI (.int (ns.getD i 0:Nat)) (((0::ns).getD i 0:Nat)+1) (m:Nat)=true:=by
        show (decide ((((0::ns).getD i 0:Nat):Int)+1<=(ns.getD i 0:Nat))&&decide (((ns.getD i 0:Nat):Int)<=(m:Nat)))=true;simp only [Bool.and_eq_true,decide_eq_true_eq];omega
      rw [e];refine GF ?_;walk_at "w";exact ⟨_,rfl,s'.trans s3⟩
    · rintro σ H3 ⟨x,rfl,s3⟩;walk_at "w";exact k H3 s3
def CL:Sp:=λ vs H Q _=>∃ v ls m,vs=[v,nV m]/\Rp H FT 2 v (dLL ls)/\(∀ l∈ls,Rise m l)/\∀ H',Same H H'->Q (.bl true) H'
abbrev BQ:Stmt:=top 40
theorem EZ:FnScope ["thing","most"] ["thing","most"] (Ah BQ):=⟨rfl,rfl,rfl,by decide +kernel,rfl,by decide +kernel,by decide +kernel⟩
theorem E7 {f:Addr} {fd:FuncData} (F:Fun K "are_rising" "are_rising" BQ f fd) (T:Txt K mg c) (c_is_rising:An P w K mg base "is_rising" 3 ["thing","most"] Dh):FnOk P w K mg base CX0 4 f fd ["thing","most"] CL:=by
  refine F.ok EZ (λ vs H Q E h=> ?_) (λ cdv A outer s H vs Q E hr h=> ?_)
  · obtain ⟨v,ls,m,rfl,_⟩:=h;rfl
  · obtain ⟨v,ls,m,rfl,rv,hr',k⟩:=h;obtain ⟨m',a,vs,em,rfl,ha,_,hl,hb,el⟩:=DG rv;cases em;rw [List.length_map] at hl;refine ⟨_,(Ae (Ak (Ai (Gh (K:=K)) rfl (T.own _ (by decide)) BI (Aa (Ar (Bk (K:=K) (pv 0)) (λ _ _ _ _=>Al) (λ _ _ _ _=>(Ac c_is_rising hr (Aa (pv 0) (Aa (pv 1) Ab))))) Ab)))),?_⟩;walk_at "w";refine ⟨a,rfl,⟨_,SqL.of ha⟩,λ D hD=> ?_⟩;refine Dn (G:=λ _=>true) (AC (SqL.of ha) rfl) hD hb ?_ ?_
    · intro i H' R hi s kk;have hi':i<ls.length:=by omega
      have r:=el i (by simpa using hi');rw [Az dL ls i .non [] hi'] at r;obtain ⟨b,eb,hb2,_,_⟩:=FE r;rw [eb];walk_at "w";exact ⟨b,_,m,rfl,s _ _ hb2,hr' _ (As hi'),kk⟩
    · intro H' s hl2;walk_at "w";refine Er (SqL.of hl2) ?_;refine CA ?_ (k H' s);simp
def Ci:Sp:=λ vs H Q _=>∃ (a:Addr) (zs:List Str),vs=[.ref a,nV zs.length]/\H a=some (.lst (zs.map V.str))/\zs.length<=1000/\(∀ z∈zs,Ge z)/\∀ H',Same H H'->Q (.bl true) H'
abbrev BE:Stmt:=top 41
theorem ER:FnScope ["thing","many"] ["thing","many"] (Ah BE):=⟨rfl,rfl,rfl,by decide +kernel,rfl,by decide +kernel,by decide +kernel⟩
theorem EG {f:Addr} {fd:FuncData} (F:Fun K "are_colours" "are_colours" BE f fd) (T:Txt K mg c) (c_is_list:An P w K mg base "is_list" 3 ["thing","least","most"] CV) (c_is_colour:An P w K mg base "is_colour" 1 ["thing"] Dm):FnOk P w K mg base CX0 4 f fd ["thing","many"] Ci:=by
  refine F.ok ER (λ vs H Q E h=> ?_) (λ cdv A outer s H vs Q E hr h=> ?_)
  · obtain ⟨a,zs,rfl,_⟩:=h;rfl
  · obtain ⟨a,zs,rfl,ha,hz,hc,k⟩:=h;refine ⟨_,(Ae (Ak (Cg (Ac c_is_list hr (Aa (pv 0) (Aa (pv 1) (Aa (pv 1) Ab)))) (CS (Ai (Gh (K:=K)) rfl (T.own _ (by decide)) BI (Aa (Ar (Bk (K:=K) (pv 0)) (λ _ _ _ _=>Al) (λ _ _ _ _=>(Ac c_is_colour (hr.mono (by decide)) (Aa (pv 0) Ab)))) Ab)))))),?_⟩;walk_at "w";refine ⟨a,_,_,_,rfl,ha,by simp,by simp,?_⟩;walk_at "w";refine ⟨a,rfl,⟨_,SqL.of ha⟩,λ D hD=> ?_⟩;refine Dn (G:=λ _=>true) (AC (SqL.of ha) rfl) hD (by rw [List.length_map];omega) ?_ ?_
    · intro i H' R hi s kk;have hi':i<zs.length:=by simpa using hi
      rw [Bv hi];walk_at "w";exact ⟨_,rfl,hc _ (As hi'),kk H' (Same.refl _)⟩
    · intro H' s hl2;walk_at "w";refine Er (SqL.of hl2) ?_;refine CA ?_ (k H' s);simp
structure Dr where
  sh:Nat
  tr:Nat
  th:List Nat
  ti:List (List Nat)
  td:List (List Nat)
  wa:List Str
  we:List Str
structure DrOk (d:Dr):Prop where
  s1:1<=d.sh
  s2:d.sh<=16
  t1:1<=d.tr
  t2:d.tr<=16
  h1:1<=d.th.length
  h2:d.th.length<=60
  hs:∀ n∈d.th,n<=d.sh
  il:d.ti.length=d.tr
  ir:∀ l∈d.ti,Rise d.sh l
  p1:1<=d.td.length
  p2:d.td.length<=60
  pr:∀ l∈d.td,Rise d.tr l
  wl:d.wa.length=d.th.length
  wc:∀ z∈d.wa,Ge z
  fl:d.we.length=d.td.length
  fc:∀ z∈d.we,Ge z
structure Parts (H:Hp) (d:Dr) (vs:List V):Prop where
  ex:∃ a1 v2 v3 a4 a5,vs=[nV d.sh,nV d.tr, .ref a1,v2,v3, .ref a4, .ref a5]/\H a1=some (.lst (d.th.map nV))/\Rp H FT 2 v2 (dLL d.ti)/\Rp H FT 2 v3 (dLL d.td)/\H a4=some (.lst (d.wa.map V.str))/\H a5=some (.lst (d.we.map V.str))
theorem Parts.same {H H':Hp} {d:Dr} {vs:List V} (p:Parts H d vs) (s:Same H H'):Parts H' d vs:=by
  obtain ⟨a1,v2,v3,a4,a5,e,h1,h2,h3,h4,h5⟩:=p.ex;exact ⟨a1,v2,v3,a4,a5,e,s _ _ h1,h2.same s,h3.same s,s _ _ h4,s _ _ h5⟩
theorem am {n:Nat} {lo hi:Int} (h1:lo<=n) (h2:(n:Int)<=hi):DI (nV n) lo hi=true:=by
  show (decide (lo<=(n:Nat))&&decide (((n:Nat):Int)<=hi))=true;simp [h1,h2]
def Cw:Sp:=λ vs H Q _=>∃ d,Parts H d vs/\DrOk d/\∀ H',Same H H'->Q .non H'
abbrev B2:Stmt:=top 42
theorem E6:FnScope ["shafts","treadles","threading","ties","treading","warp","weft"] ["shafts","treadles","threading","ties","treading","warp","weft"] (Ah B2):=⟨rfl,rfl,rfl,by decide +kernel,rfl,by decide +kernel,by decide +kernel⟩
theorem E3 {f:Addr} {fd:FuncData} (F:Fun K "need_draft" "need_draft" B2 f fd) (T:Txt K mg c) (c_need:An P w K mg base "need" 1 ["holds","words"] Ia) (c_is_among:An P w K mg base "is_among" 2 ["thing","least","most"] (Bf K)) (c_is_list:An P w K mg base "is_list" 3 ["thing","least","most"] CV) (c_are_rising:An P w K mg base "are_rising" 4 ["thing","most"] CL) (c_are_colours:An P w K mg base "are_colours" 4 ["thing","many"] Ci):FnOk P w K mg base CX0 5 f fd ["shafts","treadles","threading","ties","treading","warp","weft"] Cw:=by
  refine F.ok E6 (λ vs H Q E h=> ?_) (λ cdv A outer s H vs Q E hr h=> ?_)
  · obtain ⟨d,⟨a1,v2,v3,a4,a5,rfl,_⟩,_⟩:=h;rfl
  · obtain ⟨d,⟨a1,v2,v3,a4,a5,rfl,h1,h2,h3,h4,h5⟩,ok,k⟩:=h;obtain ⟨m2,a2,vs2,em2,rfl,ha2,_,hl2,hb2,el2⟩:=DG h2;obtain ⟨m3,a3,vs3,em3,rfl,ha3,_,hl3,hb3,el3⟩:=DG h3;rw [List.length_map] at hl2 hl3;refine ⟨_,(Ad (AO (Ac c_need (hr.mono (by decide)) (Aa (Ac c_is_among (hr.mono (by decide)) (Aa (pv 0) (Aa Af (Aa (Fx T.k_MOST_SHAFTS) Ab)))) (Aa AT Ab))))
      (Ad (AO (Ac c_need (hr.mono (by decide)) (Aa (Ac c_is_among (hr.mono (by decide)) (Aa (pv 1) (Aa Af (Aa (Fx T.k_MOST_TREADLES) Ab)))) (Aa AT Ab))))
      (Ad (AO (Ac c_need (hr.mono (by decide)) (Aa (Ac c_is_list (hr.mono (by decide)) (Aa (pv 2) (Aa Af (Aa (Fx T.k_MOST_ENDS) Ab)))) (Aa AT Ab))))
      (Ad (AO (Ac c_need (hr.mono (by decide)) (Aa (Ai (Gh (K:=K)) rfl (T.own _ (by decide)) BI (Aa (Ar (Bk (K:=K) (pv 2)) (λ _ _ _ _=>Al) (λ _ _ _ _=>(Ac c_is_among (hr.mono (by decide)) (Aa (pv 0) (Aa Af (Aa (pv 1) Ab)))))) Ab)) (Aa AT Ab))))
      (Ad (AO (Ac c_need (hr.mono (by decide)) (Aa (Ac c_is_list (hr.mono (by decide)) (Aa (pv 3) (Aa (pv 1) (Aa (pv 1) Ab)))) (Aa AT Ab))))
      (Ad (AO (Ac c_need (hr.mono (by decide)) (Aa (Ac c_are_rising hr (Aa (pv 3) (Aa (pv 0) Ab))) (Aa AT Ab))))
      (Ad (AO (Ac c_need (hr.mono (by decide)) (Aa (Ac c_is_list (hr.mono (by decide)) (Aa (pv 4) (Aa Af (Aa (Fx T.k_MOST_PICKS) Ab)))) (Aa AT Ab))))
      (Ad (AO (Ac c_need (hr.mono (by decide)) (Aa (Ac c_are_rising hr (Aa (pv 4) (Aa (pv 1) Ab))) (Aa AT Ab))))
      (Ad (AO (Ac c_need (hr.mono (by decide)) (Aa (Ac c_are_colours hr (Aa (pv 5) (Aa (Ai (Ca (K:=K)) rfl (T.own _ (by decide)) boot_len (Aa (pv 2) Ab)) Ab))) (Aa AT Ab))))
      (Ae (AO (Ac c_need (hr.mono (by decide)) (Aa (Ac c_are_colours hr (Aa (pv 6) (Aa (Ai (Ca (K:=K)) rfl (T.own _ (by decide)) boot_len (Aa (pv 4) Ab)) Ab))) (Aa AT Ab)))))))))))))),?_⟩
    walk_at "w";refine ⟨_,_,_,rfl,⟨_, .int _⟩,?_⟩;walk_at "w";rw [am (by have:=ok.s1;omega) (by have:=ok.s2;omega)];refine ⟨_,rfl,?_⟩;walk_at "w";refine ⟨_,_,_,rfl,⟨_, .int _⟩,?_⟩;walk_at "w";rw [am (by have:=ok.t1;omega) (by have:=ok.t2;omega)];refine ⟨_,rfl,?_⟩;walk_at "w";refine ⟨a1,_,_,_,rfl,h1,by have:=ok.h1;simp;omega,by have:=ok.h2;simp;omega,?_⟩;walk_at "w";refine ⟨_,rfl,?_⟩;walk_at "w";refine ⟨a1,rfl,⟨_,SqL.of h1⟩,λ D hD=> ?_⟩;refine Dn (G:=λ _=>true) (AC (SqL.of h1) rfl) hD (by have:=ok.h2;rw [List.length_map];omega) ?_ ?_
    · intro i H' R hi s kk;have hi':i<d.th.length:=by simpa using hi
      rw [AK hi];walk_at "w";refine ⟨_,_,_,rfl,⟨_, .int _⟩,?_⟩;have:=ok.hs _ (As (y:=0) hi');rw [am (by omega) (by omega)];exact kk H' (Same.refl _)
    intro H1 s1 hl1;walk_at "w";refine Er (SqL.of hl1) ?_;rw [show ((List.range (d.th.map nV).length).map λ _=>true).all id=true by simp];walk_at "w";refine ⟨_,rfl,?_⟩;walk_at "w";refine ⟨a2,_,_,_,rfl,s1 _ _ ha2,by have:=ok.il;omega,by have:=ok.il;omega,?_⟩;walk_at "w";refine ⟨_,rfl,?_⟩;walk_at "w";refine ⟨_,d.ti,d.sh,rfl,h2.same s1,ok.ir,λ H2 s2=> ?_⟩;walk_at "w";refine ⟨_,rfl,?_⟩;walk_at "w";have s12:=s1.trans s2;refine ⟨a3,_,_,_,rfl,s12 _ _ ha3,by have:=ok.p1;omega,by have:=ok.p2;omega,?_⟩;walk_at "w";refine ⟨_,rfl,?_⟩;walk_at "w";refine ⟨_,d.td,d.tr,rfl,h3.same s12,ok.pr,λ H3 s3=> ?_⟩;have s13:=s12.trans s3;walk_at "w";refine ⟨_,rfl,?_⟩;walk_at "w";refine Bo (SqL.of (s13 _ _ h1)) ?_;walk_at "w";refine ⟨a4,d.wa,by rw [List.length_map,ok.wl],s13 _ _ h4,by have:=ok.wl;have:=ok.h2;omega,ok.wc,λ H4 s4=> ?_⟩;have s14:=s13.trans s4;walk_at "w";refine ⟨_,rfl,?_⟩;walk_at "w";refine Bo (SqL.of (s14 _ _ ha3)) ?_;walk_at "w";refine ⟨a5,d.we,by rw [hl3,ok.fl],s14 _ _ h5,by have:=ok.fl;have:=ok.p2;omega,ok.fc,λ H5 s5=> ?_⟩;walk_at "w";refine ⟨_,rfl,?_⟩;walk_at "w";exact k _ (s14.trans s5)
def DrAt (C:Addr) (H:Hp) (x:Addr) (d:Dr):Prop:=∃ dx v1 v2 v3 v4 v5,H x=some (.ins C dx [("shafts",nV d.sh),("treadles",nV d.tr),("threading",v1),("ties",v2),("treading",v3),("warp",v4),("weft",v5)])/\
  Rp H FT 1 v1 (dT d.th)/\Rp H FT 2 v2 (dTT d.ti)/\Rp H FT 2 v3 (dTT d.td)/\Rp H FT 1 v4 (dST d.wa)/\Rp H FT 1 v5 (dST d.we)
theorem DrAt.same {C:Addr} {H H':Hp} {x:Addr} {d:Dr} (h:DrAt C H x d) (s:Same H H'):DrAt C H' x d:=by
  obtain ⟨dx,v1,v2,v3,v4,v5,h0,h1,h2,h3,h4,h5⟩:=h;exact ⟨dx,v1,v2,v3,v4,v5,s _ _ h0,h1.same s,h2.same s,h3.same s,h4.same s,h5.same s⟩
def A0 (c:Cs):Sp:=λ vs H Q _=>∃ (x dx:Addr) (ws:List V) (d:Dr),vs= .ref x::ws/\H x=some (.ins c.Draft dx [])/\Parts H d ws/\DrOk d/\∀ H',But x H H'->DrAt c.Draft H' x d->Q .non H'
abbrev Bc:Stmt:=AJ (top 43) 0
theorem Dd:FnScope ["self","shafts","treadles","threading","ties","treading","warp","weft"] ["self","shafts","treadles","threading","ties","treading","warp","weft"] (Ah Bc):=⟨rfl,rfl,rfl,by decide +kernel,rfl,by decide +kernel,by decide +kernel⟩
theorem C7 {f:Addr} {fd:FuncData} (F:Fun K "__init__" "Draft.__init__" Bc f fd) (T:Txt K mg c) (c_need_draft:An P w K mg base "need_draft" 5 ["shafts","treadles","threading","ties","treading","warp","weft"] Cw):FnOk P w K mg base CX0 6 f fd ["self","shafts","treadles","threading","ties","treading","warp","weft"] (A0 c):=by
  refine F.ok Dd (λ vs H Q E h=> ?_) (λ cdv A outer s H vs Q E hr h=> ?_)
  · obtain ⟨x,dx,ws,d,rfl,_,⟨a1,v2,v3,a4,a5,rfl,_⟩,_⟩:=h;rfl
  · obtain ⟨x,dx,ws,d,rfl,hx,ps,ok,k⟩:=h;have ps0:=ps;obtain ⟨a1,v2,v3,a4,a5,rfl,h1,h2,h3,h4,h5⟩:=ps;refine ⟨_,(Ad (AO (Ac c_need_draft hr (Aa (pv 1) (Aa (pv 2) (Aa (pv 3) (Aa (pv 4) (Aa (pv 5) (Aa (pv 6) (Aa (pv 7) Ab)))))))))
      (Ad (BS (pv 0) (pv 1) rfl)
      (Ad (BS (pv 0) (pv 2) rfl)
      (Ad (BS (pv 0) (Aw (Bp (K:=K)) rfl (T.own _ (by decide)) Au (Aa (pv 3) Ab)) rfl)
      (Ad (BS (pv 0) (Aw (Bp (K:=K)) rfl (T.own _ (by decide)) Au (Aa (Ar (Bk (K:=K) (pv 4)) (λ _ _ _ _=>Al) (λ _ _ _ _=>(Aw (Bp (K:=K)) rfl (T.own _ (by decide)) Au (Aa (pv 0) Ab)))) Ab)) rfl)
      (Ad (BS (pv 0) (Aw (Bp (K:=K)) rfl (T.own _ (by decide)) Au (Aa (Ar (Bk (K:=K) (pv 5)) (λ _ _ _ _=>Al) (λ _ _ _ _=>(Aw (Bp (K:=K)) rfl (T.own _ (by decide)) Au (Aa (pv 0) Ab)))) Ab)) rfl)
      (Ad (BS (pv 0) (Aw (Bp (K:=K)) rfl (T.own _ (by decide)) Au (Aa (pv 6) Ab)) rfl)
      (Ae (BS (pv 0) (Aw (Bp (K:=K)) rfl (T.own _ (by decide)) Au (Aa (pv 7) Ab)) rfl))))))))),?_⟩
    walk_at "w";refine ⟨d,ps0,ok,λ H1 s1=> ?_⟩;walk_at "w";have B:But x H H1:=But.of s1;have hx1:=s1 _ _ hx;refine B1 hx1 T.kd_Draft.cl T.na_Draft_shafts (by decide) ?_;replace B:=B.put (o:=HO.ins c.Draft dx (AB "shafts" (nV d.sh) []));have hx2:upd H1 x (HO.ins c.Draft dx (AB "shafts" (nV d.sh) [])) x=_:=Ag;generalize upd H1 x (HO.ins c.Draft dx (AB "shafts" (nV d.sh) []))=H2 at B hx2 ⊢;walk_at "w";refine B1 hx2 T.kd_Draft.cl T.na_Draft_treadles (by show 1<1000;decide) ?_;replace B:=B.put (o:=HO.ins c.Draft dx (AB "treadles" (nV d.tr) (AB "shafts" (nV d.sh) [])));have hx3:upd H2 x (HO.ins c.Draft dx (AB "treadles" (nV d.tr) (AB "shafts" (nV d.sh) []))) x=_:=Ag;generalize upd H2 x (HO.ins c.Draft dx (AB "treadles" (nV d.tr) (AB "shafts" (nV d.sh) [])))=H3 at B hx3 ⊢;walk_at "w";refine A3 (SqL.of (B _ _ h1 (DQ h1 hx (by intro z;cases z)))) λ t1 ht1=> ?_;walk_at "w";have hx3':=Aj (o:=HO.tup (d.th.map nV)) ht1 _ _ hx3;have r1:Rp (upd H3 t1 (HO.tup (d.th.map nV))) FT 1 (.ref t1) (dT d.th):=Ma Ag (by have:=ok.h2;omega);replace B:=B.same (Aj (o:=HO.tup (d.th.map nV)) ht1);generalize upd H3 t1 (HO.tup (d.th.map nV))=H4 at B hx3' r1 ⊢;refine B1 hx3' T.kd_Draft.cl T.na_Draft_threading (by show 2<1000;decide) ?_;replace r1:=r1.ins (o:=HO.ins c.Draft dx (AB "threading" (.ref t1) (AB "treadles" (nV d.tr) (AB "shafts" (nV d.sh) [])))) hx3';replace B:=B.put (o:=HO.ins c.Draft dx (AB "threading" (.ref t1) (AB "treadles" (nV d.tr) (AB "shafts" (nV d.sh) []))));have hx5:upd H4 x (HO.ins c.Draft dx (AB "threading" (.ref t1) (AB "treadles" (nV d.tr) (AB "shafts" (nV d.sh) [])))) x=_:=Ag;generalize upd H4 x (HO.ins c.Draft dx (AB "threading" (.ref t1) (AB "treadles" (nV d.tr) (AB "shafts" (nV d.sh) []))))=H5 at B hx5 r1 ⊢;walk_at "w";obtain ⟨m2,a2,vs2,em2,rfl,ha2,_,hl2,hb2,el2⟩:=DG (B.rp hx h2);cases em2;rw [List.length_map] at hl2;refine ⟨a2,rfl,⟨_,SqL.of ha2⟩,λ D hD=> ?_⟩;refine AA (m:=1) (G:=λ i=>dT (d.ti.getD i [])) (AC (SqL.of ha2) rfl) hD hb2 ?_ ?_
    · intro i H' R hi s kk;have hi':i<d.ti.length:=by omega
      have r:=el2 i (by simpa using hi');rw [Az dL d.ti i .non [] hi'] at r;obtain ⟨b,eb,hb3,_,hb4⟩:=FE r;rw [eb];walk_at "w";exact A3 (SqL.of (s _ _ hb3)) λ q hq=>kk _ _ (Aj hq) (Ma Ag hb4)
    intro H6 ys s6 hl6 r2;rw [hl2,LB] at r2;walk_at "w";refine A3 (SqL.of hl6) λ t2 ht2=> ?_;walk_at "w";replace r2:Rp (upd H6 t2 (HO.tup ys)) FT 2 (.ref t2) (dTT d.ti):=(r2.tupd hl6 ht2).any;have s62:=s6.trans (Aj (o:=HO.tup ys) ht2);replace B:=B.same s62;replace r1:=r1.same s62;have hx6:=s62 _ _ hx5;generalize upd H6 t2 (HO.tup ys)=H7 at B hx6 r1 r2 ⊢;refine B1 hx6 T.kd_Draft.cl T.na_Draft_ties (by show 3<1000;decide) ?_;generalize ef:AB "ties" (V.ref t2) _=f7;replace r1:=r1.ins (o:=HO.ins c.Draft dx f7) hx6;replace r2:=r2.ins (o:=HO.ins c.Draft dx f7) hx6;replace B:=B.put (o:=HO.ins c.Draft dx f7);have hx8:upd H7 x (HO.ins c.Draft dx f7) x=_:=Ag;generalize upd H7 x (HO.ins c.Draft dx f7)=H8 at B hx8 r1 r2 ⊢;subst ef;walk_at "w";obtain ⟨m3,a3,vs3,em3,rfl,ha3,_,hl3,hb3,el3⟩:=DG (B.rp hx h3);cases em3;rw [List.length_map] at hl3;refine ⟨a3,rfl,⟨_,SqL.of ha3⟩,λ D hD=> ?_⟩;refine AA (m:=1) (G:=λ i=>dT (d.td.getD i [])) (AC (SqL.of ha3) rfl) hD hb3 ?_ ?_
    · intro i H' R hi s kk;have hi':i<d.td.length:=by omega
      have r:=el3 i (by simpa using hi');rw [Az dL d.td i .non [] hi'] at r;obtain ⟨b,eb,hb3,_,hb4⟩:=FE r;rw [eb];walk_at "w";exact A3 (SqL.of (s _ _ hb3)) λ q hq=>kk _ _ (Aj hq) (Ma Ag hb4)
    intro H9 ys9 s9 hl9 r3;rw [hl3,LB] at r3;walk_at "w";refine A3 (SqL.of hl9) λ t3 ht3=> ?_;walk_at "w";replace r3:Rp (upd H9 t3 (HO.tup ys9)) FT 2 (.ref t3) (dTT d.td):=(r3.tupd hl9 ht3).any;have s93:=s9.trans (Aj (o:=HO.tup ys9) ht3);replace B:=B.same s93;replace r1:=r1.same s93;replace r2:=r2.same s93;have hx9:=s93 _ _ hx8;generalize upd H9 t3 (HO.tup ys9)=HA at B hx9 r1 r2 r3 ⊢;refine B1 hx9 T.kd_Draft.cl T.na_Draft_treading (by show 4<1000;decide) ?_;generalize ef:AB "treading" (V.ref t3) _=f9;replace r1:=r1.ins (o:=HO.ins c.Draft dx f9) hx9;replace r2:=r2.ins (o:=HO.ins c.Draft dx f9) hx9;replace r3:=r3.ins (o:=HO.ins c.Draft dx f9) hx9;replace B:=B.put (o:=HO.ins c.Draft dx f9);have hxB:upd HA x (HO.ins c.Draft dx f9) x=_:=Ag;generalize upd HA x (HO.ins c.Draft dx f9)=HB at B hxB r1 r2 r3 ⊢;subst ef;walk_at "w";refine A3 (SqL.of (B _ _ h4 (DQ h4 hx (by intro z;cases z)))) λ t4 ht4=> ?_;walk_at "w";have r4:Rp (upd HB t4 (HO.tup (d.wa.map V.str))) FT 1 (.ref t4) (dST d.wa):=Ll Ag (by have:=ok.h2;have:=ok.wl;omega);have sB:=Aj (o:=HO.tup (d.wa.map V.str)) ht4;replace B:=B.same sB;replace r1:=r1.same sB;replace r2:=r2.same sB;replace r3:=r3.same sB;replace hxB:=sB _ _ hxB;generalize upd HB t4 (HO.tup (d.wa.map V.str))=HC at B hxB r1 r2 r3 r4 ⊢;refine B1 hxB T.kd_Draft.cl T.na_Draft_warp (by show 5<1000;decide) ?_;generalize ef:AB "warp" (V.ref t4) _=fC;replace r1:=r1.ins (o:=HO.ins c.Draft dx fC) hxB;replace r2:=r2.ins (o:=HO.ins c.Draft dx fC) hxB;replace r3:=r3.ins (o:=HO.ins c.Draft dx fC) hxB;replace r4:=r4.ins (o:=HO.ins c.Draft dx fC) hxB;replace B:=B.put (o:=HO.ins c.Draft dx fC);have hxD:upd HC x (HO.ins c.Draft dx fC) x=_:=Ag;generalize upd HC x (HO.ins c.Draft dx fC)=HD at B hxD r1 r2 r3 r4 ⊢;subst ef;walk_at "w";refine A3 (SqL.of (B _ _ h5 (DQ h5 hx (by intro z;cases z)))) λ t5 ht5=> ?_;walk_at "w";have r5:Rp (upd HD t5 (HO.tup (d.we.map V.str))) FT 1 (.ref t5) (dST d.we):=Ll Ag (by have:=ok.p2;have:=ok.fl;omega);have sD:=Aj (o:=HO.tup (d.we.map V.str)) ht5;replace B:=B.same sD;replace r1:=r1.same sD;replace r2:=r2.same sD;replace r3:=r3.same sD;replace r4:=r4.same sD;replace hxD:=sD _ _ hxD;generalize upd HD t5 (HO.tup (d.we.map V.str))=HE at B hxD r1 r2 r3 r4 r5 ⊢;refine B1 hxD T.kd_Draft.cl T.na_Draft_weft (by show 6<1000;decide) ?_;generalize ef:AB "weft" (V.ref t5) _=fE;replace r1:=r1.ins (o:=HO.ins c.Draft dx fE) hxD;replace r2:=r2.ins (o:=HO.ins c.Draft dx fE) hxD;replace r3:=r3.ins (o:=HO.ins c.Draft dx fE) hxD;replace r4:=r4.ins (o:=HO.ins c.Draft dx fE) hxD;replace r5:=r5.ins (o:=HO.ins c.Draft dx fE) hxD;replace B:=B.put (o:=HO.ins c.Draft dx fE);have hxF:upd HD x (HO.ins c.Draft dx fE) x=_:=Ag;walk_at "w";subst ef;exact k _ B ⟨dx,_,_,_,_,_,Ag,r1,r2,r3,r4,r5⟩
theorem Kx {c:Cs} {H:Hp} {Q:VK} {d:Dr} {ws:List V} (ps:Parts H d ws) (ok:DrOk d) (h:∀ H' x,Same H H'->H x=none->DrAt c.Draft H' x d->Q (.ref x) H'):
    ∀ x dx,H x=none->H dx=none->dx≠x->A0 c (.ref x::ws) (upd (upd H dx (.own x)) x (.ins c.Draft dx [])) (λ v H2=>v= .non/\Q (.ref x) H2) E0:=by
  intro x dx hx hdx ne;have s0:=GJ (o:=HO.ins c.Draft dx []) (u:= .own x) hx hdx;exact ⟨x,dx,ws,d,rfl,Ag,ps.same s0,ok,λ H' B at'=>⟨rfl,h H' x (λ b o e=>B b o (s0 b o e) (Ap e hx)) hx at'⟩⟩
def dDr (d:Dr):Dt:= .tup [dN d.sh,dN d.tr,dL d.th,dLL d.ti,dLL d.td,dS d.wa,dS d.we]
def CB (c:Cs):Sp:=λ vs H Q _=>∃ x d,vs=[.ref x]/\DrAt c.Draft H x d/\∀ H' p,Same H H'->H p=none->Rp H' (FN H) 3 (.ref p) (dDr d)->Q (.ref p) H'
abbrev BP:Stmt:=AJ (top 43) 1
theorem Fk:FnScope ["self"] ["self"] (Ah BP):=⟨rfl,rfl,rfl,by decide +kernel,rfl,by decide +kernel,by decide +kernel⟩
theorem Fj {f:Addr} {fd:FuncData} (F:Fun K "told" "Draft.told" BP f fd) (T:Txt K mg c):FnOk P w K mg base CX0 1 f fd ["self"] (CB c):=by
  refine F.ok Fk (λ vs H Q E h=> ?_) (λ cdv A outer s H vs Q E hr h=> ?_)
  · obtain ⟨x,d,rfl,_⟩:=h;rfl
  · obtain ⟨x,d,rfl,⟨dx,v1,v2,v3,v4,v5,h0,h1,h2,h3,h4,h5⟩,k⟩:=h;obtain ⟨a1,rfl,e1,b1⟩:=EQ h1;obtain ⟨m2,a2,vs2,em2,rfl,e2,l2,b2,el2⟩:=F3 h2;cases em2;obtain ⟨m3,a3,vs3,em3,rfl,e3,l3,b3,el3⟩:=F3 h3;cases em3;obtain ⟨a4,rfl,e4,b4⟩:=Dv h4;obtain ⟨a5,rfl,e5,b5⟩:=Dv h5;rw [List.length_map] at l2 l3;refine ⟨_,(Ae (Ak (G4 (Aa (Ba (K:=K) (pv 0) rfl) (Aa (Ba (K:=K) (pv 0) rfl) (Aa (Aw (Ez (K:=K)) rfl (T.own _ (by decide)) Ay (Aa (Ba (K:=K) (pv 0) rfl) Ab)) (Aa (Ar (GK (K:=K) (Ba (K:=K) (pv 0) rfl)) (λ _ _ _ _=>Al) (λ _ _ _ _=>(Aw (Ez (K:=K)) rfl (T.own _ (by decide)) Ay (Aa (pv 0) Ab)))) (Aa (Ar (GK (K:=K) (Ba (K:=K) (pv 0) rfl)) (λ _ _ _ _=>Al) (λ _ _ _ _=>(Aw (Ez (K:=K)) rfl (T.own _ (by decide)) Ay (Aa (pv 0) Ab)))) (Aa (Aw (Ez (K:=K)) rfl (T.own _ (by decide)) Ay (Aa (Ba (K:=K) (pv 0) rfl) Ab)) (Aa (Aw (Ez (K:=K)) rfl (T.own _ (by decide)) Ay (Aa (Ba (K:=K) (pv 0) rfl) Ab)) Ab)))))))))),?_⟩;walk_at "w";refine ⟨_,_,_,_,_,rfl,h0,T.kd_Draft.cl,T.na_Draft_shafts,rfl,?_⟩;walk_at "w";refine ⟨_,_,_,_,_,rfl,h0,T.kd_Draft.cl,T.na_Draft_treadles,rfl,?_⟩;walk_at "w";refine ⟨_,_,_,_,_,rfl,h0,T.kd_Draft.cl,T.na_Draft_threading,rfl,?_⟩;walk_at "w";refine Bx (SqT.of e1) λ p1 hp1=> ?_;walk_at "w";have s1:=Aj (o:=HO.lst (d.th.map nV)) hp1;have r1:Rp (upd H p1 (HO.lst (d.th.map nV))) (FN H) 2 (.ref p1) (dL d.th):=Iy Ag hp1 b1;generalize upd H p1 (HO.lst (d.th.map nV))=H1 at s1 r1 ⊢;refine ⟨_,_,_,_,_,rfl,s1 _ _ h0,T.kd_Draft.cl,T.na_Draft_ties,rfl,?_⟩;walk_at "w";refine ⟨a2,rfl,⟨_,SqT.of (s1 _ _ e2)⟩,λ D2 hD2=> ?_⟩;refine AA (m:=1) (G:=λ i=>dL (d.ti.getD i [])) (C8 (SqT.of (s1 _ _ e2)) rfl) hD2 b2 ?_ ?_
    · intro i H' R hi s kk;have hi':i<d.ti.length:=by omega
      have r:=el2 i (by simpa using hi');rw [Az dT d.ti i .non [] hi'] at r;obtain ⟨b,eb,hb3,hb4⟩:=EQ r;rw [eb];walk_at "w";exact Bx (SqT.of (s _ _ (s1 _ _ hb3))) λ q hq=>kk _ _ (Aj hq) (Iy Ag hq hb4)
    intro H2 ys2 s2 hl2 r2;rw [l2,Lm] at r2;replace r2:Rp H2 (FN H) 2 (.ref D2) (dLL d.ti):=r2.imp λ a ha=>s1.free ha;have s02:=s1.trans s2;walk_at "w";refine ⟨_,_,_,_,_,rfl,s02 _ _ h0,T.kd_Draft.cl,T.na_Draft_treading,rfl,?_⟩;walk_at "w";refine ⟨a3,rfl,⟨_,SqT.of (s02 _ _ e3)⟩,λ D3 hD3=> ?_⟩;refine AA (m:=1) (G:=λ i=>dL (d.td.getD i [])) (C8 (SqT.of (s02 _ _ e3)) rfl) hD3 b3 ?_ ?_
    · intro i H' R hi s kk;have hi':i<d.td.length:=by omega
      have r:=el3 i (by simpa using hi');rw [Az dT d.td i .non [] hi'] at r;obtain ⟨b,eb,hb3,hb4⟩:=EQ r;rw [eb];walk_at "w";exact Bx (SqT.of (s _ _ (s02 _ _ hb3))) λ q hq=>kk _ _ (Aj hq) (Iy Ag hq hb4)
    intro H3 ys3 s3 hl3 r3;rw [l3,Lm] at r3;replace r3:Rp H3 (FN H) 2 (.ref D3) (dLL d.td):=r3.imp λ a ha=>s02.free ha;have s03:=s02.trans s3;walk_at "w";refine ⟨_,_,_,_,_,rfl,s03 _ _ h0,T.kd_Draft.cl,T.na_Draft_warp,rfl,?_⟩;walk_at "w";refine Bx (SqT.of (s03 _ _ e4)) λ p4 hp4=> ?_;walk_at "w";have s4:=Aj (o:=HO.lst (d.wa.map V.str)) hp4;have r4:Rp (upd H3 p4 (HO.lst (d.wa.map V.str))) (FN H) 2 (.ref p4) (dS d.wa):=IJ Ag (s03.free hp4) b4;generalize upd H3 p4 (HO.lst (d.wa.map V.str))=H4 at s4 r4 ⊢;have s04:=s03.trans s4;refine ⟨_,_,_,_,_,rfl,s04 _ _ h0,T.kd_Draft.cl,T.na_Draft_weft,rfl,?_⟩;walk_at "w";refine Bx (SqT.of (s04 _ _ e5)) λ p5 hp5=> ?_;walk_at "w";have s5:=Aj (o:=HO.lst (d.we.map V.str)) hp5;have r5:Rp (upd H4 p5 (HO.lst (d.we.map V.str))) (FN H) 2 (.ref p5) (dS d.we):=IJ Ag (s04.free hp5) b5;generalize upd H4 p5 (HO.lst (d.we.map V.str))=H5 at s5 r5 ⊢;have s05:=s04.trans s5;intro p hp;have s6:=Aj (o:=HO.tup [nV d.sh,nV d.tr, .ref p1, .ref D2, .ref D3, .ref p4, .ref p5]) hp;refine k _ p (s05.trans s6) (s05.free hp) (Hv Ag (.int _) (.int _) ?_ ?_ ?_ ?_ ?_)
    · exact (r1.same (s2.trans (s3.trans (s4.trans s5)))).same s6
    · exact (r2.same (s3.trans (s4.trans s5))).same s6
    · exact (r3.same (s4.trans s5)).same s6
    · exact (r4.same s5).same s6
    · exact r5.same s6
def CG (c:Cs):Sp:=λ vs H Q _=>∃ x d,vs=[.ref x]/\DrAt c.Draft H x d/\Q (nV d.th.length) H
abbrev BV:Stmt:=AJ (top 43) 2
theorem Fc:FnScope ["self"] ["self"] (Ah BV):=⟨rfl,rfl,rfl,by decide +kernel,rfl,by decide +kernel,by decide +kernel⟩
theorem E8 {f:Addr} {fd:FuncData} (F:Fun K "ends" "Draft.ends" BV f fd) (T:Txt K mg c):FnOk P w K mg base CX0 1 f fd ["self"] (CG c):=by
  refine F.ok Fc (λ vs H Q E h=> ?_) (λ cdv A outer s H vs Q E hr h=> ?_)
  · obtain ⟨x,d,rfl,_⟩:=h;rfl
  · obtain ⟨x,d,rfl,⟨dx,v1,v2,v3,v4,v5,h0,h1,h2,h3,h4,h5⟩,k⟩:=h;obtain ⟨a1,rfl,e1,b1⟩:=EQ h1;refine ⟨_,(Ae (Ak (Ai (Ca (K:=K)) rfl (T.own _ (by decide)) boot_len (Aa (Ba (K:=K) (pv 0) rfl) Ab)))),?_⟩;walk_at "w";refine ⟨_,_,_,_,_,rfl,h0,T.kd_Draft.cl,T.na_Draft_threading,rfl,?_⟩;walk_at "w";refine HR (SqT.of e1) ?_;rw [List.length_map];exact k
def EC (K:PySem.W.Frag):Sp:=λ vs H Q _=>∃ (a b:Addr) (tp:Bool) (ts ks:List Nat),vs=[.ref a, .ref b]/\SqL K H a (ts.map nV)/\SqS tp K H b (ks.map nV)/\ks.length<=1000/\(∀ k∈ks,1<=k/\k<=ts.length)/\∀ H',Same H H'->Q (nV (MM.uOf (ks.map λ k=>ts.getD (k - 1) 0))) H'
theorem DF {n:Nat} (G:Nat->Nat):((List.range n).map λ i=>((G i:Nat):Int)).map V.int=((List.range n).map G).map nV:=by rw [List.map_map,List.map_map];rfl
abbrev DH:Stmt:=top 25
theorem Hh:FnScope ["ties","treadles"] ["ties","treadles"] (Ah DH):=⟨rfl,rfl,rfl,by decide +kernel,rfl,by decide +kernel,by decide +kernel⟩
theorem G2 {f:Addr} {fd:FuncData} (F:Fun K "lift_by" "lift_by" DH f fd) (T:Txt K mg c) (c_union_of:An P w K mg base "union_of" 1 ["masks"] (Cj K)):FnOk P w K mg base CX0 2 f fd ["ties","treadles"] (EC K):=by
  refine F.ok Hh (λ vs H Q E h=> ?_) (λ cdv A outer s H vs Q E hr h=> ?_)
  · obtain ⟨a,b,tp,ts,ks,rfl,_⟩:=h;rfl
  · obtain ⟨a,b,tp,ts,ks,rfl,sa,sb,hl,hk,k⟩:=h;refine ⟨_,(Ae (Ak (Ac c_union_of hr (Aa (Ar (JJ (K:=K) (pv 1)) (λ _ _ _ _=>Al) (λ _ _ _ _=>(AY (Cz (K:=K)) (pv 1) (Am Eh (pv 0) Af) (λ _ _=>rfl)))) Ab)))),?_⟩;walk_at "w";refine ⟨tp,b,rfl,⟨_,sb⟩,λ D hD=> ?_⟩;refine AW (G:=λ i=>((ts.getD (ks.getD i 0 - 1) 0:Nat):Int)) (MB sb rfl) hD (by rw [List.length_map];omega) ?_ ?_
    · intro i H' R hi s kk;have hi':i<ks.length:=by simpa using hi
      have hm:=hk _ (As (y:=0) hi');rw [AK hi];walk_at "w";refine BD (SqS.same (tp:=false) sa s) (EA (by omega) (by omega)) ?_;rw [show (((ks.getD i 0:Nat):Int) - 1).toNat=ks.getD i 0 - 1 by omega];exact kk H' (Same.refl _)
    · intro H' s hl2;rw [DF,List.length_map] at hl2;walk_at "w";refine ⟨false,D,_,rfl,SqL.of hl2,λ H2 s2=> ?_⟩;rw [BG (λ k=>ts.getD (k - 1) 0) ks 0];exact k H2 (s.trans s2)
def B8 (ti:List (List Nat)) (ks:List Nat):Nat:=MM.uOf (ks.map λ k=>(ti.map MM.mOf).getD (k - 1) 0)
theorem Rise.le {m:Nat} {ns:List Nat} (h:Rise m ns):∀ n∈ns,1<=n/\n<=m:=λ n hn=>by
  obtain ⟨i,hi,rfl⟩:=List.getElem_of_mem hn;have:=h i hi;rw [show ns.getD i 0=ns[i] by simp [List.getD_eq_getElem?_getD,hi]] at this;omega
theorem Rise.len {m:Nat}:∀ {ns:List Nat},Rise m ns->ns.length<=m:=by
  intro ns h;have:∀ i,i<ns.length->i+1<=ns.getD i 0:=by
    intro i
    induction i with
    | zero=>intro hi;have:=h 0 hi;omega
    | succ i ih=>
      intro hi;have h1:=ih (by omega);have h2:=h (i+1) hi;have e:(0::ns).getD (i+1) 0=ns.getD i 0:=rfl;omega
  rcases Nat.eq_zero_or_pos ns.length with z | z
  · omega
  · have h1:=this (ns.length - 1) (by omega);have h2:=h (ns.length - 1) (by omega);omega
def DR (c:Cs):Sp:=λ vs H Q _=>∃ x d,vs=[.ref x]/\DrAt c.Draft H x d/\DrOk d/\∀ H' p,Same H H'->H p=none->H' p=some (.lst ((d.td.map (B8 d.ti)).map nV))->Q (.ref p) H'
abbrev CY:Stmt:=top 26
theorem sc_lifts_of:FnScope ["draft","ties"] ["draft"] (Ah CY):=⟨rfl,rfl,rfl,by decide +kernel,rfl,by decide +kernel,by decide +kernel⟩
theorem Gm {f:Addr} {fd:FuncData} (F:Fun K "lifts_of" "lifts_of" CY f fd) (T:Txt K mg c) (c_mask_of:An P w K mg base "mask_of" 2 ["numbers"] (C1 K)) (c_lift_by:An P w K mg base "lift_by" 2 ["ties","treadles"] (EC K)):FnOk P w K mg base CX0 3 f fd ["draft"] (DR c):=by
  refine F.ok sc_lifts_of (λ vs H Q E h=> ?_) (λ cdv A outer s H vs Q E hr h=> ?_)
  · obtain ⟨x,d,rfl,_⟩:=h;rfl
  · obtain ⟨x,d,rfl,⟨dx,v1,v2,v3,v4,v5,h0,h1,h2,h3,h4,h5⟩,ok,k⟩:=h;obtain ⟨m2,a2,vs2,em2,rfl,e2,l2,b2,el2⟩:=F3 h2;cases em2;obtain ⟨m3,a3,vs3,em3,rfl,e3,l3,b3,el3⟩:=F3 h3;cases em3;rw [List.length_map] at l2 l3;refine ⟨_,(Ad (AE (i:=1) sc_lifts_of.nd rfl (Or.inr rfl) (Ar (GK (K:=K) (Ba (K:=K) (pv 0) rfl)) (λ _ _ _ _=>Al) (λ _ _ _ _=>(Ac c_mask_of hr (Aa (pv 0) Ab)))))
      (Ae (Ak (Ar (GK (K:=K) (Ba (K:=K) (pv 0) rfl)) (λ _ _ _ _=>Al) (λ _ _ _ _=>(Ac c_lift_by hr (Aa (pv 1) (Aa (pv 0) Ab)))))))),?_⟩
    walk_at "w";refine ⟨_,_,_,_,_,rfl,h0,T.kd_Draft.cl,T.na_Draft_ties,rfl,?_⟩;walk_at "w";refine ⟨a2,rfl,⟨_,SqT.of e2⟩,λ D2 hD2=> ?_⟩;refine AW (G:=λ i=>((MM.mOf (d.ti.getD i []):Nat):Int)) (C8 (SqT.of e2) rfl) hD2 b2 ?_ ?_
    · intro i H' R hi s kk;have hi':i<d.ti.length:=by omega
      have r:=el2 i (by simpa using hi');rw [Az dT d.ti i .non [] hi'] at r;obtain ⟨b,eb,hb3,hb4⟩:=EQ r;rw [eb];walk_at "w";have hm:=(ok.ir _ (As (y:=[]) hi')).le;exact ⟨true,b,_,rfl,SqT.of (s _ _ hb3),λ n hn=>⟨(hm n hn).1,by have:=hm n hn;have:=ok.s2;omega⟩,λ H3 s3=>kk H3 s3⟩
    intro H1 s1 hl1;rw [DF,l2,BG MM.mOf d.ti []] at hl1;walk_at "w";refine ⟨_,_,_,_,_,rfl,s1 _ _ h0,T.kd_Draft.cl,T.na_Draft_treading,rfl,?_⟩;walk_at "w";refine ⟨a3,rfl,⟨_,SqT.of (s1 _ _ e3)⟩,λ D3 hD3=> ?_⟩;refine AW (G:=λ i=>((B8 d.ti (d.td.getD i []):Nat):Int)) (C8 (SqT.of (s1 _ _ e3)) rfl) hD3 b3 ?_ ?_
    · intro i H' R hi s kk;have hi':i<d.td.length:=by omega
      have r:=el3 i (by simpa using hi');rw [Az dT d.td i .non [] hi'] at r;obtain ⟨b,eb,hb3,hb4⟩:=EQ r;rw [eb];walk_at "w";have hR:=ok.pr _ (As (y:=[]) hi');have hm:=hR.le;have hln:=hR.len;exact ⟨D2,b,true,_,_,rfl,SqL.of (s _ _ hl1),SqT.of (s _ _ (s1 _ _ hb3)),by have:=ok.t2;omega,λ n hn=>⟨(hm n hn).1,by have:=hm n hn;have:=ok.il;rw [List.length_map];omega⟩,λ H3 s3=>kk H3 s3⟩
    intro H2 s2 hl2;rw [DF,l3,BG (B8 d.ti) d.td []] at hl2;walk_at "w";exact k H2 D3 (s1.trans s2) (s1.free hD3) hl2
def Ct (th:List Nat) (s:Nat):Nat:=MM.ofB (λ e=>decide (th.getD e 0=s)) th.length
theorem MG (f:Nat->Bool) (w:Nat):MM.mOf (((List.range w).filter f).map (· + 1))=MM.ofB f w:=by
  refine Nat.eq_of_testBit_eq λ i=> ?_;rw [MM.mOf_bit,MM.ofB_bit,Bool.eq_iff_iff,List.any_eq_true];constructor
  · rintro ⟨n,hn,e⟩;obtain ⟨k,hk,rfl⟩:=List.mem_map.mp hn;obtain ⟨h1,h2⟩:=List.mem_filter.mp hk;have e:k+1 - 1=i:=of_decide_eq_true e;have e:k=i:=by omega
    subst e;simp [List.mem_range.mp h1,h2]
  · intro h;simp only [Bool.and_eq_true,decide_eq_true_eq] at h;exact ⟨i+1,List.mem_map.mpr ⟨i,List.mem_filter.mpr ⟨List.mem_range.mpr h.1,h.2⟩,rfl⟩,by simp⟩
def B9 (K:PySem.W.Frag):Sp:=λ vs H Q _=>∃ (a:Addr) (tp:Bool) (th:List Nat) (s:Nat),vs=[.ref a,nV s]/\SqS tp K H a (th.map nV)/\th.length<=900/\∀ H',Same H H'->Q (nV (Ct th s)) H'
abbrev Bw:Stmt:=top 27
theorem DU:FnScope ["threading","shaft"] ["threading","shaft"] (Ah Bw):=⟨rfl,rfl,rfl,by decide +kernel,rfl,by decide +kernel,by decide +kernel⟩
theorem DZ {f:Addr} {fd:FuncData} (F:Fun K "ends_through" "ends_through" Bw f fd) (T:Txt K mg c) (c_mask_of:An P w K mg base "mask_of" 2 ["numbers"] (C1 K)):FnOk P w K mg base CX0 3 f fd ["threading","shaft"] (B9 K):=by
  refine F.ok DU (λ vs H Q E h=> ?_) (λ cdv A outer s H vs Q E hr h=> ?_)
  · obtain ⟨a,tp,th,s,rfl,_⟩:=h;rfl
  · obtain ⟨a,tp,th,s,rfl,sa,hl,k⟩:=h;refine ⟨_,(Ae (Ak (Ac c_mask_of hr (Aa (BH (K:=K) (EN (K:=K) rfl (T.own _ (by decide)) (Aa (pv 0) Ab)) (λ _ _ _ _=>(F8 (BY En (pv 1) (pv 2) (Bh _)))) (λ _ _ _ _=>(pv 0))) Ab)))),?_⟩;walk_at "w";refine ⟨tp,a,rfl,⟨_,sa⟩,λ D hD=> ?_⟩;refine C2 (p:=λ i=>decide (th.getD i 0=s)) (G:=λ i=>((i+1:Nat):Int)) (DD sa rfl rfl) hD (by rw [List.length_map];omega) ?_ ?_ ?_
    · intro i H' R hi s2 kk;rw [AK hi];walk_at "w";rw [show decide (((th.getD i 0:Nat):Int)=(s:Nat))=decide (th.getD i 0=s) by rw [Bool.eq_iff_iff];simp only [decide_eq_true_eq];omega];exact kk H' (Same.refl _)
    · intro i H' R hi hp s2 kk;walk_at "w";exact kk H' (Same.refl _)
    · intro H' s2 hl2;walk_at "w";have e:(((List.range (th.map nV).length).filter λ i=>decide (th.getD i 0=s)).map λ i=>((i+1:Nat):Int)).map V.int=(((List.range th.length).filter λ i=>decide (th.getD i 0=s)).map (· + 1)).map nV:=by
        rw [List.length_map,List.map_map,List.map_map];rfl
      rw [e] at hl2;refine ⟨false,D,_,rfl,SqL.of hl2,λ n hn=> ?_,λ H3 s3=> ?_⟩
      · obtain ⟨j,hj,rfl⟩:=List.mem_map.mp hn;have:=List.mem_range.mp (List.mem_filter.mp hj).1;omega
      · rw [MG];exact k H3 (s2.trans s3)
def CM (K:PySem.W.Frag):Sp:=λ vs H Q _=>∃ (a:Addr) (tp:Bool) (th:List Nat) (s:Nat),vs=[.ref a,nV s]/\SqS tp K H a (th.map nV)/\th.length<=900/\s<=900/\∀ H' p,Same H H'->H p=none->H' p=some (.lst (((List.range s).map λ i=>Ct th (i+1)).map nV))->Q (.ref p) H'
abbrev BL:Stmt:=top 28
theorem Fg:FnScope ["threading","shafts"] ["threading","shafts"] (Ah BL):=⟨rfl,rfl,rfl,by decide +kernel,rfl,by decide +kernel,by decide +kernel⟩
theorem Fd {f:Addr} {fd:FuncData} (F:Fun K "shaft_ends" "shaft_ends" BL f fd) (T:Txt K mg c) (c_ends_through:An P w K mg base "ends_through" 3 ["threading","shaft"] (B9 K)):FnOk P w K mg base CX0 4 f fd ["threading","shafts"] (CM K):=by
  refine F.ok Fg (λ vs H Q E h=> ?_) (λ cdv A outer s H vs Q E hr h=> ?_)
  · obtain ⟨a,tp,th,s,rfl,_⟩:=h;rfl
  · obtain ⟨a,tp,th,s,rfl,sa,hl,hs,k⟩:=h;refine ⟨_,(Ae (Ak (Ar (Fl rfl (T.own _ (by decide)) (Aa Af (Aa (Am AZ (pv 1) Af) Ab))) (λ _ _ _ _=>Al) (λ _ _ _ _=>(Ac c_ends_through hr (Aa (pv 1) (Aa (pv 0) Ab))))))),?_⟩;walk_at "w";refine ⟨_,_,rfl,⟨by decide,by decide,by omega,by omega⟩,λ D hD=> ?_⟩;rw [show ((s:Int)+1 - 1).toNat=s by omega];refine AW (G:=λ i=>((Ct th (i+1):Nat):Int)) (Dy rfl) hD (by omega) ?_ ?_
    · intro i H' R hi s2 kk;walk_at "w";refine ⟨a,tp,th,i+1,by rw [show (1:Int)+(i:Nat)=((i+1:Nat):Int) by omega],sa.same s2,hl,kk⟩
    · intro H' s2 hl2;rw [DF] at hl2;exact k H' D s2 hD hl2
def FL (cs:List Nat) (l:Nat):Nat:=MM.uOf ((MM.nOf l).map λ s=>cs.getD (s - 1) 0)
def Fm (K:PySem.W.Frag):Sp:=λ vs H Q _=>∃ (a:Addr) (cs:List Nat) (l:Nat),vs=[.ref a,nV l]/\SqL K H a (cs.map nV)/\l<2 ^ cs.length/\cs.length<=900/\∀ H',Same H H'->Q (nV (FL cs l)) H'
abbrev Eo:Stmt:=top 29
theorem IC:FnScope ["carried","lift"] ["carried","lift"] (Ah Eo):=⟨rfl,rfl,rfl,by decide +kernel,rfl,by decide +kernel,by decide +kernel⟩
theorem IE {f:Addr} {fd:FuncData} (F:Fun K "row_by" "row_by" Eo f fd) (T:Txt K mg c) (c_numbers_of:An P w K mg base "numbers_of" 3 ["mask"] Cy) (c_union_of:An P w K mg base "union_of" 1 ["masks"] (Cj K)):FnOk P w K mg base CX0 4 f fd ["carried","lift"] (Fm K):=by
  refine F.ok IC (λ vs H Q E h=> ?_) (λ cdv A outer s H vs Q E hr h=> ?_)
  · obtain ⟨a,cs,l,rfl,_⟩:=h;rfl
  · obtain ⟨a,cs,l,rfl,sa,hl,hc,k⟩:=h;refine ⟨_,(Ae (Ak (Ac c_union_of (hr.mono (by decide)) (Aa (Ar (Bk (K:=K) (Ac c_numbers_of hr (Aa (pv 1) Ab))) (λ _ _ _ _=>Al) (λ _ _ _ _=>(AY (Cz (K:=K)) (pv 1) (Am Eh (pv 0) Af) (λ _ _=>rfl)))) Ab)))),?_⟩;walk_at "w";refine ⟨l,rfl,Nat.lt_of_lt_of_le hl (Nat.pow_le_pow_right (Nat.zero_lt_two) hc),λ H1 p s1 hp h1=> ?_⟩;walk_at "w";refine ⟨p,rfl,⟨_,SqL.of h1⟩,λ D hD=> ?_⟩;have hn:=MM.nOf_len hl;refine AW (G:=λ i=>((cs.getD ((MM.nOf l).getD i 0 - 1) 0:Nat):Int)) (AC (SqL.of h1) rfl) hD (by rw [List.length_map];omega) ?_ ?_
    · intro i H' R hi s kk;have hi':i<(MM.nOf l).length:=by simpa using hi
      obtain ⟨m1,m2⟩:=(MM.nOf_mem l _).mp (As (y:=0) hi');have m3:(MM.nOf l).getD i 0 - 1<cs.length:=by
        rcases Nat.lt_or_ge ((MM.nOf l).getD i 0 - 1) cs.length with z | z
        · exact z
        · rw [Nat.testBit_lt_two_pow (Nat.lt_of_lt_of_le hl (Nat.pow_le_pow_right (by decide) z))] at m2;cases m2
      rw [AK hi];walk_at "w";refine BD (SqS.same (tp:=false) (SqS.same (tp:=false) sa s1) s) (EA (by omega) (by omega)) ?_;rw [show ((((MM.nOf l).getD i 0:Nat):Int) - 1).toNat=(MM.nOf l).getD i 0 - 1 by omega];exact kk H' (Same.refl _)
    · intro H' s hl2;rw [DF,List.length_map] at hl2;walk_at "w";refine ⟨false,D,_,rfl,SqL.of hl2,λ H2 s2=> ?_⟩;rw [BG (λ s=>cs.getD (s - 1) 0) (MM.nOf l) 0];exact k H2 (s1.trans (s.trans s2))
def DC (d:Dr):List Nat:=d.td.map λ ks=>FL ((List.range d.sh).map λ i=>Ct d.th (i+1)) (B8 d.ti ks)
theorem FF (ti:List (List Nat)) (ks:List Nat) (i:Nat):(B8 ti ks).testBit i=ks.any λ k=>((ti.map MM.mOf).getD (k - 1) 0).testBit i:=by
  unfold B8;rw [MM.uOf_bit,List.any_map];rfl
theorem EI {d:Dr} (ok:DrOk d) (ks:List Nat):B8 d.ti ks<2 ^ d.sh:=by
  refine Nat.lt_pow_two_of_testBit _ λ i hi=> ?_;rw [FF,List.any_eq_false];intro k _;by_cases h:k - 1<d.ti.length
  · rw [Az MM.mOf d.ti (k - 1) 0 [] h];have hr:=(ok.ir _ (As (y:=[]) h)).le;rw [Nat.testBit_lt_two_pow (Nat.lt_of_lt_of_le (MM.mOf_lt (w:=d.sh) λ n hn=>by have:=hr n hn;omega) (Nat.pow_le_pow_right (by decide) hi))];simp
  · rw [List.getD_eq_getElem?_getD,List.getElem?_eq_none (by simp;omega)];simp
theorem Ka {th:List Nat} {s l:Nat} (hl:l<2 ^ s):FL ((List.range s).map λ i=>Ct th (i+1)) l<2 ^ th.length:=by
  refine Nat.lt_pow_two_of_testBit _ λ i hi=> ?_;unfold FL;rw [MM.uOf_bit,List.any_eq_false];intro n hn;obtain ⟨k,hk,rfl⟩:=List.mem_map.mp hn;by_cases h:k - 1<s
  · rw [Az (λ i=>Ct th (i+1)) (List.range s) (k - 1) 0 0 (by simpa using h)];unfold Ct;rw [Nat.testBit_lt_two_pow (Nat.lt_of_lt_of_le (MM.ofB_lt _ _) (Nat.pow_le_pow_right (by decide) hi))];simp
  · rw [List.getD_eq_getElem?_getD,List.getElem?_eq_none (by simp;omega)];simp
theorem Mq {d:Dr} (ok:DrOk d):ClOk d.th.length (DC d) where
  n1:=ok.h1
  n2:=ok.h2
  p1:=by unfold DC;rw [List.length_map];exact ok.p1
  p2:=by unfold DC;rw [List.length_map];exact ok.p2
  lt:=λ r hr=>by
    unfold DC at hr;obtain ⟨ks,hk,rfl⟩:=List.mem_map.mp hr;exact Ka (EI ok ks)
def EK (c:Cs):Sp:=λ vs H Q _=>∃ x d,vs=[.ref x]/\DrAt c.Draft H x d/\DrOk d/\∀ H' y,Same H H'->H y=none->Mg c.Cloth H' y d.th.length (DC d)->Q (.ref y) H'
abbrev Gc:Stmt:=top 30
theorem sc_woven:FnScope ["draft","carried"] ["draft"] (Ah Gc):=⟨rfl,rfl,rfl,by decide +kernel,rfl,by decide +kernel,by decide +kernel⟩
theorem Jb {f:Addr} {fd:FuncData} (F:Fun K "woven" "woven" Gc f fd) (T:Txt K mg c) (c_shaft_ends:An P w K mg base "shaft_ends" 4 ["threading","shafts"] (CM K)) (d_Draft_ends:Fo P w K mg base c.Draft "ends" 1 ["self"] (CG c)) (c_row_by:An P w K mg base "row_by" 4 ["carried","lift"] (Fm K)) (c_lifts_of:An P w K mg base "lifts_of" 3 ["draft"] (DR c)) (m_Cloth:GM P w K mg base "Cloth" c.Cloth 4 ["self","ends","rows"] (A5 c)):FnOk P w K mg base CX0 6 f fd ["draft"] (EK c):=by
  refine F.ok sc_woven (λ vs H Q E h=> ?_) (λ cdv A outer s H vs Q E hr h=> ?_)
  · obtain ⟨x,d,rfl,_⟩:=h;rfl
  · obtain ⟨x,d,rfl,D0,ok,k⟩:=h;have D1:=D0;obtain ⟨dx,v1,v2,v3,v4,v5,h0,h1,h2,h3,h4,h5⟩:=D0;obtain ⟨a1,rfl,e1,b1⟩:=EQ h1;refine ⟨_,(Ad (AE (i:=1) sc_woven.nd rfl (Or.inr rfl) (Ac c_shaft_ends (hr.mono (by decide)) (Aa (Ba (K:=K) (pv 0) rfl) (Aa (Ba (K:=K) (pv 0) rfl) Ab))))
      (Ae (Ak (Gt m_Cloth hr (Aa (FG (pv 0) d_Draft_ends (hr.mono (by decide))) (Aa (Ar (Bk (K:=K) (Ac c_lifts_of (hr.mono (by decide)) (Aa (pv 0) Ab))) (λ _ _ _ _=>Al) (λ _ _ _ _=>(Ac c_row_by (hr.mono (by decide)) (Aa (pv 1) (Aa (pv 0) Ab))))) Ab)))))),?_⟩
    walk_at "w";refine ⟨_,_,_,_,_,rfl,h0,T.kd_Draft.cl,T.na_Draft_threading,rfl,?_⟩;walk_at "w";refine ⟨_,_,_,_,_,rfl,h0,T.kd_Draft.cl,T.na_Draft_shafts,rfl,?_⟩;walk_at "w";refine ⟨a1,true,d.th,d.sh,rfl,SqT.of e1,by have:=ok.h2;omega,by have:=ok.s2;omega,λ H1 p1 s1 hp1 q1=> ?_⟩;walk_at "w";refine ⟨_,_,_,rfl,s1 _ _ h0,rfl,?_⟩;walk_at "w";refine ⟨x,d,rfl,D1.same s1,?_⟩;walk_at "w";refine ⟨x,d,rfl,D1.same s1,ok,λ H2 p2 s2 hp2 q2=> ?_⟩;walk_at "w";refine ⟨p2,rfl,⟨_,SqL.of q2⟩,λ D hD=> ?_⟩;have hp2l:d.td.length<=60:=ok.p2;refine AW (G:=λ i=>((FL ((List.range d.sh).map λ i=>Ct d.th (i+1)) (B8 d.ti (d.td.getD i [])):Nat):Int)) (AC (SqL.of q2) rfl) hD (by simp;omega) ?_ ?_
    · intro i H' R hi s kk;have hi':i<d.td.length:=by simpa using hi
      rw [AK hi,Az (B8 d.ti) d.td i 0 [] hi'];walk_at "w";exact ⟨p1,_,_,rfl,SqL.of (s _ _ (s2 _ _ q1)),by rw [List.length_map,List.length_range];exact EI ok _,by rw [List.length_map,List.length_range];have:=ok.s2;omega,kk⟩
    · intro H3 s3 hl3;rw [DF,List.length_map,List.length_map,BG (λ ks=>FL ((List.range d.sh).map λ i=>Ct d.th (i+1)) (B8 d.ti ks)) d.td []] at hl3;walk_at "w";refine K7 hl3 (Mq ok) λ H4 y s4 hy c4=> ?_;exact k H4 y (s1.trans (s2.trans (s3.trans s4))) (s1.free (s2.free (s3.free hy))) c4
def BK (x k:Int):Int:=(x%1000000007+7919*k+13)*(x%1000000007+7919*k+13)%1000000007*48271%2147483647
def Cv:Sp:=λ vs H Q _=>∃ x k:Int,vs=[.int x, .int k]/\(0<=k/\k<=1000)/\Q (.int (BK x k)) H
abbrev B5:Stmt:=top 45
theorem sc__law_mixed:FnScope ["_law_cell","_law_k"] ["_law_cell","_law_k"] (Ah B5):=⟨rfl,rfl,rfl,by decide +kernel,rfl,by decide +kernel,by decide +kernel⟩
theorem EY {f:Addr} {fd:FuncData} (F:Fun K "_law_mixed" "_law_mixed" B5 f fd) (T:Txt K mg c):FnOk P w K mg base CX0 1 f fd ["_law_cell","_law_k"] Cv:=by
  refine F.ok sc__law_mixed (λ vs H Q E h=> ?_) (λ cdv A outer s H vs Q E hr h=> ?_)
  · obtain ⟨x,k,rfl,_⟩:=h;rfl
  · obtain ⟨x,k,rfl,hk,q⟩:=h;refine ⟨_,(Ad (AE (i:=0) sc__law_mixed.nd rfl (Or.inl rfl) (Am AZ (Am AZ (Am AU (pv 0) Af) (Am Gb Af (pv 1))) Af))
      (Ae (Ak (Am AU (Am Gb (Am AU (Am Gb (pv 0) (pv 0)) Af) Af) Af)))),?_⟩
    have b1:=Int.emod_nonneg x (show (1000000007:Int)≠0 by decide);have b2:=Int.emod_lt_of_pos x (show (0:Int)<1000000007 by decide);walk_at "w";refine AH (by decide) ?_;walk_at "w";refine AH (.inl ⟨by decide,by decide⟩) ?_;walk_at "w";refine AH (.inl ⟨?_,?_⟩) ?_
    · show -(2 ^ 64)<x%1000000007+7919*k+13;omega
    · show x%1000000007+7919*k+13<2 ^ 64;omega
    walk_at "w";refine AH (by decide) ?_;walk_at "w";refine AH (.inr ⟨by decide,by decide⟩) ?_;walk_at "w";refine AH (by decide) ?_;exact q
def Jw (n:Nat) (f:Int):Nat:=max 1 (min 60 (Builtin.Range.rangeSize f (n:Nat) 2).toNat)
def Cu (K:PySem.W.Frag):Sp:=λ vs H Q _=>∃ (a:Addr) (ns:List Int) (f:Int),vs=[.ref a, .int f]/\SqL K H a (ns.map V.int)/\ns.length<=63/\0<=f/\f<=1/\∀ H' p (ms:List Int),Same H H'->H p=none->H' p=some (.lst (ms.map V.int))->1<=ms.length->ms.length<=60/\ms.length<=ns.length+1/\ms.length=Jw ns.length f->Q (.ref p) H'
theorem LG {f:Int} {n:Nat} {i:Nat} (f0:0<=f) (h:i<(Builtin.Range.rangeSize f (n:Nat) 2).toNat):f+i*2<n:=by
  unfold Builtin.Range.rangeSize at h;rw [if_pos (by decide)] at h;split at h
  · omega
  · simp at h
abbrev B4:Stmt:=top 47
theorem sc__law_cells:FnScope ["_law_script","_law_first","_law_found"] ["_law_script","_law_first"] (Ah B4):=⟨rfl,rfl,rfl,by decide +kernel,rfl,by decide +kernel,by decide +kernel⟩
theorem Fa {f:Addr} {fd:FuncData} (F:Fun K "_law_cells" "_law_cells" B4 f fd) (T:Txt K mg c):FnOk P w K mg base CX0 1 f fd ["_law_script","_law_first"] (Cu K):=by
  refine F.ok sc__law_cells (λ vs H Q E h=> ?_) (λ cdv A outer s H vs Q E hr h=> ?_)
  · obtain ⟨a,ns,f,rfl,_⟩:=h;rfl
  · obtain ⟨a,ns,f,rfl,sa,hn,f0,f1,k⟩:=h;have hu:=hr.units0;refine ⟨_,(Ad (AE (i:=2) sc__law_cells.nd rfl (Or.inl rfl) (IQ (NC (K:=K)) (Ar (IH rfl (T.own _ (by decide)) (Aa (pv 1) (Aa (Ai (Ca (K:=K)) rfl (T.own _ (by decide)) boot_len (Aa (pv 0) Ab)) (Aa Af Ab)))) (λ _ _ _ _=>Al) (λ _ _ _ _=>(AY (Cz (K:=K)) (pv 1) (pv 0) (λ _ _=>rfl)))) Km (Ld Af)))
      (Ae (Ak (Am (Nt (K:=K)) (pv 2) (Am Mz (EJ (Aa (pv 1) Ab)) (Aw L0 rfl (T.own _ (by decide)) boot_int (Aa (B3 (M4 hu (K:=K)) (pv 2) (EJ Ab) (Bh _)) Ab))))))),?_⟩
    walk_at "w";refine Bo sa ?_;walk_at "w";refine ⟨_,_,_,rfl,⟨by omega,by omega⟩,⟨by omega,by rw [List.length_map];omega⟩,⟨by decide,by decide⟩,by decide,λ D hD=> ?_⟩;rw [List.length_map];have hb:∀ i:Nat,i<(Builtin.Range.rangeSize f (ns.length:Nat) 2).toNat->f+i*2<ns.length:=λ i hi=>LG f0 hi;have hsz:(Builtin.Range.rangeSize f (ns.length:Nat) 2).toNat<=63:=by
      have:=IU f (ns.length:Nat) 2 (by decide);omega
    have hce:Jw ns.length f=max 1 (min 60 (Builtin.Range.rangeSize f (ns.length:Nat) 2).toNat):=rfl;generalize (Builtin.Range.rangeSize f (ns.length:Nat) 2).toNat=n at hb hsz hce ⊢;refine AW (G:=λ i=>ns.getD (f+i*2).toNat 0) (G7 rfl) hD (by omega) ?_ ?_
    · intro i H' R hi s kk;have:=hb i hi;walk_at "w";refine BD (SqS.same (tp:=false) sa s) (Kr (by omega) (by omega)) ?_;exact kk H' (Same.refl _)
    intro H1 s1 hl1;have hn1:n<=ns.length:=by
      rcases Nat.eq_zero_or_pos n with z | z
      · omega
      · have:=hb (n - 1) (by omega);omega
    have lms:((List.range n).map λ i:Nat=>ns.getD (f+i*2).toNat 0).length<=ns.length/\((List.range n).map λ i:Nat=>ns.getD (f+i*2).toNat 0).length=n:=by simpa using hn1
    generalize (List.range n).map (λ i:Nat=>ns.getD (f+i*2).toNat 0)=ms at hl1 lms;walk_at "w";refine LU (SqL.of hl1) λ q hq=> ?_;rw [Ml (by decide), <-List.map_take];have s2:=Aj (o:=HO.lst ((ms.take (60:Int).toNat).map V.int)) hq;have h2:upd H1 q (HO.lst ((ms.take (60:Int).toNat).map V.int)) q=_:=Ag;have s12:=s1.trans s2;generalize upd H1 q (HO.lst ((ms.take (60:Int).toNat).map V.int))=H2 at s12 h2 ⊢;have hms:(ms.take (60:Int).toNat).length<=60/\(ms.take (60:Int).toNat).length<=ns.length/\(ms.take (60:Int).toNat).length=min 60 n:=by rw [List.length_take,lms.2];exact ⟨Nat.min_le_left _ _,Nat.le_trans (Nat.min_le_right _ _) hn1,rfl⟩
    generalize ms.take (60:Int).toNat=ts at h2 hms ⊢;walk_at "w";intro p hp;walk_at "w";have s3:=Aj (o:=HO.lst [V.int f]) hp;have h3:upd H2 p (HO.lst [V.int f]) p=some (.lst [V.int f]):=Ag;have s13:=s12.trans s3;replace h2:=s3 _ _ h2;generalize upd H2 p (HO.lst [V.int f])=H3 at s13 h2 h3 ⊢;intro p4 hp4;walk_at "w";have s4:=Aj (o:=HO.lst []) hp4;have s14:=s13.trans s4;replace h2:=s4 _ _ h2;replace h3:=s4 _ _ h3;have h4:upd H3 p4 (HO.lst []) p4=_:=Ag;generalize upd H3 p4 (HO.lst [])=H4 at s14 h2 h3 h4 ⊢;refine Le (bs:=[]) (SqL.of h2) (SqL.of h4) ?_;walk_at "w";refine ⟨_,rfl,?_⟩;have hb2:(0:Int)<=(if decide (ts=[])=true then 1 else 0)/\(if decide (ts=[])=true then (1:Int) else 0)<=1:=by split <;> decide
    refine LV h3 hb2.1 (by omega) (by simp) λ p5 hp5=> ?_;walk_at "w";have e5:(List.replicate (if decide (ts=[])=true then (1:Int) else 0).toNat [V.int f]).flatten=(if ts=[] then [f] else []).map V.int:=by
      by_cases z:ts=[]
      · simp [z]
      · simp [z]
    rw [e5];have s5:=Aj (o:=HO.lst ((if ts=[] then [f] else []).map V.int)) hp5;have h5:upd H4 p5 (HO.lst ((if ts=[] then [f] else []).map V.int)) p5=_:=Ag;replace h2:=s5 _ _ h2;have s15:=s14.trans s5;generalize upd H4 p5 (HO.lst ((if ts=[] then [f] else []).map V.int))=H5 at s15 h2 h5 ⊢;have hlen:1<=(ts++(if ts=[] then [f] else [])).length/\(ts++(if ts=[] then [f] else [])).length<=60/\(ts++(if ts=[] then [f] else [])).length<=ns.length+1/\(ts++(if ts=[] then [f] else [])).length=Jw ns.length f:=by
      by_cases z:ts=[]
      · rw [z] at hms;simp [z,hce];simp at hms;omega
      · have:1<=ts.length:=by
          cases ts with
          | nil=>exact absurd rfl z
          | cons _ _=>simp
        simp [z];omega
    refine Mw (SqL.of h2) (SqL.of h5) (by have:=hlen.2.1;rw [List.length_append] at this;simp only [List.length_map];omega) λ p6 hp6=> ?_;rw [<-List.map_append];exact k _ p6 _ (s15.trans (Aj hp6)) (s15.free hp6) Ag hlen.1 hlen.2
def ED (m w:Nat):List Nat:=((List.range w).filter m.testBit).map (· + 1)
theorem DM (p:Nat->Bool):∀ w,Rise w (((List.range w).filter p).map (· + 1)):=by
  intro w;have key:∀ w,(∀ n∈((List.range w).filter p).map (· + 1),1<=n/\n<=w)/\(((List.range w).filter p).map (· + 1)).Pairwise (· < ·):=by
    intro w;refine ⟨λ n hn=> ?_,?_⟩
    · obtain ⟨k,hk,rfl⟩:=List.mem_map.mp hn;have:=List.mem_range.mp (List.mem_filter.mp hk).1;omega
    · rw [List.pairwise_map];exact ((List.pairwise_lt_range).filter p).imp (λ h=>Nat.succ_lt_succ h)
  obtain ⟨k1,k2⟩:=key w;generalize ((List.range w).filter p).map (· + 1)=ns at k1 k2;intro i hi;have e:ns.getD i 0=ns[i]:=by simp [List.getD_eq_getElem?_getD,hi]
  have m1:=k1 _ (List.getElem_mem hi);rw [e];refine ⟨?_,m1.2⟩;cases i with
  | zero=>simpa using m1.1
  | succ i=>
    have e2:(0::ns).getD (i+1) 0=ns[i]:=by
      show ns.getD i 0=ns[i];simp [List.getD_eq_getElem?_getD,(show i<ns.length by omega)]
    rw [e2];exact (List.pairwise_iff_getElem.mp k2) i (i+1) (by omega) hi (by omega)
def B7:Sp:=λ vs H Q _=>∃ m w:Nat,vs=[nV m,nV w]/\w<=100/\∀ H' p,Same H H'->H p=none->H' p=some (.lst ((ED m w).map nV))->Q (.ref p) H'
theorem Kh (m i:Nat):decide ((((m >>> i) &&& 1:Nat):Int)=1)=m.testBit i:=by
  have h:((m >>> i) &&& 1)=(m.testBit i).toNat:=by
    rw [Nat.and_one_is_mod,Nat.shiftRight_eq_div_pow,MM.bit_div]
  rw [h];cases m.testBit i <;> rfl
abbrev Bu:Stmt:=top 48
theorem DV:FnScope ["_law_mask","_law_most"] ["_law_mask","_law_most"] (Ah Bu):=⟨rfl,rfl,rfl,by decide +kernel,rfl,by decide +kernel,by decide +kernel⟩
theorem DW {f:Addr} {fd:FuncData} (F:Fun K "_law_numbers" "_law_numbers" Bu f fd) (T:Txt K mg c):FnOk P w K mg base CX0 1 f fd ["_law_mask","_law_most"] B7:=by
  refine F.ok DV (λ vs H Q E h=> ?_) (λ cdv A outer s H vs Q E hr h=> ?_)
  · obtain ⟨m,w,rfl,_⟩:=h;rfl
  · obtain ⟨m,w,rfl,hw,k⟩:=h;refine ⟨_,(Ae (Ak (Ar (Br rfl (T.own _ (by decide)) (Aa (pv 1) Ab)) (λ _ _ _ _=>(F8 (BY En (Am Jd (Am ML (pv 1) (pv 0)) Af) Af (Bh _)))) (λ _ _ _ _=>(Am AZ (pv 0) Af))))),?_⟩;walk_at "w";refine ⟨_,rfl,by omega,by omega,λ D hD=> ?_⟩;rw [Int.toNat_natCast];refine C2 (p:=m.testBit) (G:=λ i=>(i:Int)+1) (BR rfl) hD (by omega) ?_ ?_ ?_
    · intro i H' R hi s kk;walk_at "w";refine AH (by show (0:Int)<=_;omega) ?_;walk_at "w";have e:((m:Nat):Int) / 2 ^ (((i:Nat):Int)).toNat=((m >>> i:Nat):Int):=by
        rw [Int.toNat_natCast,Nat.shiftRight_eq_div_pow];push_cast;rfl
      rw [e,show (1:Int)=((1:Nat):Int) from rfl,bA];walk_at "w";rw [show (((1:Nat):Int))=(1:Int) from rfl,Kh];exact kk H' (Same.refl _)
    · intro i H' R hi hp s kk;walk_at "w";exact kk H' (Same.refl _)
    · intro H' s hl;refine k H' D s hD ?_;rw [hl];unfold ED;rw [List.map_map,List.map_map];rfl
def A2:Nat->Sp
  | 0=>λ _ _ _ _=>False
  | n+1=>λ vs H Q _=>∃ v d,vs=[v]/\Rp H FT n v d/\∀ H' r,Same H H'->Rp H' (FN H) n r d->Q r H'
abbrev Bd:Stmt:=top 50
theorem Em:FnScope ["_law_thing"] ["_law_thing"] (Ah Bd):=⟨rfl,rfl,rfl,by decide +kernel,rfl,by decide +kernel,by decide +kernel⟩
theorem Ea {n:Nat} {f:Addr} {fd:FuncData} (F:Fun K "_law_copied" "_law_copied" Bd f fd) (T:Txt K mg c) (c__law_copied:An P w K mg base "_law_copied" (n+1) ["_law_thing"] (A2 n)):FnOk P w K mg base CX0 (n+2) f fd ["_law_thing"] (A2 (n+1)):=by
  refine F.ok Em (λ vs H Q E h=> ?_) (λ cdv A outer s H vs Q E hr h=> ?_)
  · obtain ⟨v,d,rfl,_⟩:=h;rfl
  · obtain ⟨v,d,rfl,rv,k⟩:=h;refine ⟨_,(Ad (BA (AV (Ai (A1 (K:=K)) rfl (T.own _ (by decide)) boot_isinstance (Aa (pv 0) (Aa (Bi rfl (T.own _ (by decide)) Ay) Ab)))) (Ae (Ak (Ar (Bk (K:=K) (pv 0)) (λ _ _ _ _=>Al) (λ _ _ _ _=>(Ac c__law_copied hr (Aa (pv 0) Ab)))))) AQ)
      (Ad (BA (AV (Ai (A1 (K:=K)) rfl (T.own _ (by decide)) boot_isinstance (Aa (pv 0) (Aa (Bi rfl (T.own _ (by decide)) Au) Ab)))) (Ae (Ak (Aw (Bp (K:=K)) rfl (T.own _ (by decide)) Au (Aa (Ar (GK (K:=K) (pv 0)) (λ _ _ _ _=>Al) (λ _ _ _ _=>(Ac c__law_copied hr (Aa (pv 0) Ab)))) Ab)))) AQ)
      (Ae (Ak (pv 0))))),?_⟩
    walk_at "w";refine AL rv.ty (Eb d) ?_;walk_at "w";refine Mf (λ hc=> ?_) (λ hc=> ?_)
    · obtain ⟨m,a,xs,rfl,rfl,sa,la,ba,ea⟩:=rv.seq (K:=K) (by rw [hc];rfl);have ed:d= .lst (AF d):=by cases d <;> first | rfl | cases hc
      have et:CJ d=false:=by cases d <;> first | rfl | cases hc
      rw [et] at sa;walk_at "w";refine ⟨a,rfl,⟨_,sa⟩,λ D hD=> ?_⟩;refine AA (m:=m) (G:=λ i=>(AF d).getD i .non) (AC sa rfl) hD ba ?_ ?_
      · intro i H' R hi s1 kk;walk_at "w";have hd:(AF d)[i]?=some ((AF d).getD i .non):=by
          rw [List.getD_eq_getElem?_getD,List.getElem?_eq_getElem (by omega)];rfl
        have hx:xs[i]?=some (xs.getD i .non):=by
          rw [List.getD_eq_getElem?_getD,List.getElem?_eq_getElem hi];rfl
        exact ⟨_,_,rfl,(ea i _ _ hx hd).same s1,kk⟩
      · intro H' ys s1 hl r;have e:(List.range xs.length).map (λ i=>(AF d).getD i .non)=AF d:=by
          rw [la];exact (AS id (AF d) .non).trans (List.map_id _)
        rw [e, <-ed] at r;exact k H' _ s1 r
    · walk_at "w";refine AL rv.ty (C5 d) ?_;walk_at "w";refine Mf (λ hc2=> ?_) (λ hc2=> ?_)
      · obtain ⟨m,a,xs,rfl,rfl,sa,la,ba,ea⟩:=rv.seq (K:=K) (by rw [hc2,Bool.or_true]);have ed:d= .tup (AF d):=by cases d <;> first | rfl | cases hc2
        rw [hc2] at sa;walk_at "w";refine ⟨a,rfl,⟨_,sa⟩,λ D hD=> ?_⟩;refine AA (m:=m) (G:=λ i=>(AF d).getD i .non) (C8 sa rfl) hD ba ?_ ?_
        · intro i H' R hi s1 kk;walk_at "w";have hd:(AF d)[i]?=some ((AF d).getD i .non):=by
            rw [List.getD_eq_getElem?_getD,List.getElem?_eq_getElem (by omega)];rfl
          have hx:xs[i]?=some (xs.getD i .non):=by
            rw [List.getD_eq_getElem?_getD,List.getElem?_eq_getElem hi];rfl
          exact ⟨_,_,rfl,(ea i _ _ hx hd).same s1,kk⟩
        · intro H' ys s1 hl r;have e:(List.range xs.length).map (λ i=>(AF d).getD i .non)=AF d:=by
            rw [la];exact (AS id (AF d) .non).trans (List.map_id _)
          rw [e] at r;walk_at "w";refine A3 (SqL.of hl) λ l hl2=> ?_;have r2:=r.tupd hl hl2;rw [<-ed] at r2;exact k _ _ (s1.trans (Aj hl2)) r2
      · walk_at "w";refine k H v (Same.refl H) ?_;have hs:(FD d||CJ d)=false:=by rw [hc,hc2];rfl
        cases rv with
        | non=>exact .non
        | bl b=>exact .bl b
        | int i=>exact .int i
        | str z=>exact .str z
        | lst _ _ _ _ _=>cases hs
        | tup _ _ _ _=>cases hs
theorem Cf {f:Addr} {fd:FuncData} (D:DefAt K mg "_law_copied" Bd ["_law_thing"] f fd) (T:Txt K mg c):∀ n,FnOk P w K mg base CX0 (n+1) f fd ["_law_thing"] (A2 n)
  | 0=>⟨λ _ _ _ _ h=>h.elim,λ _ _ _ _ _ _ _ _ _ _ _ _ _ h=>h.elim⟩
  | n+1=>Ea D.fn T (D.call (Cf D T n))
abbrev LI (i:Int):Str:=⟨#[97+i.toNat]⟩
theorem LM:∀ j:Nat,j<26->("abcdefghijklmnopqrstuvwxyz":Str).cps.toList[j]?=some (97+j):=by decide +kernel
theorem Hr {i:Int} (h0:0<=i) (h1:i<26):atI ("abcdefghijklmnopqrstuvwxyz":Str).cps.toList i=some (97+i.toNat):=by
  obtain ⟨j,rfl⟩:∃ j:Nat,i=j:=⟨i.toNat,by omega⟩;rw [Int.toNat_natCast];exact AM (LM j (by omega))
theorem K1:∀ j:Nat,j<26->((⟨#[97+j]⟩:Str).length == 1&& !(Builtin.Str.occurrences colS ⟨#[97+j]⟩ 0 colS.length 1).isEmpty)=true:=by decide +kernel
theorem JL {i:Int} (h0:0<=i) (h1:i<26):Ge (LI i):=by
  have h:=K1 i.toNat (by omega);simp only [Bool.and_eq_true,beq_iff_eq] at h;exact ⟨h.1,h.2⟩
theorem Gq (s:Nat):(0:Int)<1*2 ^ ((s:Nat):Int).toNat:=by
  rw [Int.toNat_natCast,C3];have:=Nat.two_pow_pos s;omega
theorem HY (x:Int) (s:Nat):x%(1*2 ^ ((s:Nat):Int).toNat)=(((x%(2 ^ s:Nat)).toNat:Nat):Int):=by
  rw [Int.toNat_natCast,C3];have hp:=Nat.two_pow_pos s;have:=Int.emod_nonneg x (show ((2 ^ s:Nat):Int)≠0 by omega);omega
def CI (K:PySem.W.Frag):Sp:=λ vs H Q _=>∃ (a:Addr) (ns:List Int) (m:Nat),vs=[.ref a,nV m]/\SqL K H a (ns.map V.int)/\ns.length<=63/\1<=m/\m<=16/\∀ H' p d,Same H H'->H p=none->Rp H' (FN H) 3 (.ref p) (dDr d)->DrOk d->Q (.ref p) H'
abbrev BU:Stmt:=top 49
theorem sc__law_draft:FnScope ["_law_script","_law_most","_law_whole","_law_shafts","_law_treadles","_law_letters","_law_ends","_law_picks","_law_ties","_law_treading","_law_warp","_law_weft"] ["_law_script","_law_most"] (Ah BU):=⟨rfl,rfl,rfl,by decide +kernel,rfl,by decide +kernel,by decide +kernel⟩
theorem Fh {f:Addr} {fd:FuncData} (F:Fun K "_law_draft" "_law_draft" BU f fd) (T:Txt K mg c) (c__law_mixed:An P w K mg base "_law_mixed" 1 ["_law_cell","_law_k"] Cv) (c__law_cells:An P w K mg base "_law_cells" 1 ["_law_script","_law_first"] (Cu K)) (c__law_numbers:An P w K mg base "_law_numbers" 1 ["_law_mask","_law_most"] B7):FnOk P w K mg base CX0 2 f fd ["_law_script","_law_most"] (CI K):=by
  refine F.ok sc__law_draft (λ vs H Q E h=> ?_) (λ cdv A outer s H vs Q E hr h=> ?_)
  · obtain ⟨a,ns,m,rfl,_⟩:=h;rfl
  · obtain ⟨a,ns,m,rfl,sa,hn,m1,m2,k⟩:=h;refine ⟨_,(Ad (AE (i:=2) sc__law_draft.nd rfl (Or.inr rfl) (Ai (NB (K:=K)) rfl (T.own _ (by decide)) boot_sum (Aa (BH (K:=K) (KQ (K:=K) rfl (T.own _ (by decide)) (Aa (pv 0) Ab)) (λ _ _ _ _=>Al) (λ _ _ _ _=>(Am Gb (Am AU (pv 1) Af) (Am AZ (pv 0) Af)))) Ab)))
      (Ad (AE (i:=3) sc__law_draft.nd rfl (Or.inr rfl) (Am AZ Af (Am AU (Ac c__law_mixed hr (Aa (pv 2) (Aa Af Ab))) (pv 1))))
      (Ad (AE (i:=4) sc__law_draft.nd rfl (Or.inr rfl) (Am AZ Af (Am AU (Ac c__law_mixed hr (Aa (pv 2) (Aa Af Ab))) (pv 1))))
      (Ad (AE (i:=5) sc__law_draft.nd rfl (Or.inr rfl) AT)
      (Ad (AE (i:=6) sc__law_draft.nd rfl (Or.inl rfl) (Ac c__law_cells hr (Aa (pv 0) (Aa Af Ab))))
      (Ad (AE (i:=7) sc__law_draft.nd rfl (Or.inl rfl) (Ac c__law_cells hr (Aa (pv 0) (Aa Af Ab))))
      (Ad (Bt (i:=8) sc__law_draft.nd rfl (Or.inl rfl) (Br rfl (T.own _ (by decide)) (Aa (pv 4) Ab)) (λ _ _ _ _=>Al) (λ _ _ _ _=>(Ac c__law_numbers hr (Aa (Am AU (Ac c__law_mixed hr (Aa (pv 2) (Aa (Am AZ Af (pv 0)) Ab))) (Am F6 Af (pv 1))) (Aa (pv 1) Ab)))))
      (Ad (Bt (i:=9) sc__law_draft.nd rfl (Or.inl rfl) (Bk (K:=K) (pv 7)) (λ _ _ _ _=>Al) (λ _ _ _ _=>(Ac c__law_numbers hr (Aa (Am AU (pv 0) (Am F6 Af (pv 1))) (Aa (pv 1) Ab)))))
      (Ad (BA (BY En (Am AU (Ac c__law_mixed hr (Aa (pv 2) (Aa Af Ab))) Af) Af (Bh _)) (Ae (Bt (i:=9) sc__law_draft.nd rfl (Or.inl rfl) (Bk (K:=K) (pv 7)) (λ _ _ _ _=>Al) (λ _ _ _ _=>(EJ (Aa (Am AZ Af (Am AU (pv 0) (pv 1))) Ab))))) AQ)
      (Ad (Bt (i:=10) sc__law_draft.nd rfl (Or.inl rfl) (Bk (K:=K) (pv 6)) (λ _ _ _ _=>Al) (λ _ _ _ _=>(AY JX (pv 1) (Am AU (Am GG (pv 0) Af) (Am AZ Af (Am AU (Ac c__law_mixed hr (Aa (pv 2) (Aa Af Ab))) Af))) (λ _ _=>rfl))))
      (Ad (Bt (i:=11) sc__law_draft.nd rfl (Or.inl rfl) (Bk (K:=K) (pv 7)) (λ _ _ _ _=>Al) (λ _ _ _ _=>(AY JX (pv 1) (Am AU (Am GG (pv 0) Af) (Am AZ Af (Am AU (Ac c__law_mixed hr (Aa (pv 2) (Aa Af Ab))) Af))) (λ _ _=>rfl))))
      (Ae (Ak (G4 (Aa (pv 3) (Aa (pv 4) (Aa (Ar (Bk (K:=K) (pv 6)) (λ _ _ _ _=>Al) (λ _ _ _ _=>(Am AU (pv 0) (Am AZ (pv 1) Af)))) (Aa (pv 8) (Aa (pv 9) (Aa (pv 10) (Aa (pv 11) Ab))))))))))))))))))))),?_⟩
    walk_at "w";refine ⟨a,rfl,⟨_,sa⟩,λ D0 hD0=> ?_⟩;refine AW (G:=λ i=>ns.getD i 0%1000000007*((i:Int)+1)) (IR sa rfl rfl) hD0 (by rw [List.length_map];omega) ?_ ?_
    · intro i H' R hi s kk;have b1:=Int.emod_nonneg (ns.getD i 0) (show (1000000007:Int)≠0 by decide);have b2:=Int.emod_lt_of_pos (ns.getD i 0) (show (0:Int)<1000000007 by decide);rw [BJ hi];walk_at "w";refine AH (by decide) ?_;walk_at "w";refine AH (.inl ⟨by omega,by omega⟩) ?_;exact kk H' (Same.refl _)
    intro H1 s1 hl1;walk_at "w";refine Mm (SqL.of hl1) ?_;generalize ((List.range (ns.map V.int).length).map λ i:Nat=>ns.getD i 0%1000000007*((i:Int)+1)).sum=W;walk_at "w";refine ⟨W,1,rfl,⟨by decide,by decide⟩,?_⟩;walk_at "w";refine AH (by show (0:Int)<(m:Nat);omega) ?_;walk_at "w";obtain ⟨sN,es,sN1,sN2⟩:∃ s:Nat,1+BK W 1%(m:Nat)=(s:Nat)/\1<=s/\s<=16:=by
      have h0:=Int.emod_nonneg (BK W 1) (show ((m:Nat):Int)≠0 by omega);have h1:=Int.emod_lt_of_pos (BK W 1) (show (0:Int)<(m:Nat) by omega);exact ⟨(1+BK W 1%(m:Nat)).toNat,by omega,by omega,by omega⟩
    rw [es];refine ⟨W,2,rfl,⟨by decide,by decide⟩,?_⟩;walk_at "w";refine AH (by show (0:Int)<(m:Nat);omega) ?_;walk_at "w";obtain ⟨tN,et,tN1,tN2⟩:∃ s:Nat,1+BK W 2%(m:Nat)=(s:Nat)/\1<=s/\s<=16:=by
      have h0:=Int.emod_nonneg (BK W 2) (show ((m:Nat):Int)≠0 by omega);have h1:=Int.emod_lt_of_pos (BK W 2) (show (0:Int)<(m:Nat) by omega);exact ⟨(1+BK W 2%(m:Nat)).toNat,by omega,by omega,by omega⟩
    rw [et];refine ⟨a,ns,0,rfl,s1.seq sa,hn,by decide,by decide,λ H2 pE eE s2 hpE hE lE1 lE2=> ?_⟩;walk_at "w";have s02:=s1.trans s2;refine ⟨a,ns,1,rfl,s02.seq sa,hn,by decide,by decide,λ H3 pP eP s3 hpP hP lP1 lP2=> ?_⟩;walk_at "w";have s03:=s02.trans s3;replace hE:=s3 _ _ hE;refine ⟨_,rfl,by omega,by omega,λ D4 hD4=> ?_⟩;rw [Int.toNat_natCast];refine AA (m:=1) (G:=λ i=>dL (ED (BK W (3+(i:Int))%(2 ^ sN:Nat)).toNat sN)) (BR rfl) hD4 (by omega) ?_ ?_
    · intro i H' R hi s kk;walk_at "w";refine ⟨W,_,rfl,⟨by omega,by omega⟩,?_⟩;walk_at "w";refine AH ⟨by omega,by omega,by decide⟩ ?_;walk_at "w";refine AH (Gq sN) ?_;walk_at "w";rw [HY];exact ⟨_,sN,rfl,by omega,λ H4 p4 s4 hp4 h4=>kk H4 _ s4 (Iy h4 hp4 (by unfold ED;rw [List.length_map];exact Nat.le_trans (List.length_filter_le _ _) (by simp;omega)))⟩
    intro H4 ys4 s4 hl4 r4;rw [F0] at r4;have s04:=s03.trans s4;replace r4:Rp H4 (FN H) 2 (.ref D4) _:=r4.imp λ a ha=>s03.free ha;replace hE:=s4 _ _ hE;replace hP:=s4 _ _ hP;generalize eTI:((List.range tN).map λ i:Nat=>ED (BK W (3+(i:Int))%(2 ^ sN:Nat)).toNat sN)=TI at r4;have lTI:TI.length=tN:=by rw [<-eTI];simp
    have rTI:∀ l∈TI,Rise sN l:=λ l hl=>by
      rw [<-eTI] at hl;obtain ⟨i,_,rfl⟩:=List.mem_map.mp hl;exact DM _ sN
    walk_at "w";refine ⟨pP,rfl,⟨_,SqL.of hP⟩,λ D5 hD5=> ?_⟩;refine AA (m:=1) (G:=λ i=>dL (ED (eP.getD i 0%(2 ^ tN:Nat)).toNat tN)) (AC (SqL.of hP) rfl) hD5 (by rw [List.length_map];omega) ?_ ?_
    · intro i H' R hi s kk;rw [BJ hi];walk_at "w";refine AH ⟨by omega,by omega,by decide⟩ ?_;walk_at "w";refine AH (Gq tN) ?_;walk_at "w";rw [HY];exact ⟨_,tN,rfl,by omega,λ H4 p4 s4 hp4 h4=>kk H4 _ s4 (Iy h4 hp4 (by unfold ED;rw [List.length_map];exact Nat.le_trans (List.length_filter_le _ _) (by simp;omega)))⟩
    intro H5 ys5 s5 hl5 r5;rw [List.length_map,F0] at r5;have s05:=s04.trans s5;replace r5:Rp H5 (FN H) 2 (.ref D5) _:=r5.imp λ a ha=>s04.free ha;replace r4:=r4.same s5;replace hE:=s5 _ _ hE;replace hP:=s5 _ _ hP;walk_at "v";refine ifJ (λ σ' H6=>∃ v9 TD,σ'=[some (.ref a),some (nV m),some (.int W),some (nV sN),some (nV tN),some (.str "abcdefghijklmnopqrstuvwxyz"),some (.ref pE),some (.ref pP),some (.ref D4),some v9,none,none]/\Same H5 H6/\Rp H6 (FN H) 2 v9 (dLL TD)/\TD.length=eP.length/\∀ l∈TD,Rise tN l) ?_ (λ key=> ?_)
    · rintro σ' H6 ⟨v9,TD,rfl,s6,r9,lTD,rTD⟩;have s06:=s05.trans s6;replace r4:=r4.same s6;replace hE:=s6 _ _ hE;replace hP:=s6 _ _ hP;walk_at "w";refine ⟨pE,rfl,⟨_,SqL.of hE⟩,λ D7 hD7=> ?_⟩;have bm:∀ k:Int,(0:Int)<1+BK W k%26/\1+BK W k%26<=26:=λ k=>by
        have h0:=Int.emod_nonneg (BK W k) (show (26:Int)≠0 by decide);have h1:=Int.emod_lt_of_pos (BK W k) (show (0:Int)<26 by decide);omega
      have bq:∀ (x k:Int),0<=x%(1+BK W k%26)/\x%(1+BK W k%26)<26:=λ x k=>by
        have h:=bm k;have h0:=Int.emod_nonneg x (show (1+BK W k%26)≠0 by omega);have h1:=Int.emod_lt_of_pos x h.1;omega
      refine AA (m:=0) (G:=λ i=> .str (LI (eE.getD i 0 / 17%(1+BK W 41%26)))) (AC (SqL.of hE) rfl) hD7 (by rw [List.length_map];omega) ?_ ?_
      · intro i H' R hi s kk;rw [BJ hi];walk_at "w";refine AH ⟨by decide,by decide⟩ ?_;walk_at "w";refine ⟨W,41,rfl,⟨by decide,by decide⟩,?_⟩;walk_at "w";refine AH (by decide) ?_;walk_at "w";refine AH (bm 41).1 ?_;have:=bq (eE.getD i 0 / 17) 41;refine Ju (by decide) (Hr this.1 this.2) ?_;exact kk H' _ (Same.refl _) (.str _)
      intro H7 ys7 s7 hl7 r7;rw [List.length_map,Hb] at r7;have s07:=s06.trans s7;replace r7:Rp H7 (FN H) 2 (.ref D7) _:=(r7.imp λ a ha=>s06.free ha).up (by decide);replace r4:=r4.same s7;replace r9:=r9.same s7;replace hE:=s7 _ _ hE;replace hP:=s7 _ _ hP;walk_at "w";refine ⟨pP,rfl,⟨_,SqL.of hP⟩,λ D8 hD8=> ?_⟩;refine AA (m:=0) (G:=λ i=> .str (LI (eP.getD i 0 / 70000%(1+BK W 42%26)))) (AC (SqL.of hP) rfl) hD8 (by rw [List.length_map];omega) ?_ ?_
      · intro i H' R hi s kk;rw [BJ hi];walk_at "w";refine AH ⟨by decide,by decide⟩ ?_;walk_at "w";refine ⟨W,42,rfl,⟨by decide,by decide⟩,?_⟩;walk_at "w";refine AH (by decide) ?_;walk_at "w";refine AH (bm 42).1 ?_;have:=bq (eP.getD i 0 / 70000) 42;refine Ju (by decide) (Hr this.1 this.2) ?_;exact kk H' _ (Same.refl _) (.str _)
      intro H8 ys8 s8 hl8 r8;rw [List.length_map,Hb] at r8;have s08:=s07.trans s8;replace r8:Rp H8 (FN H) 2 (.ref D8) _:=(r8.imp λ a ha=>s07.free ha).up (by decide);replace r4:=r4.same s8;replace r9:=r9.same s8;replace r7:=r7.same s8;replace hE:=s8 _ _ hE;walk_at "w";refine ⟨pE,rfl,⟨_,SqL.of hE⟩,λ DA hDA=> ?_⟩;refine AA (m:=0) (G:=λ i=>dN (eE.getD i 0%((sN+1:Nat):Int)).toNat) (AC (SqL.of hE) rfl) hDA (by rw [List.length_map];omega) ?_ ?_
      · intro i H' R hi s kk;rw [BJ hi];walk_at "w";refine AH (by show (0:Int)<_;omega) ?_;have h0:=Int.emod_nonneg (eE.getD i 0) (show ((sN:Nat):Int)+1≠0 by omega);have e:eE.getD i 0%(((sN:Nat):Int)+1)=(((eE.getD i 0%((sN+1:Nat):Int)).toNat:Nat):Int):=by
          rw [show ((sN+1:Nat):Int)=((sN:Nat):Int)+1 by omega];omega
        rw [e];exact kk H' _ (Same.refl _) (.int _)
      intro HA ysA sA hlA rA;rw [List.length_map,L4] at rA;have s0A:=s08.trans sA;replace rA:Rp HA (FN H) 2 (.ref DA) _:=(rA.imp λ a ha=>s08.free ha).up (by decide);replace r4:=r4.same sA;replace r9:=r9.same sA;replace r7:=r7.same sA;replace r8:=r8.same sA;walk_at "w";intro p hp;have sB:=Aj (o:=HO.tup [nV sN,nV tN, .ref DA, .ref D4,v9, .ref D7, .ref D8]) hp;refine k _ p ⟨sN,tN,_,TI,TD,_,_⟩ (s0A.trans sB) (s0A.free hp) (Hv Ag (.int _) (.int _) (rA.same sB) (r4.same sB) (r9.same sB) (r7.same sB) (r8.same sB)) ?_;exact {
        s1:=sN1,s2:=sN2,t1:=tN1,t2:=tN2
        h1:=by simpa using lE1
        h2:=by simpa using lE2.1
        hs:=λ n hn=>by
          obtain ⟨i,_,rfl⟩:=List.mem_map.mp hn;have h0:=Int.emod_nonneg (eE.getD i 0) (show ((sN+1:Nat):Int)≠0 by omega);have h1:=Int.emod_lt_of_pos (eE.getD i 0) (show (0:Int)<((sN+1:Nat):Int) by omega);show _<=sN;omega
        il:=lTI,ir:=rTI
        p1:=by show 1<=TD.length;omega
        p2:=by show TD.length<=60;omega
        pr:=rTD
        wl:=by simp
        wc:=λ z hz=>by
          obtain ⟨i,_,rfl⟩:=List.mem_map.mp hz;exact JL (bq _ 41).1 (bq _ 41).2
        fl:=by simp [lTD]
        fc:=λ z hz=>by
          obtain ⟨i,_,rfl⟩:=List.mem_map.mp hz;exact JL (bq _ 42).1 (bq _ 42).2 }
    · walk_at "w";refine ⟨W,40,rfl,⟨by decide,by decide⟩,?_⟩;walk_at "w";refine AH (by decide) ?_;walk_at "w";refine Js (λ h0=> ?_) (λ h0=> ?_)
      · walk_at "w";refine ⟨pP,rfl,⟨_,SqL.of hP⟩,λ D6 hD6=> ?_⟩;refine AA (m:=1) (G:=λ i=>dL [(1+eP.getD i 0%(tN:Nat)).toNat]) (AC (SqL.of hP) rfl) hD6 (by rw [List.length_map];omega) ?_ ?_
        · intro i H' R hi s kk;rw [BJ hi];walk_at "w";refine AH (by show (0:Int)<(tN:Nat);omega) ?_;walk_at "w";intro q hq;have h0:=Int.emod_nonneg (eP.getD i 0) (show ((tN:Nat):Int)≠0 by omega);refine kk _ _ (Aj hq) (Iy ?_ hq (by simp));rw [Ag];show some (HO.lst [V.int (1+eP.getD i 0%(tN:Nat))])=some (HO.lst [V.int (((1+eP.getD i 0%(tN:Nat)).toNat:Nat):Int)]);congr 4;omega
        · intro H6 ys6 s6 hl6 r6;rw [List.length_map,F0 (λ i=>[(1+eP.getD i 0%(tN:Nat)).toNat])] at r6;refine FY ?_;refine key _ _ ⟨_,_,rfl,s6,r6.imp λ a ha=>s05.free ha,by simp,λ l hl=> ?_⟩;obtain ⟨i,_,rfl⟩:=List.mem_map.mp hl;have h0:=Int.emod_nonneg (eP.getD i 0) (show ((tN:Nat):Int)≠0 by omega);have h1:=Int.emod_lt_of_pos (eP.getD i 0) (show (0:Int)<(tN:Nat) by omega);intro j hj;have hj:j=0:=by simpa using hj
          subst hj;show 0+1<=(1+eP.getD i 0%(tN:Nat)).toNat/\(1+eP.getD i 0%(tN:Nat)).toNat<=tN;omega
      · refine FP ?_;refine key _ _ ⟨_,_,rfl,Same.refl _,r5,by simp,λ l hl=> ?_⟩;obtain ⟨i,_,rfl⟩:=List.mem_map.mp hl;exact DM _ tN
def Di (c:Cs):Sp:=λ vs H Q _=>∃ v d,vs=[v]/\Rp H FT 3 v (dDr d)/\DrOk d/\∀ H' x,Same H H'->H x=none->DrAt c.Draft H' x d->Q (.ref x) H'
abbrev Cb:Stmt:=top 51
theorem sc__law_made:FnScope ["_law_due","_law_shafts","_law_treadles","_law_threading","_law_ties","_law_treading","_law_warp","_law_weft"] ["_law_due"] (Ah Cb):=⟨rfl,rfl,rfl,by decide +kernel,rfl,by decide +kernel,by decide +kernel⟩
theorem FV {f:Addr} {fd:FuncData} (F:Fun K "_law_made" "_law_made" Cb f fd) (T:Txt K mg c) (c__law_copied:An P w K mg base "_law_copied" (4+1) ["_law_thing"] (A2 4)) (m_Draft:GM P w K mg base "Draft" c.Draft 6 ["self","shafts","treadles","threading","ties","treading","warp","weft"] (A0 c)):FnOk P w K mg base CX0 8 f fd ["_law_due"] (Di c):=by
  refine F.ok sc__law_made (λ vs H Q E h=> ?_) (λ cdv A outer s H vs Q E hr h=> ?_)
  · obtain ⟨v,d,rfl,_⟩:=h;rfl
  · obtain ⟨v,d,rfl,rv,ok,k⟩:=h;refine ⟨_,(Ad (LF (Ac c__law_copied (hr.mono (by decide)) (Aa (pv 0) Ab)) (LR (K:=K) rfl (A4 (AN (i:=1) sc__law_made.nd rfl (Or.inl rfl)) (A4 (AN (i:=2) sc__law_made.nd rfl (Or.inl rfl)) (A4 (AN (i:=3) sc__law_made.nd rfl (Or.inl rfl)) (A4 (AN (i:=4) sc__law_made.nd rfl (Or.inl rfl)) (A4 (AN (i:=5) sc__law_made.nd rfl (Or.inl rfl)) (A4 (AN (i:=6) sc__law_made.nd rfl (Or.inl rfl)) (A4 (AN (i:=7) sc__law_made.nd rfl (Or.inl rfl)) HF)))))))))
      (Ae (Ak (Gt m_Draft hr (Aa (pv 1) (Aa (pv 2) (Aa (pv 3) (Aa (pv 4) (Aa (pv 5) (Aa (pv 6) (Aa (pv 7) Ab))))))))))),?_⟩
    walk_at "w";refine ⟨v,_,rfl,rv,λ H1 r s1 r1=> ?_⟩;obtain ⟨m,a,v0,v1,v2,v3,v4,v5,v6,em,rfl,ha,q0,q1,q2,q3,q4,q5,q6⟩:=HG r1;cases em;cases q0;cases q1;obtain ⟨b2,rfl,e2,_,_⟩:=FE q2;obtain ⟨b5,rfl,e5,_,_⟩:=Gk q5;obtain ⟨b6,rfl,e6,_,_⟩:=Gk q6;walk_at "w";refine Kc (SqT.of ha) rfl ?_;walk_at "w";refine Kx ⟨_,_,_,_,_,rfl,e2,q3.any,q4.any,e5,e6⟩ ok λ H2 x s2 hx D2=> ?_;exact k H2 x (s1.trans s2) (s1.free hx) D2
def isL (d:Dr) (p s:Nat):Bool:=(d.td.getD p []).any λ k=>decide (s∈d.ti.getD (k - 1) [])
theorem He {H:Hp} {F:Addr->Prop} {n:Nat} {v:V} {d:Dr} (r:Rp H F n v (dDr d)):∃ m a a2 v3 v4 a5 a6,n=m+1/\v= .ref a/\H a=some (.tup [nV d.sh,nV d.tr, .ref a2,v3,v4, .ref a5, .ref a6])/\H a2=some (.lst (d.th.map nV))/\Rp H F m v3 (dLL d.ti)/\Rp H F m v4 (dLL d.td)/\H a5=some (.lst (d.wa.map V.str))/\H a6=some (.lst (d.we.map V.str)):=by
  obtain ⟨m,a,v0,v1,v2,v3,v4,v5,v6,em,rfl,ha,q0,q1,q2,q3,q4,q5,q6⟩:=HG r;cases q0;cases q1;obtain ⟨b2,rfl,e2,_,_⟩:=FE q2;obtain ⟨b5,rfl,e5,_,_⟩:=Gk q5;obtain ⟨b6,rfl,e6,_,_⟩:=Gk q6;exact ⟨m,a,b2,v3,v4,b5,b6,em,rfl,ha,e2,q3,q4,e5,e6⟩
theorem Jc {H:Hp} {F:Addr->Prop} {n:Nat} {v:V} {ls:List (List Nat)} (r:Rp H F n v (dLL ls)):∃ a vs,v= .ref a/\H a=some (.lst vs)/\vs.length=ls.length/\vs.length<=100000/\∀ i,i<ls.length->∃ b,vs.getD i .non= .ref b/\H b=some (.lst ((ls.getD i []).map nV)):=by
  obtain ⟨m,a,vs,_,rfl,h,_,l,b,el⟩:=DG r;rw [List.length_map] at l;refine ⟨a,vs,rfl,h,l,b,λ i hi=> ?_⟩;have r:=el i (by simpa using hi);rw [Az dL ls i .non [] hi] at r;obtain ⟨b,eb,hb,_,_⟩:=FE r;exact ⟨b,eb,hb⟩
theorem Kg {ns:List Nat} (h:∀ n∈ns,1<=n) (i:Nat):(MM.mOf ns).testBit i=decide (i+1∈ns):=by
  rw [MM.mOf_bit,Bool.eq_iff_iff,List.any_eq_true,decide_eq_true_eq];constructor
  · rintro ⟨n,hn,e⟩;have e:=of_decide_eq_true e;have:=h n hn;rw [show i+1=n by omega];exact hn
  · intro q;exact ⟨i+1,q,by simp⟩
theorem Hd {α:Type} {l:List α} {f g:α->Bool} (h:∀ a∈l,f a=g a):l.any f=l.any g:=by
  induction l with
  | nil=>rfl
  | cons a l ih=>rw [List.any_cons,List.any_cons,h a (List.mem_cons_self ..),ih λ b hb=>h b (List.mem_cons_of_mem _ hb)]
theorem JH {d:Dr} (ok:DrOk d) {p:Nat} (hp:p<d.td.length) (i:Nat):(B8 d.ti (d.td.getD p [])).testBit i=isL d p (i+1):=by
  rw [FF];unfold isL;refine Hd λ k hk=> ?_;have hm:=(ok.pr _ (As (y:=[]) hp)).le k hk;have hk':k - 1<d.ti.length:=by have:=ok.il;omega
  rw [Az MM.mOf d.ti (k - 1) 0 [] hk'];exact Kg (λ n hn=>((ok.ir _ (As (y:=[]) hk')).le n hn).1) i
theorem Ja {d:Dr} (ok:DrOk d) {p:Nat} (hp:p<d.td.length):isL d p 0=false:=by
  unfold isL;rw [List.any_eq_false];intro k hk;have hm:=(ok.pr _ (As (y:=[]) hp)).le k hk;have hk':k - 1<d.ti.length:=by have:=ok.il;omega
  simp only [decide_eq_true_eq];intro q;have:=((ok.ir _ (As (y:=[]) hk')).le 0 q).1;omega
theorem Jp {th:List Nat} {s l e:Nat} (hl:l<2 ^ s) (he:e<th.length):(FL ((List.range s).map λ i=>Ct th (i+1)) l).testBit e=(decide (0<th.getD e 0)&&l.testBit (th.getD e 0 - 1)):=by
  unfold FL;rw [MM.uOf_bit,List.any_map,Bool.eq_iff_iff,List.any_eq_true];have hb:∀ k∈MM.nOf l,1<=k/\k - 1<s:=λ k hk=>by
    obtain ⟨m1,m2⟩:=(MM.nOf_mem l k).mp hk;refine ⟨m1,?_⟩;rcases Nat.lt_or_ge (k - 1) s with z | z
    · exact z
    · rw [Nat.testBit_lt_two_pow (Nat.lt_of_lt_of_le hl (Nat.pow_le_pow_right (by decide) z))] at m2;cases m2
  have hv:∀ k∈MM.nOf l,(((List.range s).map λ i=>Ct th (i+1)).getD (k - 1) 0).testBit e=decide (th.getD e 0=k):=λ k hk=>by
    have h:=hb k hk;rw [Iq (λ i=>Ct th (i+1)) h.2];unfold Ct;rw [MM.ofB_bit,show k - 1+1=k by omega];simp [he]
  constructor
  · rintro ⟨k,hk,q⟩;have q:(((List.range s).map λ i=>Ct th (i+1)).getD (k - 1) 0).testBit e=true:=q;rw [hv k hk] at q;have q:=of_decide_eq_true q;obtain ⟨m1,m2⟩:=(MM.nOf_mem l k).mp hk;rw [q,decide_eq_true (by omega),m2];rfl
  · intro q;simp only [Bool.and_eq_true,decide_eq_true_eq] at q;have hk:th.getD e 0∈MM.nOf l:=(MM.nOf_mem l _).mpr ⟨q.1,q.2⟩;refine ⟨_,hk,?_⟩;show (((List.range s).map λ i=>Ct th (i+1)).getD (th.getD e 0 - 1) 0).testBit e=true;rw [hv _ hk];simp
theorem HV {d:Dr} (ok:DrOk d) {p e:Nat} (hp:p<d.td.length) (he:e<d.th.length):((DC d).getD p 0).testBit e=isL d p (d.th.getD e 0):=by
  unfold DC;rw [Az (λ ks=>FL ((List.range d.sh).map λ i=>Ct d.th (i+1)) (B8 d.ti ks)) d.td p 0 [] hp,Jp (EI ok _) he];by_cases h:0<d.th.getD e 0
  · rw [JH ok hp,show d.th.getD e 0 - 1+1=d.th.getD e 0 by omega,decide_eq_true h];rfl
  · rw [decide_eq_false h,show d.th.getD e 0=0 by omega,Ja ok hp];rfl
abbrev sj (xs:List Str):Str:=Txt.join (Str.ofString "") xs
theorem Ef {a b:Str} (h:a.cps=b.cps):a=b:=by cases a;cases b;cases h;rfl
theorem Bz (a b:Str):(a++b).cps=a.cps++b.cps:=rfl
theorem J8 (xs:List Str):sj xs=Str.join (Str.ofString "") xs:=StrLaws.glued_eq_join _ _
theorem C4 (x:Str) (xs:List Str):sj (x::xs)=x++sj xs:=by
  rw [J8,J8];cases xs with
  | nil=>
    show x=x++Str.empty;refine Ef ?_;rw [Bz];show x.cps=x.cps++ #[];simp
  | cons y r=>
    show (x++Str.ofString "")++Str.join (Str.ofString "") (y::r)=x++Str.join (Str.ofString "") (y::r);refine Ef ?_;rw [Bz,Bz,Bz];show x.cps++ #[]++_=_;simp
theorem KZ (x:Str) (xs:List Str):sj (xs++[x])=sj xs++x:=by
  induction xs with
  | nil=>
    rw [List.nil_append,C4,J8];show x++Str.empty=Str.empty++x;refine Ef ?_;rw [Bz,Bz];show x.cps++ #[]= #[]++x.cps;simp
  | cons y r ih=>
    rw [List.cons_append,C4,ih,C4];refine Ef ?_;simp only [Bz,Array.append_assoc]
theorem JW {xs:List Str} (h:∀ x∈xs,x.length=1):(sj xs).length=xs.length:=by
  induction xs with
  | nil=>rfl
  | cons y r ih=>
    rw [C4];show (y++sj r).cps.size=_;rw [Bz,Array.size_append];have h1:y.cps.size=1:=h y (List.mem_cons_self ..);have h2:(sj r).cps.size=r.length:=ih λ x hx=>h x (List.mem_cons_of_mem _ hx);rw [h1,h2,List.length_cons];omega
def sgn (up:Nat->Bool) (wa:List Str) (t:Str) (b:Bool) (e:Nat):Str:=if (up e != b)=true then wa.getD e Str.empty else t
def Bj (up:Nat->Bool) (wa:List Str) (t:Str) (b:Bool) (n:Nat):List Str:=(List.range n).map (sgn up wa t b)
def AR (up:Nat->Bool) (wa:List Str) (t:Str) (b:Bool) (n:Nat):Str:=sj (if b=true then (Bj up wa t b n).reverse else Bj up wa t b n)
theorem Eg {up:Nat->Bool} {wa:List Str} {t:Str} {b:Bool} {n:Nat} (h:∀ x∈wa,x.length=1) (ht:t.length=1) (hn:n<=wa.length):∀ x∈Bj up wa t b n,x.length=1:=λ x hx=>by
  unfold Bj at hx;obtain ⟨e,he,rfl⟩:=List.mem_map.mp hx;unfold sgn;split
  · exact h _ (As (by have:=List.mem_range.mp he;omega))
  · exact ht
theorem GD {xs:List Str} (h:∀ x∈xs,x.length=1):(xs.map (·.length)).sum=xs.length:=by
  induction xs with
  | nil=>rfl
  | cons y r ih=>rw [List.map_cons,List.sum_cons,h y (List.mem_cons_self ..),ih λ x hx=>h x (List.mem_cons_of_mem _ hx),List.length_cons];omega
theorem Et (up:Nat->Bool) (wa:List Str) (t:Str) (b:Bool) (n:Nat):AR up wa t b (n+1)=if b=true then sgn up wa t b n++AR up wa t b n else AR up wa t b n++sgn up wa t b n:=by
  unfold AR Bj;rw [List.range_succ,List.map_append];cases b with
  | true=>
    simp only [if_true];rw [List.reverse_append];exact C4 _ _
  | false=>exact KZ _ _
theorem Bq {J:It} {g:TG} {σ0:L2.St} {H:Hp} {n:Nat} {st:Nat->L2.St} {te:TE} {Q:VK} {D:Addr} {G:Nat->Str} (S:SrcOk J g σ0 H n st) (hD:H D=none) (hn:n<=100000)
    (he:∀ i H' (R:VK),i<n->Same H H'->(∀ H3,Same H' H3->R (.str (G i)) H3)->te (st i) H' R)
    (hd:∀ H',Same H H'->H' D=some (.lst (((List.range n).map G).map V.str))->Q (.ref D) H'):CN J σ0 g Ip te Q H D:=by
  refine AA (m:=0) (G:=λ i=> .str (G i)) S hD hn (λ i H' R hi s k=>he i H' R hi s λ H3 s3=>k H3 _ s3 (.str _)) λ H' ys s hl r=> ?_;rw [Hb] at r;obtain ⟨b,eb,hb,fb,_⟩:=Gk r;cases eb;exact hd H' s hb
def DP (K:PySem.W.Frag):Sp:=λ vs H Q _=>∃ (r:Nat) (a:Addr) (wa:List Str) (t:Str),vs=[nV r, .ref a, .str t]/\SqT K H a (wa.map V.str)/\wa.length<=60/\(∀ x∈wa,x.length=1)/\t.length=1/\∀ H',Same H H'->Q (.str (AR r.testBit wa t false wa.length)) H'
abbrev CU:Stmt:=top 32
theorem Gw:FnScope ["row","warp","thrown"] ["row","warp","thrown"] (Ah CU):=⟨rfl,rfl,rfl,by decide +kernel,rfl,by decide +kernel,by decide +kernel⟩
theorem Gu {f:Addr} {fd:FuncData} (F:Fun K "seen_row" "seen_row" CU f fd) (T:Txt K mg c) (c_has_number:An P w K mg base "has_number" 2 ["mask","number"] Be):FnOk P w K mg base CX0 3 f fd ["row","warp","thrown"] (DP K):=by
  refine F.ok Gw (λ vs H Q E h=> ?_) (λ cdv A outer s H vs Q E hr h=> ?_)
  · obtain ⟨r,a,wa,t,rfl,_⟩:=h;rfl
  · obtain ⟨r,a,wa,t,rfl,sa,hl,h1,ht,k⟩:=h;refine ⟨_,(Ae (Ak (Lh (K:=K) PySem.F.plainAttrs_str PySem.F.slot_str_join PySem.F.type_str_join (L3 (K:=K)) AT (Aa (BH (K:=K) (EN (K:=K) rfl (T.own _ (by decide)) (Aa (pv 1) Ab)) (λ _ _ _ _=>Al) (λ _ _ _ _=>(EO (AV (Ac c_has_number hr (Aa (pv 2) (Aa (pv 0) Ab)))) (pv 1) (pv 3)))) Ab)))),?_⟩;walk_at "w";refine tyS ?_;walk_at "w";refine ⟨true,a,rfl,⟨_,sa⟩,λ D hD=> ?_⟩;refine Bq (G:=sgn r.testBit wa t false) (DD (tp:=true) sa rfl rfl) hD (by rw [List.length_map];omega) ?_ ?_
    · intro i H' R hi s kk;have hi':i<wa.length:=by simpa using hi
      rw [Bv hi];walk_at "w";refine ⟨r,i+1,rfl,by omega,by omega,?_⟩;walk_at "w";rw [show i+1 - 1=i by omega];refine GW (λ hb=> ?_) (λ hb=> ?_)
      · walk_at "w";have e:sgn r.testBit wa t false i=wa.getD i Str.empty:=by unfold sgn;rw [hb];rfl
        rw [<-e];exact kk H' (Same.refl _)
      · walk_at "w";have e:sgn r.testBit wa t false i=t:=by unfold sgn;rw [hb];rfl
        have kk2:=kk H' (Same.refl _);rw [e] at kk2;exact kk2
    · intro H' s hl2;rw [List.length_map] at hl2;walk_at "w";have one:=Eg (up:=r.testBit) (b:=false) h1 ht (Nat.le_refl _);refine ⟨_,D,Bj r.testBit wa t false wa.length,rfl,rfl,SqL.of hl2,?_,k H' s⟩;rw [GD one];have e:(Bj r.testBit wa t false wa.length).length=wa.length:=by unfold Bj;simp
      rw [e];show _+_*0<=_;omega
def CF (K:PySem.W.Frag):Sp:=λ vs H Q _=>∃ (r:Nat) (a:Addr) (wa:List Str) (t:Str),vs=[nV r, .ref a, .str t]/\SqT K H a (wa.map V.str)/\wa.length<=60/\(∀ x∈wa,x.length=1)/\t.length=1/\∀ H',Same H H'->Q (.str (AR r.testBit wa t true wa.length)) H'
abbrev BX:Stmt:=top 33
theorem sc_behind_row:FnScope ["row","warp","thrown","colours"] ["row","warp","thrown"] (Ah BX):=⟨rfl,rfl,rfl,by decide +kernel,rfl,by decide +kernel,by decide +kernel⟩
theorem E4 {f:Addr} {fd:FuncData} (F:Fun K "behind_row" "behind_row" BX f fd) (T:Txt K mg c) (c_has_number:An P w K mg base "has_number" 2 ["mask","number"] Be):FnOk P w K mg base CX0 3 f fd ["row","warp","thrown"] (CF K):=by
  refine F.ok sc_behind_row (λ vs H Q E h=> ?_) (λ cdv A outer s H vs Q E hr h=> ?_)
  · obtain ⟨r,a,wa,t,rfl,_⟩:=h;rfl
  · obtain ⟨r,a,wa,t,rfl,sa,hl,h1,ht,k⟩:=h;refine ⟨_,(Ad (IS (K:=K) (i:=3) sc_behind_row.nd rfl (Or.inl rfl) (EN (K:=K) rfl (T.own _ (by decide)) (Aa (pv 1) Ab)) (λ _ _ _ _=>Al) (λ _ _ _ _=>(EO (AV (Ac c_has_number hr (Aa (pv 2) (Aa (pv 0) Ab)))) (pv 3) (pv 1))))
      (Ae (Ak (G1 (K:=K) rfl (T.own _ (by decide)) AT (Aa (pv 3) Ab))))),?_⟩
    walk_at "w";refine ⟨true,a,rfl,⟨_,sa⟩,λ D hD=> ?_⟩;refine Bq (G:=sgn r.testBit wa t true) (DD (tp:=true) sa rfl rfl) hD (by rw [List.length_map];omega) ?_ ?_
    · intro i H' R hi s kk;have hi':i<wa.length:=by simpa using hi
      rw [Bv hi];walk_at "w";refine ⟨r,i+1,rfl,by omega,by omega,?_⟩;walk_at "w";rw [show i+1 - 1=i by omega];refine GW (λ hb=> ?_) (λ hb=> ?_)
      · walk_at "w";have e:sgn r.testBit wa t true i=t:=by unfold sgn;rw [hb];rfl
        have kk2:=kk H' (Same.refl _);rw [e] at kk2;exact kk2
      · walk_at "w";have e:sgn r.testBit wa t true i=wa.getD i Str.empty:=by unfold sgn;rw [hb];rfl
        rw [<-e];exact kk H' (Same.refl _)
    · intro H' s hl2;rw [List.length_map] at hl2;walk_at "w";have one:=Eg (up:=r.testBit) (b:=true) h1 ht (Nat.le_refl _);refine ⟨_,rfl,?_⟩;walk_at "w";refine ⟨D,_,rfl,SqL.of hl2,Bj r.testBit wa t true wa.length,rfl,?_,k H' s⟩;rw [GD one];have e:(Bj r.testBit wa t true wa.length).length=wa.length:=by unfold Bj;simp
      rw [e];show _+_*0<=_;omega
def EH (d:Dr) (b:Bool):List Str:=(List.range d.td.length).map λ p=>AR (λ e=>isL d p (d.th.getD e 0)) d.wa (d.we.getD p Str.empty) b d.th.length
theorem DT {f g:Nat->Bool} {wa:List Str} {t:Str} {b:Bool} {n:Nat} (h:∀ e,e<n->f e=g e):AR f wa t b n=AR g wa t b n:=by
  have e:Bj f wa t b n=Bj g wa t b n:=by
    unfold Bj;refine List.map_congr_left λ i hi=> ?_;unfold sgn;rw [h i (List.mem_range.mp hi)]
  unfold AR;rw [e]
def Ed (c:Cs) (b:Bool):Sp:=λ vs H Q _=>∃ x d,vs=[.ref x]/\DrAt c.Draft H x d/\DrOk d/\∀ H' p,Same H H'->H p=none->H' p=some (.lst ((EH d b).map V.str))->Q (.ref p) H'
abbrev GQ:Stmt:=top 34
theorem K9:FnScope ["draft"] ["draft"] (Ah GQ):=⟨rfl,rfl,rfl,by decide +kernel,rfl,by decide +kernel,by decide +kernel⟩
theorem Ke {f:Addr} {fd:FuncData} (F:Fun K "seen" "seen" GQ f fd) (T:Txt K mg c) (c_woven:An P w K mg base "woven" 6 ["draft"] (EK c)) (c_seen_row:An P w K mg base "seen_row" 3 ["row","warp","thrown"] (DP K)):FnOk P w K mg base CX0 7 f fd ["draft"] (Ed c false):=by
  refine F.ok K9 (λ vs H Q E h=> ?_) (λ cdv A outer s H vs Q E hr h=> ?_)
  · obtain ⟨x,d,rfl,_⟩:=h;rfl
  · obtain ⟨x,d,rfl,D0,ok,k⟩:=h;have D1:=D0;obtain ⟨dx,v1,v2,v3,v4,v5,h0,h1,h2,h3,h4,h5⟩:=D0;obtain ⟨a4,rfl,e4,b4⟩:=Dv h4;obtain ⟨a5,rfl,e5,b5⟩:=Dv h5;have hwl:(DC d).length=d.td.length:=by unfold DC;simp
    refine ⟨_,(Ae (Ak (BH (K:=K) (JY (K:=K) rfl (T.own _ (by decide)) (Aa (Ba (K:=K) (Ac c_woven hr (Aa (pv 0) Ab)) rfl) (Aa (Ba (K:=K) (pv 0) rfl) Ab))) (λ _ _ _ _=>Al) (λ _ _ _ _=>(Ac c_seen_row (hr.mono (by decide)) (Aa (pv 0) (Aa (Ba (K:=K) (pv 2) rfl) (Aa (pv 1) Ab)))))))),?_⟩;walk_at "w";refine ⟨x,d,rfl,D1,ok,λ H1 y s1 hy ⟨dy,ty,y1,y2⟩=> ?_⟩;walk_at "w";refine ⟨_,_,_,_,_,rfl,y1,T.kd_Cloth.cl,T.na_Cloth_rows,rfl,?_⟩;walk_at "w";refine ⟨_,_,_,_,_,rfl,s1 _ _ h0,T.kd_Draft.cl,T.na_Draft_weft,rfl,?_⟩;walk_at "w";refine ⟨true,true,ty,a5,rfl,⟨_,SqT.of y2⟩,⟨_,SqT.of (s1 _ _ e5)⟩,λ D hD=> ?_⟩;have p2:=ok.p2;refine Bq (G:=λ p=>AR (λ e=>isL d p (d.th.getD e 0)) d.wa (d.we.getD p Str.empty) false d.th.length) (J4 (t1:=true) (t2:=true) (SqT.of y2) (SqT.of (s1 _ _ e5)) (by have:=ok.fl;simp only [List.length_map];omega) rfl rfl) hD (by rw [List.length_map];omega) ?_ ?_
    · intro i H' R hi s kk;have hi':i<d.td.length:=by rw [List.length_map] at hi;omega
      have hw:i<d.we.length:=by have:=ok.fl;omega
      rw [AK hi,Bv (by simpa using hw)];walk_at "w";refine ⟨_,_,_,_,_,rfl,s _ _ (s1 _ _ h0),T.kd_Draft.cl,T.na_Draft_warp,rfl,?_⟩;walk_at "w";refine ⟨_,a4,d.wa,_,rfl,SqT.of (s _ _ (s1 _ _ e4)),by have:=ok.wl;have:=ok.h2;omega,λ z hz=>(ok.wc z hz).1,(ok.fc _ (As hw)).1,λ H3 s3=> ?_⟩;have e:AR ((DC d).getD i 0).testBit d.wa (d.we.getD i Str.empty) false d.wa.length=AR (λ e=>isL d i (d.th.getD e 0)) d.wa (d.we.getD i Str.empty) false d.th.length:=by
        rw [ok.wl];exact DT λ e he=>HV ok hi' he
      rw [e];exact kk H3 s3
    · intro H' s hl2;rw [List.length_map,hwl] at hl2;exact k H' D (s1.trans s) (s1.free hD) hl2
abbrev BC:Stmt:=top 35
theorem Ex:FnScope ["draft"] ["draft"] (Ah BC):=⟨rfl,rfl,rfl,by decide +kernel,rfl,by decide +kernel,by decide +kernel⟩
theorem ES {f:Addr} {fd:FuncData} (F:Fun K "seen_behind" "seen_behind" BC f fd) (T:Txt K mg c) (c_woven:An P w K mg base "woven" 6 ["draft"] (EK c)) (c_behind_row:An P w K mg base "behind_row" 3 ["row","warp","thrown"] (CF K)):FnOk P w K mg base CX0 7 f fd ["draft"] (Ed c true):=by
  refine F.ok Ex (λ vs H Q E h=> ?_) (λ cdv A outer s H vs Q E hr h=> ?_)
  · obtain ⟨x,d,rfl,_⟩:=h;rfl
  · obtain ⟨x,d,rfl,D0,ok,k⟩:=h;have D1:=D0;obtain ⟨dx,v1,v2,v3,v4,v5,h0,h1,h2,h3,h4,h5⟩:=D0;obtain ⟨a4,rfl,e4,b4⟩:=Dv h4;obtain ⟨a5,rfl,e5,b5⟩:=Dv h5;have hwl:(DC d).length=d.td.length:=by unfold DC;simp
    refine ⟨_,(Ae (Ak (BH (K:=K) (JY (K:=K) rfl (T.own _ (by decide)) (Aa (Ba (K:=K) (Ac c_woven hr (Aa (pv 0) Ab)) rfl) (Aa (Ba (K:=K) (pv 0) rfl) Ab))) (λ _ _ _ _=>Al) (λ _ _ _ _=>(Ac c_behind_row (hr.mono (by decide)) (Aa (pv 0) (Aa (Ba (K:=K) (pv 2) rfl) (Aa (pv 1) Ab)))))))),?_⟩;walk_at "w";refine ⟨x,d,rfl,D1,ok,λ H1 y s1 hy ⟨dy,ty,y1,y2⟩=> ?_⟩;walk_at "w";refine ⟨_,_,_,_,_,rfl,y1,T.kd_Cloth.cl,T.na_Cloth_rows,rfl,?_⟩;walk_at "w";refine ⟨_,_,_,_,_,rfl,s1 _ _ h0,T.kd_Draft.cl,T.na_Draft_weft,rfl,?_⟩;walk_at "w";refine ⟨true,true,ty,a5,rfl,⟨_,SqT.of y2⟩,⟨_,SqT.of (s1 _ _ e5)⟩,λ D hD=> ?_⟩;have p2:=ok.p2;refine Bq (G:=λ p=>AR (λ e=>isL d p (d.th.getD e 0)) d.wa (d.we.getD p Str.empty) true d.th.length) (J4 (t1:=true) (t2:=true) (SqT.of y2) (SqT.of (s1 _ _ e5)) (by have:=ok.fl;simp only [List.length_map];omega) rfl rfl) hD (by rw [List.length_map];omega) ?_ ?_
    · intro i H' R hi s kk;have hi':i<d.td.length:=by rw [List.length_map] at hi;omega
      have hw:i<d.we.length:=by have:=ok.fl;omega
      rw [AK hi,Bv (by simpa using hw)];walk_at "w";refine ⟨_,_,_,_,_,rfl,s _ _ (s1 _ _ h0),T.kd_Draft.cl,T.na_Draft_warp,rfl,?_⟩;walk_at "w";refine ⟨_,a4,d.wa,_,rfl,SqT.of (s _ _ (s1 _ _ e4)),by have:=ok.wl;have:=ok.h2;omega,λ z hz=>(ok.wc z hz).1,(ok.fc _ (As hw)).1,λ H3 s3=> ?_⟩;have e:AR ((DC d).getD i 0).testBit d.wa (d.we.getD i Str.empty) true d.wa.length=AR (λ e=>isL d i (d.th.getD e 0)) d.wa (d.we.getD i Str.empty) true d.th.length:=by
        rw [ok.wl];exact DT λ e he=>HV ok hi' he
      rw [e];exact kk H3 s3
    · intro H' s hl2;rw [List.length_map,hwl] at hl2;exact k H' D (s1.trans s) (s1.free hD) hl2
def CC:Sp:=λ vs H Q _=>∃ v d,∃ e p:Nat,vs=[v,nV e,nV p]/\Rp H FT 3 v (dDr d)/\DrOk d/\p<d.td.length/\e<d.th.length/\∀ H',Same H H'->Q (.bl (isL d p (d.th.getD e 0))) H'
abbrev BZ:Stmt:=top 52
theorem sc__law_is_up:FnScope ["_law_due","_law_end","_law_pick","_law_treadle"] ["_law_due","_law_end","_law_pick"] (Ah BZ):=⟨rfl,rfl,rfl,by decide +kernel,rfl,by decide +kernel,by decide +kernel⟩
theorem E9 {f:Addr} {fd:FuncData} (F:Fun K "_law_is_up" "_law_is_up" BZ f fd) (T:Txt K mg c):FnOk P w K mg base CX0 1 f fd ["_law_due","_law_end","_law_pick"] CC:=by
  refine F.ok sc__law_is_up (λ vs H Q E h=> ?_) (λ cdv A outer s H vs Q E hr h=> ?_)
  · obtain ⟨v,d,e,p,rfl,_⟩:=h;rfl
  · obtain ⟨v,d,e,p,rfl,rv,ok,hp,he,k⟩:=h;obtain ⟨m,a,a2,v3,v4,a5,a6,em,rfl,ha,e2,r3,r4,e5,e6⟩:=He rv;obtain ⟨a3,vs3,rfl,e3,l3,b3,el3⟩:=Jc r3;obtain ⟨a4,vs4,rfl,e4,l4,b4,el4⟩:=Jc r4;obtain ⟨b,eb,hb⟩:=el4 p hp;refine ⟨_,(Ad (DB PassesOwn.never rfl (Bk (K:=K) (AY (Cz (K:=K)) (AY (DS (K:=K)) (pv 0) Af (λ _ _=>rfl)) (pv 2) (λ _ _=>rfl))) (AN (i:=3) sc__law_is_up.nd rfl (Or.inl rfl)) (Ae (BA (BY (NJ (K:=K)) (AY (Cz (K:=K)) (AY (DS (K:=K)) (pv 0) Af (λ _ _=>rfl)) (pv 1) (λ _ _=>rfl)) (AY (Cz (K:=K)) (AY (DS (K:=K)) (pv 0) Af (λ _ _=>rfl)) (Am Eh (pv 3) Af) (λ _ _=>rfl)) (by with_unfolding_all rfl)) (Ae (Ak De)) AQ)))
      (Ae (Ak De))),?_⟩
    walk_at "w";refine Cd (v:= .ref a4) (SqT.of ha) (AM (j:=4) rfl) ?_;walk_at "w";refine BD (SqL.of e4) (Do rfl (by omega)) ?_;rw [eb];refine ⟨b,rfl,⟨_,SqL.of hb⟩,Cq (HL (SqL.of hb)) (λ i σ H3=>∃ x,σ=[some (.ref a),some (nV e),some (nV p),x]/\Same H H3/\∀ j,j<i->¬ d.th.getD e 0∈d.ti.getD ((d.td.getD p []).getD j 0 - 1) []) ⟨_,rfl,Same.refl _,λ j hj=>by omega⟩ (λ i σ H3 ⟨_,_,s,_⟩=>s) ?_ ?_⟩
    · rintro i σ H' H3 hi ⟨x,rfl,s',no⟩ s3;have hi':i<(d.td.getD p []).length:=by simpa using hi
      have sH:=s'.trans s3;have hm:=(ok.pr _ (As (y:=[]) hp)).le _ (As (y:=0) hi');have hk:(d.td.getD p []).getD i 0 - 1<d.ti.length:=by have:=ok.il;omega
      obtain ⟨b',eb',hb'⟩:=el3 _ hk;rw [AK hi];walk_at "w";refine Cd (v:= .ref a2) (SqT.of (sH _ _ ha)) (AM (j:=2) rfl) ?_;walk_at "w";refine BD (SqL.of (sH _ _ e2)) (EA (by omega) (by omega)) ?_;walk_at "w";refine Cd (v:= .ref a3) (SqT.of (sH _ _ ha)) (AM (j:=3) rfl) ?_;walk_at "w";refine BD (SqL.of (sH _ _ e3)) (Do (j:=(d.td.getD p []).getD i 0 - 1) (by omega) (by omega)) ?_;rw [eb',Int.toNat_natCast];refine LH (tp:=false) (SqL.of (sH _ _ hb')) ?_;walk_at "w";refine Js (λ hs=> ?_) (λ hs=> ?_)
      · walk_at "w";refine CA ?_ (k H3 sH);unfold isL;symm;rw [List.any_eq_true];exact ⟨_,As (y:=0) hi',by simpa using hs⟩
      · walk_at "w";refine ⟨_,rfl,sH,λ j hj=> ?_⟩;rcases Nat.lt_or_ge j i with z | z
        · exact no j z
        · have:j=i:=by omega
          subst this;exact hs
    · rintro σ H3 ⟨x,rfl,s3,no⟩;walk_at "w";refine CA ?_ (k H3 s3);unfold isL;symm;rw [List.any_eq_false];intro k hk;obtain ⟨j,hj,rfl⟩:=List.getElem_of_mem hk;have:=no j (by simpa using hj);rw [Hz hj] at this;simpa using this
def Df:Sp:=λ vs H Q _=>∃ v d,∃ p:Nat,∃ b:Bool,vs=[v,nV p, .bl b]/\Rp H FT 3 v (dDr d)/\DrOk d/\p<d.td.length/\∀ H',Same H H'->Q (.str (AR (λ e=>isL d p (d.th.getD e 0)) d.wa (d.we.getD p Str.empty) b d.th.length)) H'
abbrev Cc:Stmt:=top 53
theorem sc__law_line:FnScope ["_law_due","_law_pick","_law_is_behind","_law_found","_law_end","_law_sign"] ["_law_due","_law_pick","_law_is_behind"] (Ah Cc):=⟨rfl,rfl,rfl,by decide +kernel,rfl,by decide +kernel,by decide +kernel⟩
theorem FS {f:Addr} {fd:FuncData} (F:Fun K "_law_line" "_law_line" Cc f fd) (T:Txt K mg c) (c__law_is_up:An P w K mg base "_law_is_up" 1 ["_law_due","_law_end","_law_pick"] CC):FnOk P w K mg base CX0 2 f fd ["_law_due","_law_pick","_law_is_behind"] Df:=by
  refine F.ok sc__law_line (λ vs H Q E h=> ?_) (λ cdv A outer s H vs Q E hr h=> ?_)
  · obtain ⟨v,d,p,b,rfl,_⟩:=h;rfl
  · obtain ⟨v,d,p,b,rfl,rv,ok,hp,k⟩:=h;obtain ⟨m,a,a2,v3,v4,a5,a6,em,rfl,ha,e2,r3,r4,e5,e6⟩:=He rv;have n2:=ok.h2;have hw:p<d.we.length:=by have:=ok.fl;omega
    have t1:=(ok.fc _ (As (y:=Str.empty) hw)).1;have w1:∀ x∈d.wa,x.length=1:=λ z hz=>(ok.wc z hz).1;refine ⟨_,(Ad (AE (i:=3) sc__law_line.nd rfl (Or.inl rfl) AT)
      (Ad (DB PassesOwn.never rfl (Br rfl (T.own _ (by decide)) (Aa (Ai (Ca (K:=K)) rfl (T.own _ (by decide)) boot_len (Aa (AY (DS (K:=K)) (pv 0) Af (λ _ _=>rfl)) Ab)) Ab)) (AN (i:=4) sc__law_line.nd rfl (Or.inl rfl)) (Ad (AE (i:=5) sc__law_line.nd rfl (Or.inl rfl) (AY (Cz (K:=K)) (AY (DS (K:=K)) (pv 0) Af (λ _ _=>rfl)) (pv 1) (λ _ _=>rfl)))
      (Ad (BA (BY Hw (Ac c__law_is_up hr (Aa (pv 0) (Aa (pv 4) (Aa (pv 1) Ab)))) (pv 2) (Bh _)) (Ae (AE (i:=5) sc__law_line.nd rfl (Or.inl rfl) (AY (Cz (K:=K)) (AY (DS (K:=K)) (pv 0) Af (λ _ _=>rfl)) (pv 4) (λ _ _=>rfl)))) AQ)
      (Ae (AE (i:=3) sc__law_line.nd rfl (Or.inl rfl) (EO (AV (pv 2)) (Am Ek (pv 5) (pv 3)) (Am Ek (pv 3) (pv 5))))))))
      (Ae (Ak (pv 3))))),?_⟩
    walk_at "w";refine Cd (v:= .ref a2) (SqT.of ha) (AM (j:=2) rfl) ?_;walk_at "w";refine Bo (SqL.of e2) ?_;walk_at "w";refine ⟨_,rfl,by omega,by rw [List.length_map];omega,?_⟩;rw [Int.toNat_natCast,List.length_map];refine Cq Fq (λ i σ H3=>∃ x y,σ=[some (.ref a),some (nV p),some (.bl b),some (.str (AR (λ e=>isL d p (d.th.getD e 0)) d.wa (d.we.getD p Str.empty) b i)),x,y]/\Same H H3) ⟨none,none,?_,Same.refl _⟩ (λ i σ H3 ⟨_,_,_,s⟩=>s) ?_ ?_
    · cases b <;> rfl
    · rintro i σ H' H3 hi ⟨x,y,rfl,s'⟩ s3;have sH:=s'.trans s3;have hiw:i<d.wa.length:=by have:=ok.wl;omega
      walk_at "w";refine Cd (v:= .ref a6) (SqT.of (sH _ _ ha)) (AM (j:=6) rfl) ?_;walk_at "w";refine BD (v:= .str (d.we.getD p Str.empty)) (SqL.of (sH _ _ e6)) ?_ ?_
      · rw [Do (j:=p) rfl (by simpa using hw),Bv (by simpa using hw)]
      walk_at "v";have one:∀ j,j<=i->(AR (λ e=>isL d p (d.th.getD e 0)) d.wa (d.we.getD p Str.empty) b j).length<=60:=λ j hj=>by
        have o1:=Eg (up:=λ e=>isL d p (d.th.getD e 0)) (b:=b) (n:=j) w1 t1 (by omega);have ll:(Bj (λ e=>isL d p (d.th.getD e 0)) d.wa (d.we.getD p Str.empty) b j).length=j:=by unfold Bj;simp
        unfold AR;cases b with
        | true=>
          rw [if_pos rfl,JW λ x hx=>o1 x (List.mem_reverse.mp hx),List.length_reverse,ll];omega
        | false=>
          rw [if_neg (by simp),JW o1,ll];omega
      have sg1:(sgn (λ e=>isL d p (d.th.getD e 0)) d.wa (d.we.getD p Str.empty) b i).length=1:=by
        unfold sgn;split
        · exact w1 _ (As hiw)
        · exact t1
      refine ifJ (λ σ' H4=>∃ z,σ'=[some (.ref a),some (nV p),some (.bl b),some (.str (AR (λ e=>isL d p (d.th.getD e 0)) d.wa (d.we.getD p Str.empty) b i)),z,some (.str (sgn (λ e=>isL d p (d.th.getD e 0)) d.wa (d.we.getD p Str.empty) b i))]/\Same H H4) ?_ (λ key=> ?_)
      · rintro σ' H4 ⟨z,rfl,s4⟩;walk_at "w";refine GW (λ hb=> ?_) (λ hb=> ?_)
        · walk_at "w";refine ⟨_,_,rfl,rfl,?_,?_⟩
          · have:=one i (Nat.le_refl _);exact Nat.le_trans (by omega:_<=100) (by decide)
          walk_at "w";have e:=Et (λ e=>isL d p (d.th.getD e 0)) d.wa (d.we.getD p Str.empty) b i;rw [if_pos hb] at e;rw [<-e];exact ⟨_,_,rfl,s4⟩
        · walk_at "w";refine ⟨_,_,rfl,rfl,?_,?_⟩
          · have:=one i (Nat.le_refl _);exact Nat.le_trans (by omega:_<=100) (by decide)
          walk_at "w";have e:=Et (λ e=>isL d p (d.th.getD e 0)) d.wa (d.we.getD p Str.empty) b i;rw [if_neg (by rw [hb];simp)] at e;rw [<-e];exact ⟨_,_,rfl,s4⟩
      · walk_at "w";refine ⟨_,d,i,p,rfl,rv.same sH,ok,hp,hi,λ H4 s4=> ?_⟩;walk_at "w";have sH4:=sH.trans s4;refine GW (λ hb=> ?_) (λ hb=> ?_)
        · walk_at "w";refine Cd (v:= .ref a5) (SqT.of (sH4 _ _ ha)) (AM (j:=5) rfl) ?_;walk_at "w";refine BD (v:= .str (d.wa.getD i Str.empty)) (SqL.of (sH4 _ _ e5)) ?_ ?_
          · rw [Do (j:=i) rfl (by simpa using hiw),Bv (by simpa using hiw)]
          refine FY ?_;have e:sgn (λ e=>isL d p (d.th.getD e 0)) d.wa (d.we.getD p Str.empty) b i=d.wa.getD i Str.empty:=by
            unfold sgn;rw [if_pos];have hb:(!decide (isL d p (d.th.getD i 0)=b))=true:=hb;have hb':¬ isL d p (d.th.getD i 0)=b:=λ z=>by
              rw [decide_eq_true z] at hb;cases hb
            dsimp only;exact bne_iff_ne.mpr hb'
          rw [<-e];exact key _ _ ⟨_,rfl,sH4⟩
        · refine FP ?_;have e:sgn (λ e=>isL d p (d.th.getD e 0)) d.wa (d.we.getD p Str.empty) b i=d.we.getD p Str.empty:=by
            unfold sgn;rw [if_neg];have hb:(!decide (isL d p (d.th.getD i 0)=b))=false:=hb;have hb':isL d p (d.th.getD i 0)=b:=by
              rcases Decidable.em (isL d p (d.th.getD i 0)=b) with z | z
              · exact z
              · rw [decide_eq_false z] at hb;cases hb
            dsimp only;rw [hb'];cases b <;> decide
          have kk:=λ z=>key _ H4 ⟨z,rfl,sH4⟩;rw [e] at kk;exact kk _
    · rintro σ H3 ⟨x,y,rfl,s3⟩;walk_at "w";exact k H3 s3
abbrev IZ:Stmt:=top 54
theorem sc_law:FnScope ["_law_script","_law_due","_law_draft_here","_law_front","_law_rear","_law_turn","_law_found"] ["_law_script"] (Ah IZ):=⟨rfl,rfl,rfl,by decide +kernel,rfl,by decide +kernel,by decide +kernel⟩
theorem LL {f:Addr} {fd:FuncData} (F:Fun K "law" "law" IZ f fd) (T:Txt K mg c) (c__law_draft:An P w K mg base "_law_draft" 2 ["_law_script","_law_most"] (CI K)) (c__law_made:An P w K mg base "_law_made" 8 ["_law_due"] (Di c)) (c__law_line:An P w K mg base "_law_line" 2 ["_law_due","_law_pick","_law_is_behind"] Df) (c_seen:An P w K mg base "seen" 7 ["draft"] (Ed c false)) (c_seen_behind:An P w K mg base "seen_behind" 7 ["draft"] (Ed c true)) (c__law_same:An P w K mg base "_law_same" (4+1) ["_law_found","_law_due"] (Bm 4)) (d_Draft_told:Fo P w K mg base c.Draft "told" 1 ["self"] (CB c)):FnOk P w K mg base CX0 9 f fd ["_law_script"] (Hy K):=by
  refine F.ok sc_law (λ vs H Q E h=> ?_) (λ cdv A outer s H vs Q E hr h=> ?_)
  · obtain ⟨a,ns,rfl,_⟩:=h;rfl
  · obtain ⟨a,ns,rfl,sa,hl,k⟩:=h;refine ⟨_,(Ad (AE (i:=1) sc_law.nd rfl (Or.inr rfl) (Ac c__law_draft (hr.mono (by decide)) (Aa (pv 0) (Aa Af Ab))))
      (Ad (AE (i:=2) sc_law.nd rfl (Or.inl rfl) (Ac c__law_made hr (Aa (pv 1) Ab)))
      (Ad (Bt (i:=3) sc_law.nd rfl (Or.inl rfl) (Br rfl (T.own _ (by decide)) (Aa (Ai (Ca (K:=K)) rfl (T.own _ (by decide)) boot_len (Aa (AY (DS (K:=K)) (pv 1) Af (λ _ _=>rfl)) Ab)) Ab)) (λ _ _ _ _=>Al) (λ _ _ _ _=>(Ac c__law_line (hr.mono (by decide)) (Aa (pv 1) (Aa (pv 0) (Aa De Ab))))))
      (Ad (Bt (i:=4) sc_law.nd rfl (Or.inl rfl) (Br rfl (T.own _ (by decide)) (Aa (Ai (Ca (K:=K)) rfl (T.own _ (by decide)) boot_len (Aa (AY (DS (K:=K)) (pv 1) Af (λ _ _=>rfl)) Ab)) Ab)) (λ _ _ _ _=>Al) (λ _ _ _ _=>(Ac c__law_line (hr.mono (by decide)) (Aa (pv 1) (Aa (pv 0) (Aa De Ab))))))
      (Ad (DB PassesOwn.never rfl (Br rfl (T.own _ (by decide)) (Aa Af Ab)) (AN (i:=5) sc_law.nd rfl (Or.inl rfl)) (Ad (AE (i:=6) sc_law.nd rfl (Or.inl rfl) (EJ (Aa (Ac c_seen (hr.mono (by decide)) (Aa (pv 2) Ab)) (Aa (Ac c_seen_behind (hr.mono (by decide)) (Aa (pv 2) Ab)) Ab))))
      (Ad (BA (Ce (AV (Ac c__law_same (hr.mono (by decide)) (Aa (pv 6) (Aa (EJ (Aa (pv 3) (Aa (pv 4) Ab))) Ab))))) (Ae (Ak De)) AQ)
      (Ad (AO (JK (K:=K) PySem.F.plainAttrs_list PySem.F.slot_list_clear PySem.F.type_list_clear Jh (AY (Cz (K:=K)) (pv 6) Af (λ _ _=>rfl))))
      (Ae (AO (Lh (K:=K) PySem.F.plainAttrs_list PySem.F.slot_list_append PySem.F.type_list_append Fn (AY (Cz (K:=K)) (pv 6) Af (λ _ _=>rfl)) (Aa AT Ab))))))))
      (Ae (Ak (Ac c__law_same (hr.mono (by decide)) (Aa (FG (pv 2) d_Draft_told (hr.mono (by decide))) (Aa (pv 1) Ab)))))))))),?_⟩
    walk_at "w";refine ⟨a,ns,16,rfl,sa,hl,by decide,by decide,λ H1 p d s1 hp rp ok=> ?_⟩;walk_at "w";replace rp:=rp.any;refine ⟨_,d,rfl,rp,ok,λ H2 x s2 hx D2=> ?_⟩;walk_at "w";replace rp:=rp.same s2;obtain ⟨m,b,a2,v3,v4,a5,a6,em,eb,hb,e2,r3,r4,e5,e6⟩:=He rp;cases eb;obtain ⟨a4,vs4,rfl,e4,l4,b4,el4⟩:=Jc r4;have p2:=ok.p2;refine Cd (v:= .ref a4) (SqT.of hb) (AM (j:=4) rfl) ?_;walk_at "w";refine Bo (SqL.of e4) ?_;walk_at "w";refine ⟨_,rfl,by omega,by omega,λ D3 hD3=> ?_⟩;rw [Int.toNat_natCast,l4];refine Bq (G:=λ p=>AR (λ e=>isL d p (d.th.getD e 0)) d.wa (d.we.getD p Str.empty) false d.th.length) (BR rfl) hD3 (by omega) ?_ ?_
    · intro i H' R hi s kk;walk_at "w";exact ⟨_,d,i,false,rfl,rp.same s,ok,hi,kk⟩
    intro H3 s3 hl3;replace hl3:H3 D3=some (.lst ((EH d false).map V.str)):=hl3;replace rp:=rp.same s3;walk_at "w";refine Cd (v:= .ref a4) (SqT.of (s3 _ _ hb)) (AM (j:=4) rfl) ?_;walk_at "w";refine Bo (SqL.of (s3 _ _ e4)) ?_;walk_at "w";refine ⟨_,rfl,by omega,by omega,λ D4 hD4=> ?_⟩;rw [Int.toNat_natCast,l4];refine Bq (G:=λ p=>AR (λ e=>isL d p (d.th.getD e 0)) d.wa (d.we.getD p Str.empty) true d.th.length) (BR rfl) hD4 (by omega) ?_ ?_
    · intro i H' R hi s kk;walk_at "w";exact ⟨_,d,i,true,rfl,rp.same s,ok,hi,kk⟩
    intro H4 s4 hl4;replace hl4:H4 D4=some (.lst ((EH d true).map V.str)):=hl4;replace rp:=rp.same s4;replace hl3:=s4 _ _ hl3;replace D2:=D2.same (s3.trans s4);have lf:∀ b,(EH d b).length<=60:=λ b=>by unfold EH;simp;exact p2
    walk_at "w";refine ⟨_,rfl,by decide,by decide,Cq (Fq (n:=2)) (λ i σ H5=>∃ u v,σ=[some (.ref a),some (.ref p),some (.ref x),some (.ref D3),some (.ref D4),u,v]/\Same H4 H5) ⟨_,_,rfl,Same.refl _⟩ (λ i σ H5 ⟨_,_,_,s⟩=>s) ?_ ?_⟩
    · rintro i σ H' H5 hi ⟨u,v,rfl,s'⟩ s5;replace s5:=s'.trans s5;walk_at "w";refine ⟨x,d,rfl,D2.same s5,ok,λ H6 q6 s6 hq6 h6=> ?_⟩;walk_at "w";have s46:=s5.trans s6;refine ⟨x,d,rfl,D2.same s46,ok,λ H7 q7 s7 hq7 h7=> ?_⟩;walk_at "w";intro pf hpf;walk_at "w";have n67:q6≠q7:=Ap h6 hq7;have s8:=Aj (o:=HO.lst [V.ref q6,V.ref q7]) hpf;have hf8:upd H7 pf (HO.lst [V.ref q6,V.ref q7]) pf=_:=Ag;have s48:=s46.trans (s7.trans s8);have h68:=s8 _ _ (s7 _ _ h6);have h78:=s8 _ _ h7;have n6f:pf≠q6:=Ne.symm (Ap (s7 _ _ h6) hpf);have n7f:pf≠q7:=Ne.symm (Ap h7 hpf);generalize upd H7 pf (HO.lst [V.ref q6,V.ref q7])=H8 at hf8 s48 h68 h78 ⊢;intro pd hpd;walk_at "w";have s9:=Aj (o:=HO.lst [V.ref D3,V.ref D4]) hpd;have hd9:upd H8 pd (HO.lst [V.ref D3,V.ref D4]) pd=_:=Ag;have s49:=s48.trans s9;generalize upd H8 pd (HO.lst [V.ref D3,V.ref D4])=H9 at s9 hd9 s49 ⊢;refine ⟨_,_, .lst [dS (EH d false),dS (EH d true)],rfl,Jt (s9 _ _ hf8) trivial (IJ (s9 _ _ h68) trivial (by have:=lf false;omega)) (IJ (s9 _ _ h78) trivial (by have:=lf true;omega)),Jt hd9 trivial (IJ (s49 _ _ hl3) trivial (by have:=lf false;omega)) (IJ (s49 _ _ hl4) trivial (by have:=lf true;omega)),λ HA sA=> ?_⟩;walk_at "w";have s8A:=s9.trans sA;have s4A:=s49.trans sA;refine BD (v:= .ref q6) (SqL.of (s8A _ _ hf8)) (AM (j:=0) rfl) ?_;refine tyL (SqL.of (s8A _ _ h68)) ?_;walk_at "w";refine MJ (s8A _ _ h68) ?_;walk_at "w";have hfC:upd HA q6 (HO.lst []) pf=_:=(Ao n6f).trans (s8A _ _ hf8);have h7C:upd HA q6 (HO.lst []) q7=_:=(Ao n67.symm).trans (s8A _ _ h78);have s4C:=Co (o:=HO.lst []) s4A (s5.free hq6);generalize upd HA q6 (HO.lst [])=HC at hfC h7C s4C ⊢;refine BD (v:= .ref q7) (SqL.of hfC) (AM (j:=1) rfl) ?_;refine tyL (SqL.of h7C) ?_;walk_at "w";refine MN h7C (by rw [List.length_map];have:=lf true;omega) ?_;walk_at "w";exact ⟨_,_,rfl,Co s4C (s46.free hq7)⟩
    · rintro σ H5 ⟨u,v,rfl,s5⟩;walk_at "w";obtain ⟨dx,v1,v2,v3',v4',v5,h0,_⟩:=id (D2.same s5);refine ⟨_,_,_,rfl,h0,rfl,?_⟩;walk_at "w";refine ⟨x,d,rfl,D2.same s5,λ H6 q s6 hq rq=> ?_⟩;walk_at "w";exact ⟨_,_,dDr d,rfl,rq.any,rp.same (s5.trans s6),λ H7 s7=>k H7⟩
end
end K14
namespace K14
open PySem L2 PySem.Spec PyProof.Rows
theorem all_mk {l:PySem.W.OpenLaw} {w:World} {K:PySem.W.Frag} {h:Heap} {mg:Str->Option Value} {fa:Addr} (X:K.In h) (G:h.Ns mainGlobals mg) (hfa:mg "law"=some (.ref fa))
    {C_Cloth C_Draft f0 f1 f2 f3 f4 f5 f6 f7 f8 f9 f10 f11 f12 f13 f14 f15 f16 f17 f18 f19 f20 f21 f22 f23 f24 f25 f26 f27 f28 f29 f30 f31 f32 f33 f34 f35 f36 f37 f38 f39:Addr} {d0 d1 d2 d3 d4 d5 d6 d7 d8 d9 d10 d11 d12 d13 d14 d15 d16 d17 d18 d19 d20 d21 d22 d23 d24 d25 d26 d27 d28 d29 d30 d31 d32 d33 d34 d35 d36 d37 d38 d39:FuncData}
    (T0:Txt K mg ⟨C_Cloth,C_Draft⟩)
    (D0:DefAt K mg "_law_same" BB ["_law_found","_law_due"] f0 d0)
    (D1:DefAt K mg "bit_of" EB ["number"] f1 d1)
    (D2:DefAt K mg "mask_of" Du ["numbers"] f2 d2)
    (D3:DefAt K mg "mask_to" Dw ["most"] f3 d3)
    (D4:DefAt K mg "has_number" BM ["mask","number"] f4 d4)
    (D5:DefAt K mg "numbers_of" BO ["mask"] f5 d5)
    (D6:DefAt K mg "union_of" C0 ["masks"] f6 d6)
    (D7:DefAt K mg "is_whole" CT ["thing"] f7 d7)
    (D8:DefAt K mg "is_among" CQ ["thing","least","most"] f8 d8)
    (D9:DefAt K mg "need_cloth" B6 ["ends","rows"] f9 d9)
    (j10:Mk K C_Cloth f10)
    (D10:FnA K "__init__" "Cloth.__init__" Bb ["self","ends","rows"] f10 d10)
    (D11:DefAt K mg "is_colour" Cm ["thing"] f11 d11)
    (D12:DefAt K mg "need" G0 ["holds","words"] f12 d12)
    (D13:DefAt K mg "is_list" Dz ["thing","least","most"] f13 d13)
    (D14:DefAt K mg "is_rising" Ck ["thing","most"] f14 d14)
    (D15:DefAt K mg "are_rising" BQ ["thing","most"] f15 d15)
    (D16:DefAt K mg "are_colours" BE ["thing","many"] f16 d16)
    (D17:DefAt K mg "need_draft" B2 ["shafts","treadles","threading","ties","treading","warp","weft"] f17 d17)
    (j18:Mk K C_Draft f18)
    (D18:FnA K "__init__" "Draft.__init__" Bc ["self","shafts","treadles","threading","ties","treading","warp","weft"] f18 d18)
    (j19:Meth K C_Draft "told" f19)
    (D19:FnA K "told" "Draft.told" BP ["self"] f19 d19)
    (j20:Meth K C_Draft "ends" f20)
    (D20:FnA K "ends" "Draft.ends" BV ["self"] f20 d20)
    (D21:DefAt K mg "lift_by" DH ["ties","treadles"] f21 d21)
    (D22:DefAt K mg "lifts_of" CY ["draft"] f22 d22)
    (D23:DefAt K mg "ends_through" Bw ["threading","shaft"] f23 d23)
    (D24:DefAt K mg "shaft_ends" BL ["threading","shafts"] f24 d24)
    (D25:DefAt K mg "row_by" Eo ["carried","lift"] f25 d25)
    (D26:DefAt K mg "woven" Gc ["draft"] f26 d26)
    (D27:DefAt K mg "_law_mixed" B5 ["_law_cell","_law_k"] f27 d27)
    (D28:DefAt K mg "_law_cells" B4 ["_law_script","_law_first"] f28 d28)
    (D29:DefAt K mg "_law_numbers" Bu ["_law_mask","_law_most"] f29 d29)
    (D30:DefAt K mg "_law_copied" Bd ["_law_thing"] f30 d30)
    (D31:DefAt K mg "_law_draft" BU ["_law_script","_law_most"] f31 d31)
    (D32:DefAt K mg "_law_made" Cb ["_law_due"] f32 d32)
    (D33:DefAt K mg "seen_row" CU ["row","warp","thrown"] f33 d33)
    (D34:DefAt K mg "behind_row" BX ["row","warp","thrown"] f34 d34)
    (D35:DefAt K mg "seen" GQ ["draft"] f35 d35)
    (D36:DefAt K mg "seen_behind" BC ["draft"] f36 d36)
    (D37:DefAt K mg "_law_is_up" BZ ["_law_due","_law_end","_law_pick"] f37 d37)
    (D38:DefAt K mg "_law_line" Cc ["_law_due","_law_pick","_law_is_behind"] f38 d38)
    (D39:DefAt K mg "law" IZ ["_law_script"] f39 d39)
    (hlb:∀ (s:Shared) (u:Value),BindsTo s d39 ⟨[u],[]⟩ [("_law_script",u)])
    : ∃ fd:FuncData,(∀ (s:Shared) (v:Value),BindsTo s fd ⟨[v],[]⟩ [("_law_script",v)])/\∀ base:Heap,K.In base->base.Ns mainGlobals mg->FnOk l.prog w K mg base CX0 9 fa fd ["_law_script"] (Hy K):=by
  cases hfa.symm.trans D39.at';have T:=T0;exact ⟨_,hlb,λ base _ _=>by
    have c_bit_of:=D1.call (Ik (P:=l.prog) (w:=w) (base:=base) D1.fn T);have c_mask_of:=D2.call (Hm (P:=l.prog) (w:=w) (base:=base) D2.fn T c_bit_of);have c_mask_to:=D3.call (GZ (P:=l.prog) (w:=w) (base:=base) D3.fn T);have c_has_number:=D4.call (E2 (P:=l.prog) (w:=w) (base:=base) D4.fn T c_bit_of);have c_numbers_of:=D5.call (EU (P:=l.prog) (w:=w) (base:=base) D5.fn T c_has_number);have c_union_of:=D6.call (Gg (P:=l.prog) (w:=w) (base:=base) D6.fn T);have c_is_whole:=D7.call (Gv (P:=l.prog) (w:=w) (base:=base) D7.fn T);have c_is_among:=D8.call (GH (P:=l.prog) (w:=w) (base:=base) D8.fn T c_is_whole);have c_need_cloth:=D9.call (Ff (P:=l.prog) (w:=w) (base:=base) D9.fn T c_is_among c_mask_to);have m_Cloth:GM l.prog w K mg base "Cloth" C_Cloth 4 ["self","ends","rows"] _:=⟨_,_,T.g_Cloth,j10,C9 (P:=l.prog) (w:=w) (base:=base) D10.fn T c_need_cloth,D10.bi⟩;have c_is_colour:=D11.call (F5 (P:=l.prog) (w:=w) (base:=base) D11.fn T);have c_need:=D12.call (Ko (P:=l.prog) (w:=w) (base:=base) D12.fn T);have c_is_list:=D13.call (G3 (P:=l.prog) (w:=w) (base:=base) D13.fn T c_is_among);have c_is_rising:=D14.call (F7 (P:=l.prog) (w:=w) (base:=base) D14.fn T c_is_among);have c_are_rising:=D15.call (E7 (P:=l.prog) (w:=w) (base:=base) D15.fn T c_is_rising);have c_are_colours:=D16.call (EG (P:=l.prog) (w:=w) (base:=base) D16.fn T c_is_list c_is_colour);have c_need_draft:=D17.call (E3 (P:=l.prog) (w:=w) (base:=base) D17.fn T c_need c_is_among c_is_list c_are_rising c_are_colours);have m_Draft:GM l.prog w K mg base "Draft" C_Draft 6 ["self","shafts","treadles","threading","ties","treading","warp","weft"] _:=⟨_,_,T.g_Draft,j18,C7 (P:=l.prog) (w:=w) (base:=base) D18.fn T c_need_draft,D18.bi⟩;have d_Draft_told:Fo l.prog w K mg base C_Draft "told" 1 ["self"] _:=⟨_,_,T.kd_Draft.cl,j19,Fj (P:=l.prog) (w:=w) (base:=base) D19.fn T,D19.bi⟩;have d_Draft_ends:Fo l.prog w K mg base C_Draft "ends" 1 ["self"] _:=⟨_,_,T.kd_Draft.cl,j20,E8 (P:=l.prog) (w:=w) (base:=base) D20.fn T,D20.bi⟩;have c_lift_by:=D21.call (G2 (P:=l.prog) (w:=w) (base:=base) D21.fn T c_union_of);have c_lifts_of:=D22.call (Gm (P:=l.prog) (w:=w) (base:=base) D22.fn T c_mask_of c_lift_by);have c_ends_through:=D23.call (DZ (P:=l.prog) (w:=w) (base:=base) D23.fn T c_mask_of);have c_shaft_ends:=D24.call (Fd (P:=l.prog) (w:=w) (base:=base) D24.fn T c_ends_through);have c_row_by:=D25.call (IE (P:=l.prog) (w:=w) (base:=base) D25.fn T c_numbers_of c_union_of);have c_woven:=D26.call (Jb (P:=l.prog) (w:=w) (base:=base) D26.fn T c_shaft_ends d_Draft_ends c_row_by c_lifts_of m_Cloth);have c__law_mixed:=D27.call (EY (P:=l.prog) (w:=w) (base:=base) D27.fn T);have c__law_cells:=D28.call (Fa (P:=l.prog) (w:=w) (base:=base) D28.fn T);have c__law_numbers:=D29.call (DW (P:=l.prog) (w:=w) (base:=base) D29.fn T);have c__law_draft:=D31.call (Fh (P:=l.prog) (w:=w) (base:=base) D31.fn T c__law_mixed c__law_cells c__law_numbers);have c__law_made:=D32.call (FV (P:=l.prog) (w:=w) (base:=base) D32.fn T (D30.call (Cf (P:=l.prog) (w:=w) (base:=base) D30 T 4)) m_Draft);have c_seen_row:=D33.call (Gu (P:=l.prog) (w:=w) (base:=base) D33.fn T c_has_number);have c_behind_row:=D34.call (E4 (P:=l.prog) (w:=w) (base:=base) D34.fn T c_has_number);have c_seen:=D35.call (Ke (P:=l.prog) (w:=w) (base:=base) D35.fn T c_woven c_seen_row);have c_seen_behind:=D36.call (ES (P:=l.prog) (w:=w) (base:=base) D36.fn T c_woven c_behind_row);have c__law_is_up:=D37.call (E9 (P:=l.prog) (w:=w) (base:=base) D37.fn T);have c__law_line:=D38.call (FS (P:=l.prog) (w:=w) (base:=base) D38.fn T c__law_is_up);exact LL D39.fn T c__law_draft c__law_made c__law_line c_seen c_seen_behind (D0.call (Dc (P:=l.prog) (w:=w) (base:=base) D0 T 4)) d_Draft_told
    ⟩
theorem walk {l:PySem.W.OpenLaw} {q:Program} {loose:List Str} {XP:(Str->Option Value)->Heap->Prop} {YP:World->Heap->Prop} {d:DefRec} {K:Params->PySem.W.Frag} (hn:l.most=some 63) (hdf:d.params.defaults=[])
    (hY:∀ (w:World) (h:Heap),YP w h->(K w.params).In h)
    (F:∀ (w:World) (mg:Str->Option Value) (fa:Addr) (h:Heap),(K w.params).In h->h.Ns mainGlobals mg->mg d.name=some (.ref fa)->
      ∃ fd:FuncData,(∀ (s:Shared) (v:Value),BindsTo s fd ⟨[v],[]⟩ [("_law_script",v)])/\∀ base:Heap,(K w.params).In base->base.Ns mainGlobals mg->FnOk l.prog w (K w.params) mg base CX0 9 fa fd ["_law_script"] (Hy (K w.params))):
    PySem.W.WalkO q loose XP YP l.row.toRowW d [] (λ f vs=>PySem.call f vs):=
  L2.walk_of (n:=63) (k:=9) (x:="_law_script") (CX:=λ _=>CX0) (sp:=λ w=>Hy (K w.params)) hn (by decide) hdf ⟨rfl,by decide,by decide⟩ hY F (λ _ _ a ns hl _ hS=>⟨a,ns,rfl,hS,hl,λ _=>rfl⟩) λ _ _ _ _ _ z=>z
end K14
open PySem PySem.W PyProof.Rows
set_option maxRecDepth 100000 in
set_option maxHeartbeats 0 in
theorem PySem.Challenge.cw_loomwright_k14_colours_seen_holds : PySem.Challenge.rw_loomwright_k14_colours_seen.Holds := by
  w_on
  refine PySem.W.holds_law K14.wsaid λ said=> ?_;refine PySem.W.holds_open (q:=K14.view) (loose:=[]) (Xt:=K14.Xt) (XP:=PySem.W.XL K14.view []) (Yf:=(PySem.W.kHook K14.frag K14.addrs K14.addrs_eq).obs) (Ya:=(PySem.W.kHook K14.frag K14.addrs K14.addrs_eq).val) (YP:=(PySem.W.kHook K14.frag K14.addrs K14.addrs_eq).says) (N:=K14.fuel) K14.left (PySem.W.kHook K14.frag K14.addrs K14.addrs_eq).of (PySem.W.kHook K14.frag K14.addrs K14.addrs_eq).keeps (λ s e=>PySem.W.xl_of s (Bool.and_eq_true_iff.mp e).1) PySem.W.XL.keeps (by rfl) (by rfl) (by rfl) (λ s e=>PySem.W.recFacts_of (Bool.and_eq_true_iff.mp e).2) (by rfl) (by first | assumption | decide +kernel) (by first | k_qdec | decide +kernel) ⟨rfl,rfl,rfl,rfl,rfl,by decide +kernel⟩ ?hw ?hc
  (case hw=>w_witness2)
  k_fill
  refine K14.walk (l:=PySem.Challenge.rw_loomwright_k14_colours_seen) rfl rfl (λ w h Y=>PySem.W.kIn_of Y) ?F
  case F=>
    intro w mg fa h KX G hmg;refine' K14.all_mk KX G hmg ?T ?_ ?_ ?_ ?_ ?_ ?_ ?_ ?_ ?_ ?_ ?_ ?_ ?_ ?_ ?_ ?_ ?_ ?_ ?_ ?_ ?_ ?_ ?_ ?_ ?_ ?_ ?_ ?_ ?_ ?_ ?_ ?_ ?_ ?_ ?_ ?_ ?_ ?_ ?_ ?_ ?_ ?_ ?_ ?_ ?_
    case T=>
      intros
      constructor
      all_goals try dsimp only
      all_goals try ((with_reducible refine' PySem.W.mg_of KX G ?_);k_is)
      all_goals first
        | ((with_reducible refine' L2.own_cons (PySem.W.mg_none_of KX G ?_) ?_) <;> (repeat' first | (with_reducible exact L2.own_nil) | (with_reducible refine' L2.own_cons (PySem.W.mg_none_of KX G ?_) ?_) | k_is))
        | ((with_reducible first | refine' L2.ci_mk (PySem.W.mg_of KX G ?_) | refine' L2.cs_mk (PySem.W.mg_of KX G ?_)) <;> first | k_is | skip)
        | with_reducible assumption
        | (refine' ⟨⟨?_,?_,?_,?_⟩,?_,?_,?_,?_⟩ <;> k_is)
        | ((with_reducible refine' L2.exc_mk ?_ ?_ ?_ ?_ ?_ ?_ ?_ ?_) <;> k_is)
        | (refine' ⟨?_,?_,?_⟩ <;> first | k_is | kernel_rfl)
        | (unfold L2.NoAttr;k_is)
        | k_is | k_exc | kts_exm | kit_is
    all_goals first
      | (refine' L2.def_mk (PySem.W.mg_of KX G ?_) (L2.fun_mk ?_ ?_ ?_) ?_ <;> first | k_is | exact L2.arg1 λ _=>rfl | exact L2.arg2 λ _ _=>rfl | exact L2.arg3 λ _ _ _=>rfl | exact L2.arg4 λ _ _ _ _=>rfl | exact L2.arg5 λ _ _ _ _ _=>rfl | exact L2.arg6 λ _ _ _ _ _ _=>rfl | exact L2.arg7 λ _ _ _ _ _ _ _=>rfl | exact L2.arg8 λ _ _ _ _ _ _ _ _=>rfl | exact L2.arg9 λ _ _ _ _ _ _ _ _ _=>rfl | skip)
      | (refine' L2.fnA_mk (L2.fun_mk ?_ ?_ ?_) ?_ <;> first | k_is | exact L2.arg1 λ _=>rfl | exact L2.arg2 λ _ _=>rfl | exact L2.arg3 λ _ _ _=>rfl | exact L2.arg4 λ _ _ _ _=>rfl | exact L2.arg5 λ _ _ _ _ _=>rfl | exact L2.arg6 λ _ _ _ _ _ _=>rfl | exact L2.arg7 λ _ _ _ _ _ _ _=>rfl | exact L2.arg8 λ _ _ _ _ _ _ _ _=>rfl | exact L2.arg9 λ _ _ _ _ _ _ _ _ _=>rfl | skip)
      | (refine' ⟨?_,?_,?_,?_⟩;all_goals first | k_is | kernel_rfl | skip)
      | (refine' ⟨?_,?_,?_⟩;all_goals first | k_is | kernel_rfl | skip)
      | k_is
      | exact λ s u=> .of_eq rfl
      | rfl | kernel_rfl | exact List.mem_cons_self | decide | skip
