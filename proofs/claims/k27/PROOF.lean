import PyProof.Rows.All
import Wide.All
import OpenK.AllK
import Wide.FinOn
import Lean
import PyProof.EqAt
import PyProof.EqKinds
import PyProof.TupleCall
import KE.KIntText
import PyProof.EnumFor
import PyProof.EnumMake
import PyProof.ZipIter
import PyProof.LayNew
import KE.KTurns
import PyProof.Rows.Range3
import KE.KRevSl
import KE.KDictList
import PyProof.Draws
import PyProof.Rows.RuleM_int
import PyProof.Rows.BitMore
import PyProof.NeKinds
import KE.KRevIter
import PyProof.JoinWalk
import KE.KTryMore
import PyProof.ExcArgs
import OpenK.KOwn
import PyProof.ExcBaseAll.ValueError
import KE.KLam
import KE.KNestM
import PyProof.AttrMissHeap
import KE.KDictOf
import PySem.Challenge.RW_loomwright_k27_whole_woven_at_once
set_option Elab.async false
set_option linter.all false
set_option maxRecDepth 100000
set_option genSizeOf false
set_option bootstrap.genMatcherCode false
set_option compiler.extract_closed false
set_option maxHeartbeats 4000000
noncomputable section
namespace L2
open PySem
def AC (s:Stmt) (j:Nat):Stmt:=match s with
  | .ClassDef _ _ _ body _ _ _ _ _ _ _=>body.getD j (.Pass ⟨0,0,0,0⟩)
  | _=> .Pass ⟨0,0,0,0⟩
def DV (s:Stmt):Arguments:=match s with
  | .FunctionDef _ a _ _ _ _ _ _ _ _=>a
  | _=>{ posonlyargs:=[],args:=[],vararg:=none,kwonlyargs:=[],kw_defaults:=[],kwarg:=none,defaults:=[] }
def Bk (s:Stmt):List Stmt:=match s with
  | .FunctionDef _ _ b _ _ _ _ _ _ _=>b
  | _=>[]
def Ah (s:Stmt):Scope:=match s with
  | .FunctionDef _ _ _ _ _ _ sc _ _ _=>sc
  | _=>{ kind:= .function,names:=[],isGenerator:=false,isCoroutine:=false }
end L2
namespace K27
open PySem
def top (i:Nat):Stmt:=PySem.Challenge.pw_loomwright_k27_whole_woven_at_once.main.body.getD i (.Pass ⟨0,0,0,0⟩)
end K27
namespace HX
open PySem PySem.W PySem.Calls PyProof.Rows
def topT (tb:String->Option Builtin) (p:Program) (w:World) (n₀:Nat) (ann:Option Value):Nat->SharedT->Thread->Option SharedT
  | 0,_,_=>none
  | n+1,s,t=>match through t with
    | true=>some s
    | false=>match stepOk n₀ ann t with
      | false=>none
      | true=>match stepT (denote tb) p w s t with
        | some (s',t')=>topT tb p w n₀ ann n s' t'
        | none=>none
theorem topT_of {tb:String->Option Builtin} {p:Program} {w:World} {n₀:Nat} {ann:Option Value}:∀ {n:Nat} {s s':SharedT} {t:Thread},topT tb p w n₀ ann n s t=some s'->topRun tb p w n₀ ann n s.abs t=some s'.abs
  | 0,_,_,_,h=>by cases h
  | n+1,s,s',t,h=>by
    unfold topT at h;unfold topRun;cases ht:through t with
    | true=>rw [ht] at h;cases h;rfl
    | false=>
      rw [ht] at h;cases hk:stepOk n₀ ann t with
      | false=>rw [hk] at h;cases h
      | true=>
        rw [hk] at h;cases hs:stepT (denote tb) p w s t with
        | none=>rw [hs] at h;cases h
        | some x=>
          obtain ⟨s2,t2⟩:=x;rw [hs] at h;dsimp only;rw [stepT_spec hs];exact topT_of h
def ofL:List Obj->Nat->BT->BT
  | [],_,t=>t
  | o::r,i,t=>ofL r (i+1) (t.ins i o)
def bootT (P:Params):BT:=ofL (boot_heap P).objs.toList 0 .nil
theorem left_run {p q:Program} {loose:List Str} {Xt:Shared->Bool} {α:Type} {Yf:Shared->α} {Ya:World->α} {N:Nat} {g0:Bool}
    (e:opening p=plainProg p.main.scope.names) (hN:Nat.ble 600 N=true) (f:∀ s,fenceModules? p s=some s)
    (hb:∀ P:Params,(absHeap (bootT P) 11 {},boot_drawn,(boot_heap P).isNs mainGlobals,(boot_heap P).objs.size,(boot_heap P).nsMap mainGlobals "__annotations__")=(boot_heap P,boot_drawn,true,11,some (.ref 6)))
    (run:∀ (w:World) (os:OsState),∃ s:Shared,topRun treeTable p w 11 (some (.ref 6)) N (⟨bootT w.params,11,{},Array.mk [],boot_drawn,boot_toks,os⟩:SharedT).abs (topStub p)=some s/\((staticsOk (importedModules p.main.body) (boot_heap w.params) s.heap&&namesBound p s.heap&&gensDone s&&laidKept (boot_heap w.params) s.heap),openSeen q loose (importedModules p.main.body) Xt g0 s,Yf s)=(true,openGood q loose,Ya w)):LeftO p q loose Xt Yf Ya N g0:=λ w=>by
  obtain ⟨⟨h,gs,d,k,os⟩,e1,e'⟩:=Option.map_eq_some_iff.mp (boot_open (p:=p) (N:=N) e hN f w);obtain ⟨rfl,rfl,rfl,rfl⟩:h=boot_heap w.params/\gs=Array.mk []/\d=boot_drawn/\k=boot_toks:=by simpa using e'
  have hb':=hb w.params;simp only [Prod.mk.injEq] at hb';obtain ⟨b1,_,b2,b3,b4⟩:=hb';obtain ⟨s,r,l⟩:=run w os;obtain ⟨l1,l2,l3⟩:_/\_/\_:=by simpa only [Prod.mk.injEq] using l
  have b0:(⟨bootT w.params,11,{},Array.mk [],boot_drawn,boot_toks,os⟩:SharedT).abs=⟨boot_heap w.params,Array.mk [],boot_drawn,boot_toks,os⟩:=by
    show (⟨absHeap (bootT w.params) 11 {},_,_,_,_⟩:Shared)=_;rw [b1]
  rw [b0] at r;have t:topFrom treeTable p w N ⟨boot_heap w.params,Array.mk [],boot_drawn,boot_toks,os⟩=some s:=by
    unfold topFrom;dsimp only;rw [b2,b3,b4];show Option.bind (topRun treeTable p w 11 (some (.ref 6)) N ⟨boot_heap w.params,Array.mk [],boot_drawn,boot_toks,os⟩ (topStub p)) _=_;rw [r];show (match staticsOk (importedModules p.main.body) (boot_heap w.params) s.heap&&namesBound p s.heap&&gensDone s&&laidKept (boot_heap w.params) s.heap with | true=>_ | false=>_)=_;rw [l1]
  unfold openEnds;rw [e1];show (topFrom treeTable p w N _).map _=_;rw [t];exact congrArg some (Prod.ext l2 l3)
theorem three {α β γ:Type} {a a':α} {b b':β} {c c':γ} (h:(a,c)=(a',c')) (k:b=b'):(a,b,c)=(a',b',c'):=by
  cases h;cases k;rfl
theorem hb (P:Params):(absHeap (bootT P) 11 {},boot_drawn,(boot_heap P).isNs mainGlobals,(boot_heap P).objs.size,(boot_heap P).nsMap mainGlobals "__annotations__")=(boot_heap P,boot_drawn,true,11,some (.ref 6)):=by kernel_rfl
end HX
namespace K27
open PySem L2 PySem.W PySem.Calls PyProof.Rows
abbrev Ob:=Params->Obj
abbrev dE (P:Params) (s:Str) (t:Tok) (v:Value):DictEntry:=⟨PyData.keyHash P s, .str s t,v⟩
abbrev dR (P:Params) (s:Str) (t:Tok) (a:Addr):DictEntry:=⟨PyData.keyHash P s, .str s t, .ref a⟩
abbrev tu (xs:Array Value):Obj:=⟨.type "tuple",none, .seq xs 0, #[]⟩
abbrev di (es:Array DictEntry) (n:Nat):Obj:=⟨.type "dict",none, .dict es n, #[]⟩
abbrev fo (n q:Str) (st:Stmt) (m:Str) (t:Tok) (c:Addr):Obj:=⟨.type "function",none, .func (fnOf n q (DV st) (Bk st) (Ah st) .none .none .none (.str m t) none (.ref c) .none), #[]⟩
abbrev co (n q:Str) (t:Tok) (l ac nl:Int) (a:Addr) (b:Bool) (r:Addr) (c d e:Value) (k:Int) (t4:Tok):Obj:=⟨.type "code",none, .fields #[.str n t, .str q (t+1), .str "/claim/cut.py" (t+2), .int l 0, .int ac 0, .int 0 0, .int 0 0, .int nl 0, .ref a, .bool b, .int 181 0, .ref r, .none,c,d,e, .int k 0, .int l 0, .str "/claim/cut.py" t4], #[]⟩
def o3:Ob:=λ P=>di #[dE P "__name__" 165 (.str "law_loomwright_k27_whole_woven_at_once" 586),dE P "__doc__" 166 .none,dE P "__package__" 167 .none,dE P "__loader__" 168 (.builtin "__main__.__loader__#opaque"),dE P "__spec__" 169 .none,dR P "__annotations__" 170 6,dR P "__builtins__" 171 4,dE P "__file__" 173 (.str "/claim/cut.py" 172),dE P "__cached__" 174 .none,dR P "_wall" 193 21,dE P "MOST_ENDS" 195 (.int 60 194),dE P "MOST_PICKS" 197 (.int 60 196),dR P "LoomError" 217 31,dR P "BadRow" 244 51,dR P "BadWord" 269 70,dR P "TooMany" 296 89,dR P "NotPlain" 323 108,dR P "NotGrown" 350 127,dR P "BadDraft" 366 139,dR P "BadCloth" 382 151,dR P "OutOfPlace" 398 163,dR P "bit_of" 407 172,dR P "mask_of" 416 179,dR P "mask_to" 423 186,dR P "has_number" 431 193,dR P "numbers_of" 437 198,dR P "union_of" 446 205,dR P "is_whole" 455 212,dR P "is_among" 464 219,dR P "need_cloth" 472 224,dR P "Cloth" 549 283,dR P "need_at_once" 557 292,dR P "up_ends" 567 299,dR P "whole_ends" 573 304,dR P "whole_row" 579 309,dR P "woven_at_once" 585 314,dR P "_law_mixed" 595 321,dR P "_law_kinds" 601 326,dR P "_law_whole" 607 331,dR P "_law_up" 616 338,dR P "_law_caught" 625 345,dR P "_law_due" 639 352,dR P "law" 645 357] 43
def o20:Ob:=λ P=>co "_wall" "_wall" 187 1 1 3 15 true 16 (.ref 17) (.ref 18) (.ref 19) 191 192
def o21:Ob:=λ P=>fo "_wall" "_wall" (top 0) "__main__" 164 20
def o22:Ob:=λ P=>tu #[(.type "ValueError")]
def o29:Ob:=λ P=>tu #[]
def o30:Ob:=λ P=>di #[dE P "__module__" 207 (.str "loomwright.errors" 198),dE P "__firstlineno__" 211 (.int 7 210),dR P "__static_attributes__" 212 29,dR P "__weakref__" 214 32,dE P "__doc__" 215 .none] 3
def o31:Ob:=λ P=>⟨(.type "type"),none,(.cls ⟨"LoomError",[(.type "ValueError")],[(.ref 31),(.type "ValueError"),(.type "Exception"),(.type "BaseException"),(.type "object")],30,"LoomError",true,[],[(.ref 51),(.ref 70),(.ref 89),(.ref 108),(.ref 127),(.ref 139),(.ref 151),(.ref 163)],false,none,false⟩), #[(some (.ref 22)),none,(some (.str "LoomError" 200)),(some (.str "LoomError" 208)),(some (.builtin "ValueError.__new__")),(some (.bool true))]⟩
def o32:Ob:=λ P=>⟨(.type "getset_descriptor"),none,(.fields #[(.str "__weakref__" 213),(.ref 31),(.builtin "ExceptionGroup.__weakref__"), .none]), #[]⟩
def o35:Ob:=λ P=>tu #[(.ref 31)]
def o47:Ob:=λ P=>co "__init__" "BadRow.__init__" 230 11 3 3 42 true 43 (.ref 44) (.ref 45) (.ref 46) 236 237
def o48:Ob:=λ P=>fo "__init__" "BadRow.__init__" (AC (top 5) 0) "loomwright.errors" 198 47
def o49:Ob:=λ P=>tu #[(.str "row" 239),(.str "word" 240)]
def o50:Ob:=λ P=>di #[dE P "__module__" 225 (.str "loomwright.errors" 198),dE P "__firstlineno__" 229 (.int 9 228),dR P "__init__" 238 48,dR P "__static_attributes__" 241 49,dE P "__doc__" 242 .none] 2
def o51:Ob:=λ P=>⟨(.type "type"),none,(.cls ⟨"BadRow",[(.ref 31)],[(.ref 51),(.ref 31),(.type "ValueError"),(.type "Exception"),(.type "BaseException"),(.type "object")],50,"BadRow",true,[],[],false,none,false⟩), #[(some (.ref 35)),none,(some (.str "BadRow" 218)),(some (.str "BadRow" 226)),(some (.builtin "ValueError.__new__")),(some (.bool true))]⟩
def o54:Ob:=λ P=>tu #[(.ref 31)]
def o66:Ob:=λ P=>co "__init__" "BadWord.__init__" 257 17 2 3 61 true 62 (.ref 63) (.ref 64) (.ref 65) 262 263
def o67:Ob:=λ P=>fo "__init__" "BadWord.__init__" (AC (top 6) 0) "loomwright.errors" 198 66
def o68:Ob:=λ P=>tu #[(.str "place" 265)]
def o69:Ob:=λ P=>di #[dE P "__module__" 252 (.str "loomwright.errors" 198),dE P "__firstlineno__" 256 (.int 15 255),dR P "__init__" 264 67,dR P "__static_attributes__" 266 68,dE P "__doc__" 267 .none] 2
def o70:Ob:=λ P=>⟨(.type "type"),none,(.cls ⟨"BadWord",[(.ref 31)],[(.ref 70),(.ref 31),(.type "ValueError"),(.type "Exception"),(.type "BaseException"),(.type "object")],69,"BadWord",true,[],[],false,none,false⟩), #[(some (.ref 54)),none,(some (.str "BadWord" 245)),(some (.str "BadWord" 253)),(some (.builtin "ValueError.__new__")),(some (.bool true))]⟩
def o73:Ob:=λ P=>tu #[(.ref 31)]
def o85:Ob:=λ P=>co "__init__" "TooMany.__init__" 282 22 3 3 80 true 81 (.ref 82) (.ref 83) (.ref 84) 288 289
def o86:Ob:=λ P=>fo "__init__" "TooMany.__init__" (AC (top 7) 0) "loomwright.errors" 198 85
def o87:Ob:=λ P=>tu #[(.str "many" 291),(.str "what" 292)]
def o88:Ob:=λ P=>di #[dE P "__module__" 277 (.str "loomwright.errors" 198),dE P "__firstlineno__" 281 (.int 20 280),dR P "__init__" 290 86,dR P "__static_attributes__" 293 87,dE P "__doc__" 294 .none] 2
def o89:Ob:=λ P=>⟨(.type "type"),none,(.cls ⟨"TooMany",[(.ref 31)],[(.ref 89),(.ref 31),(.type "ValueError"),(.type "Exception"),(.type "BaseException"),(.type "object")],88,"TooMany",true,[],[],false,none,false⟩), #[(some (.ref 73)),none,(some (.str "TooMany" 270)),(some (.str "TooMany" 278)),(some (.builtin "ValueError.__new__")),(some (.bool true))]⟩
def o92:Ob:=λ P=>tu #[(.ref 31)]
def On:Ob:=λ P=>co "__init__" "NotPlain.__init__" 309 28 3 3 99 true 100 (.ref 101) (.ref 102) (.ref 103) 315 316
def Pi:Ob:=λ P=>fo "__init__" "NotPlain.__init__" (AC (top 8) 0) "loomwright.errors" 198 104
def OG:Ob:=λ P=>tu #[(.str "number" 318),(.str "what" 319)]
def Pq:Ob:=λ P=>di #[dE P "__module__" 304 (.str "loomwright.errors" 198),dE P "__firstlineno__" 308 (.int 26 307),dR P "__init__" 317 105,dR P "__static_attributes__" 320 106,dE P "__doc__" 321 .none] 2
def Ol:Ob:=λ P=>⟨(.type "type"),none,(.cls ⟨"NotPlain",[(.ref 31)],[(.ref 108),(.ref 31),(.type "ValueError"),(.type "Exception"),(.type "BaseException"),(.type "object")],107,"NotPlain",true,[],[],false,none,false⟩), #[(some (.ref 92)),none,(some (.str "NotPlain" 297)),(some (.str "NotPlain" 305)),(some (.builtin "ValueError.__new__")),(some (.bool true))]⟩
def Oc:Ob:=λ P=>tu #[(.ref 31)]
def Oq:Ob:=λ P=>co "__init__" "NotGrown.__init__" 336 34 3 3 118 true 119 (.ref 120) (.ref 121) (.ref 122) 342 343
def N8:Ob:=λ P=>fo "__init__" "NotGrown.__init__" (AC (top 9) 0) "loomwright.errors" 198 123
def OD:Ob:=λ P=>tu #[(.str "column" 345),(.str "row" 346)]
def O7:Ob:=λ P=>di #[dE P "__module__" 331 (.str "loomwright.errors" 198),dE P "__firstlineno__" 335 (.int 32 334),dR P "__init__" 344 124,dR P "__static_attributes__" 347 125,dE P "__doc__" 348 .none] 2
def O5:Ob:=λ P=>⟨(.type "type"),none,(.cls ⟨"NotGrown",[(.ref 31)],[(.ref 127),(.ref 31),(.type "ValueError"),(.type "Exception"),(.type "BaseException"),(.type "object")],126,"NotGrown",true,[],[],false,none,false⟩), #[(some (.ref 111)),none,(some (.str "NotGrown" 324)),(some (.str "NotGrown" 332)),(some (.builtin "ValueError.__new__")),(some (.bool true))]⟩
def OZ:Ob:=λ P=>tu #[(.ref 31)]
def NJ:Ob:=λ P=>tu #[]
def O2:Ob:=λ P=>di #[dE P "__module__" 358 (.str "loomwright.errors" 198),dE P "__firstlineno__" 362 (.int 38 361),dR P "__static_attributes__" 363 137,dE P "__doc__" 364 .none] 2
def OU:Ob:=λ P=>⟨(.type "type"),none,(.cls ⟨"BadDraft",[(.ref 31)],[(.ref 139),(.ref 31),(.type "ValueError"),(.type "Exception"),(.type "BaseException"),(.type "object")],138,"BadDraft",true,[],[],false,none,false⟩), #[(some (.ref 130)),none,(some (.str "BadDraft" 351)),(some (.str "BadDraft" 359)),(some (.builtin "ValueError.__new__")),(some (.bool true))]⟩
def NU:Ob:=λ P=>tu #[(.ref 31)]
def Oa:Ob:=λ P=>tu #[]
def NS:Ob:=λ P=>di #[dE P "__module__" 374 (.str "loomwright.errors" 198),dE P "__firstlineno__" 378 (.int 40 377),dR P "__static_attributes__" 379 149,dE P "__doc__" 380 .none] 2
def OR:Ob:=λ P=>⟨(.type "type"),none,(.cls ⟨"BadCloth",[(.ref 31)],[(.ref 151),(.ref 31),(.type "ValueError"),(.type "Exception"),(.type "BaseException"),(.type "object")],150,"BadCloth",true,[],[],false,none,false⟩), #[(some (.ref 142)),none,(some (.str "BadCloth" 367)),(some (.str "BadCloth" 375)),(some (.builtin "ValueError.__new__")),(some (.bool true))]⟩
def O0:Ob:=λ P=>tu #[(.ref 31)]
def Os:Ob:=λ P=>tu #[]
def N0:Ob:=λ P=>di #[dE P "__module__" 390 (.str "loomwright.errors" 198),dE P "__firstlineno__" 394 (.int 42 393),dR P "__static_attributes__" 395 161,dE P "__doc__" 396 .none] 2
def O9:Ob:=λ P=>⟨(.type "type"),none,(.cls ⟨"OutOfPlace",[(.ref 31)],[(.ref 163),(.ref 31),(.type "ValueError"),(.type "Exception"),(.type "BaseException"),(.type "object")],162,"OutOfPlace",true,[],[],false,none,false⟩), #[(some (.ref 154)),none,(some (.str "OutOfPlace" 383)),(some (.str "OutOfPlace" 391)),(some (.builtin "ValueError.__new__")),(some (.bool true))]⟩
def Oh:Ob:=λ P=>co "bit_of" "bit_of" 401 45 1 3 166 true 167 (.ref 168) (.ref 169) (.ref 170) 405 406
def OY:Ob:=λ P=>fo "bit_of" "bit_of" (top 14) "loomwright.masks" 399 171
def OJ:Ob:=λ P=>co "mask_of" "mask_of" 408 47 1 3 173 true 174 (.ref 175) (.ref 176) (.ref 177) 414 415
def Od:Ob:=λ P=>fo "mask_of" "mask_of" (top 15) "loomwright.masks" 399 178
def Og:Ob:=λ P=>co "mask_to" "mask_to" 417 52 1 3 180 true 181 (.ref 182) (.ref 183) (.ref 184) 421 422
def N9:Ob:=λ P=>fo "mask_to" "mask_to" (top 16) "loomwright.masks" 399 185
def Oy:Ob:=λ P=>co "has_number" "has_number" 424 54 2 3 187 true 188 (.ref 189) (.ref 190) (.ref 191) 429 430
def Ox:Ob:=λ P=>fo "has_number" "has_number" (top 17) "loomwright.masks" 399 192
def Pe:Ob:=λ P=>co "numbers_of" "numbers_of" 432 56 1 3 194 true 195 .none .none (.ref 196) 435 436
def OO:Ob:=λ P=>fo "numbers_of" "numbers_of" (top 18) "loomwright.masks" 399 197
def O3:Ob:=λ P=>co "union_of" "union_of" 438 58 1 3 199 true 200 (.ref 201) (.ref 202) (.ref 203) 444 445
def Ou:Ob:=λ P=>fo "union_of" "union_of" (top 19) "loomwright.masks" 399 204
def N5:Ob:=λ P=>co "is_whole" "is_whole" 449 64 1 3 206 true 207 (.ref 208) (.ref 209) (.ref 210) 453 454
def OX:Ob:=λ P=>fo "is_whole" "is_whole" (top 21) "loomwright.words" 447 211
def Of:Ob:=λ P=>co "is_among" "is_among" 456 66 3 3 213 true 214 (.ref 215) (.ref 216) (.ref 217) 462 463
def N2:Ob:=λ P=>fo "is_among" "is_among" (top 22) "loomwright.words" 447 218
def Pd:Ob:=λ P=>co "need_cloth" "need_cloth" 467 69 2 3 220 true 221 .none .none (.ref 222) 470 471
def N3:Ob:=λ P=>fo "need_cloth" "need_cloth" (top 24) "loomwright.cloth" 465 223
def NI:Ob:=λ P=>co "__init__" "Cloth.__init__" 485 78 3 3 232 true 233 (.ref 234) (.ref 235) (.ref 236) 491 492
def N7:Ob:=λ P=>fo "__init__" "Cloth.__init__" (AC (top 25) 0) "loomwright.cloth" 465 237
def NM:Ob:=λ P=>co "told" "Cloth.told" 494 83 1 3 239 true 240 (.ref 241) (.ref 242) (.ref 243) 498 499
def NX:Ob:=λ P=>fo "told" "Cloth.told" (AC (top 25) 1) "loomwright.cloth" 465 244
def NY:Ob:=λ P=>co "ends" "Cloth.ends" 501 86 1 3 246 true 247 (.ref 248) (.ref 249) (.ref 250) 505 506
def Pa:Ob:=λ P=>fo "ends" "Cloth.ends" (AC (top 25) 2) "loomwright.cloth" 465 251
def OL:Ob:=λ P=>co "picks" "Cloth.picks" 508 89 1 3 253 true 254 (.ref 255) (.ref 256) (.ref 257) 512 513
def Oe:Ob:=λ P=>fo "picks" "Cloth.picks" (AC (top 25) 3) "loomwright.cloth" 465 258
def OI:Ob:=λ P=>co "row_at" "Cloth.row_at" 515 92 2 3 260 true 261 (.ref 262) (.ref 263) (.ref 264) 520 521
def N4:Ob:=λ P=>fo "row_at" "Cloth.row_at" (AC (top 25) 4) "loomwright.cloth" 465 265
def OE:Ob:=λ P=>co "column_at" "Cloth.column_at" 523 95 2 3 267 true 268 (.ref 269) (.ref 270) (.ref 271) 528 529
def NK:Ob:=λ P=>fo "column_at" "Cloth.column_at" (AC (top 25) 5) "loomwright.cloth" 465 272
def OF:Ob:=λ P=>co "is_up" "Cloth.is_up" 531 98 3 3 274 true 275 (.ref 276) (.ref 277) (.ref 278) 537 538
def OB:Ob:=λ P=>fo "is_up" "Cloth.is_up" (AC (top 25) 6) "loomwright.cloth" 465 279
def NV:Ob:=λ P=>tu #[(.str "rows" 540),(.str "width" 541)]
def Oj:Ob:=λ P=>di #[dE P "__module__" 480 (.str "loomwright.cloth" 465),dE P "__firstlineno__" 484 (.int 76 483),dR P "__init__" 493 238,dR P "told" 500 245,dR P "ends" 507 252,dR P "picks" 514 259,dR P "row_at" 522 266,dR P "column_at" 530 273,dR P "is_up" 539 280,dR P "__static_attributes__" 542 281,dR P "__dict__" 544 284,dR P "__weakref__" 546 285,dE P "__doc__" 547 .none] 4
def Po:Ob:=λ P=>⟨(.type "type"),none,(.cls ⟨"Cloth",[(.type "object")],[(.ref 283),(.type "object")],282,"Cloth",true,[],[],false,none,false⟩), #[none,none,(some (.str "Cloth" 473)),(some (.str "Cloth" 481)),(some (.builtin "object.__new__")),(some (.bool true))]⟩
def O4:Ob:=λ P=>⟨(.type "getset_descriptor"),none,(.fields #[(.str "__dict__" 543),(.ref 283),(.builtin "function.__dict__"),(.builtin "function.__dict__#set")]), #[]⟩
def Pj:Ob:=λ P=>⟨(.type "getset_descriptor"),none,(.fields #[(.str "__weakref__" 545),(.ref 283),(.builtin "ExceptionGroup.__weakref__"), .none]), #[]⟩
def Pf:Ob:=λ P=>co "need_at_once" "need_at_once" 552 101 1 3 288 true 289 .none .none (.ref 290) 555 556
def OH:Ob:=λ P=>fo "need_at_once" "need_at_once" (top 27) "loomwright.apart" 550 291
def OC:Ob:=λ P=>co "up_ends" "up_ends" 558 108 4 3 293 true 294 (.ref 295) (.ref 296) (.ref 297) 565 566
def Pb:Ob:=λ P=>fo "up_ends" "up_ends" (top 28) "loomwright.apart" 550 298
def OV:Ob:=λ P=>co "whole_ends" "whole_ends" 568 112 3 3 300 true 301 .none .none (.ref 302) 571 572
def O8:Ob:=λ P=>fo "whole_ends" "whole_ends" (top 29) "loomwright.apart" 550 303
def OP:Ob:=λ P=>co "whole_row" "whole_row" 574 114 3 3 305 true 306 .none .none (.ref 307) 577 578
def NT:Ob:=λ P=>fo "whole_row" "whole_row" (top 30) "loomwright.apart" 550 308
def Oz:Ob:=λ P=>co "woven_at_once" "woven_at_once" 580 117 1 3 310 true 311 .none .none (.ref 312) 583 584
def OM:Ob:=λ P=>fo "woven_at_once" "woven_at_once" (top 31) "loomwright.apart" 550 313
def Pp:Ob:=λ P=>co "_law_mixed" "_law_mixed" 588 124 2 3 315 true 316 (.ref 317) (.ref 318) (.ref 319) 593 594
def OS:Ob:=λ P=>fo "_law_mixed" "_law_mixed" (top 33) "law_loomwright_k27_whole_woven_at_once" 586 320
def NP:Ob:=λ P=>co "_law_kinds" "_law_kinds" 596 127 1 3 322 true 323 .none .none (.ref 324) 599 600
def ON:Ob:=λ P=>fo "_law_kinds" "_law_kinds" (top 34) "law_loomwright_k27_whole_woven_at_once" 586 325
def NQ:Ob:=λ P=>co "_law_whole" "_law_whole" 602 134 1 3 327 true 328 .none .none (.ref 329) 605 606
def OW:Ob:=λ P=>fo "_law_whole" "_law_whole" (top 35) "law_loomwright_k27_whole_woven_at_once" 586 330
def OQ:Ob:=λ P=>co "_law_up" "_law_up" 608 136 3 3 332 true 333 (.ref 334) (.ref 335) (.ref 336) 614 615
def Oo:Ob:=λ P=>fo "_law_up" "_law_up" (top 36) "law_loomwright_k27_whole_woven_at_once" 586 337
def O1:Ob:=λ P=>co "_law_caught" "_law_caught" 617 138 1 3 339 true 340 (.ref 341) (.ref 342) (.ref 343) 623 624
def NN:Ob:=λ P=>fo "_law_caught" "_law_caught" (top 37) "law_loomwright_k27_whole_woven_at_once" 586 344
def Pc:Ob:=λ P=>co "_law_due" "_law_due" 626 145 2 3 346 true 347 (.ref 348) (.ref 349) (.ref 350) 637 638
def N1:Ob:=λ P=>fo "_law_due" "_law_due" (top 38) "law_loomwright_k27_whole_woven_at_once" 586 351
def NL:Ob:=λ P=>tu #[]
def Ow:Ob:=λ P=>co "law" "law" 640 156 1 3 353 true 354 .none .none (.ref 355) 643 644
def Pl:Ob:=λ P=>fo "law" "law" (top 39) "law_loomwright_k27_whole_woven_at_once" 586 356
def frag (P:Params):Frag:=(nat_lit 2,boot_o_2 P)::(nat_lit 3,o3 P)::(nat_lit 20,o20 P)::(nat_lit 21,o21 P)::(nat_lit 22,o22 P)::(nat_lit 29,o29 P)::(nat_lit 30,o30 P)::(nat_lit 31,o31 P)::(nat_lit 32,o32 P)::(nat_lit 35,o35 P)::(nat_lit 47,o47 P)::(nat_lit 48,o48 P)::(nat_lit 49,o49 P)::(nat_lit 50,o50 P)::(nat_lit 51,o51 P)::(nat_lit 54,o54 P)::(nat_lit 66,o66 P)::(nat_lit 67,o67 P)::(nat_lit 68,o68 P)::(nat_lit 69,o69 P)::(nat_lit 70,o70 P)::(nat_lit 73,o73 P)::(nat_lit 85,o85 P)::(nat_lit 86,o86 P)::(nat_lit 87,o87 P)::(nat_lit 88,o88 P)::(nat_lit 89,o89 P)::(nat_lit 92,o92 P)::(nat_lit 104,On P)::(nat_lit 105,Pi P)::(nat_lit 106,OG P)::(nat_lit 107,Pq P)::(nat_lit 108,Ol P)::(nat_lit 111,Oc P)::(nat_lit 123,Oq P)::(nat_lit 124,N8 P)::(nat_lit 125,OD P)::(nat_lit 126,O7 P)::(nat_lit 127,O5 P)::(nat_lit 130,OZ P)::(nat_lit 137,NJ P)::(nat_lit 138,O2 P)::(nat_lit 139,OU P)::(nat_lit 142,NU P)::(nat_lit 149,Oa P)::(nat_lit 150,NS P)::(nat_lit 151,OR P)::(nat_lit 154,O0 P)::(nat_lit 161,Os P)::(nat_lit 162,N0 P)::(nat_lit 163,O9 P)::(nat_lit 171,Oh P)::(nat_lit 172,OY P)::(nat_lit 178,OJ P)::(nat_lit 179,Od P)::(nat_lit 185,Og P)::(nat_lit 186,N9 P)::(nat_lit 192,Oy P)::(nat_lit 193,Ox P)::(nat_lit 197,Pe P)::(nat_lit 198,OO P)::(nat_lit 204,O3 P)::(nat_lit 205,Ou P)::(nat_lit 211,N5 P)::(nat_lit 212,OX P)::(nat_lit 218,Of P)::(nat_lit 219,N2 P)::(nat_lit 223,Pd P)::(nat_lit 224,N3 P)::(nat_lit 237,NI P)::(nat_lit 238,N7 P)::(nat_lit 244,NM P)::(nat_lit 245,NX P)::(nat_lit 251,NY P)::(nat_lit 252,Pa P)::(nat_lit 258,OL P)::(nat_lit 259,Oe P)::(nat_lit 265,OI P)::(nat_lit 266,N4 P)::(nat_lit 272,OE P)::(nat_lit 273,NK P)::(nat_lit 279,OF P)::(nat_lit 280,OB P)::(nat_lit 281,NV P)::(nat_lit 282,Oj P)::(nat_lit 283,Po P)::(nat_lit 284,O4 P)::(nat_lit 285,Pj P)::(nat_lit 291,Pf P)::(nat_lit 292,OH P)::(nat_lit 298,OC P)::(nat_lit 299,Pb P)::(nat_lit 303,OV P)::(nat_lit 304,O8 P)::(nat_lit 308,OP P)::(nat_lit 309,NT P)::(nat_lit 313,Oz P)::(nat_lit 314,OM P)::(nat_lit 320,Pp P)::(nat_lit 321,OS P)::(nat_lit 325,NP P)::(nat_lit 326,ON P)::(nat_lit 330,NQ P)::(nat_lit 331,OW P)::(nat_lit 337,OQ P)::(nat_lit 338,Oo P)::(nat_lit 344,O1 P)::(nat_lit 345,NN P)::(nat_lit 351,Pc P)::(nat_lit 352,N1 P)::(nat_lit 353,NL P)::(nat_lit 356,Ow P)::(nat_lit 357,Pl P)::[]
def addrs:List Addr:=[2,3,20,21,22,29,30,31,32,35,47,48,49,50,51,54,66,67,68,69,70,73,85,86,87,88,89,92,104,105,106,107,108,111,123,124,125,126,127,130,137,138,139,142,149,150,151,154,161,162,163,171,172,178,179,185,186,192,193,197,198,204,205,211,212,218,219,223,224,237,238,244,245,251,252,258,259,265,266,272,273,279,280,281,282,283,284,285,291,292,298,299,303,304,308,309,313,314,320,321,325,326,330,331,337,338,344,345,351,352,353,356,357]
def view:Program:={ PySem.Challenge.pw_loomwright_k27_whole_woven_at_once with main:={ PySem.Challenge.pw_loomwright_k27_whole_woven_at_once.main with body:=[top 0,top 1,top 2,top 4,top 5,top 6,top 7,top 8,top 9,top 10,top 11,top 12,top 14,top 15,top 16,top 17,top 18,top 19,top 21,top 22,top 24,top 25,top 27,top 28,top 29,top 30,top 31,top 33,top 34,top 35,top 36,top 37,top 38,top 39] } }
abbrev Xt:Shared->Bool:=λ s=>xlAt view [] s&&recOk (RowW.records PySem.Challenge.rw_loomwright_k27_whole_woven_at_once.row.toRowW) s
def tabs:List Addr:=[354]
theorem addrs_eq:∀ P:Params,addrs=(frag P).map (·.1):=λ _=>by kernel_rfl
abbrev hook:Hook:=kmHook frag addrs addrs_eq tabs
abbrev fuel:Nat:=6480
def _root_.PySem.W.Fast.tw17772956211577274410:Program:=PySem.Challenge.pw_loomwright_k27_whole_woven_at_once
theorem _root_.PySem.W.Fast.te17772956211577274410:PySem.Challenge.pw_loomwright_k27_whole_woven_at_once=PySem.W.Fast.tw17772956211577274410:=rfl
theorem M4:(λ _=>true) (HX.topT treeTable)=true:=by k_qdec
theorem wsaid:PySem.Challenge.rw_loomwright_k27_whole_woven_at_once.wellSaid=true:=by k_qdec
theorem NZ (w:World) (os:OsState):(HX.topT treeTable PySem.Challenge.pw_loomwright_k27_whole_woven_at_once w 11 (some (.ref 6)) fuel ⟨HX.bootT w.params,11,{},Array.mk [],boot_drawn,boot_toks,os⟩ (topStub PySem.Challenge.pw_loomwright_k27_whole_woven_at_once)).map (λ s=>((staticsOk (importedModules PySem.Challenge.pw_loomwright_k27_whole_woven_at_once.main.body) (boot_heap w.params) s.abs.heap&&namesBound PySem.Challenge.pw_loomwright_k27_whole_woven_at_once s.abs.heap&&gensDone s.abs&&laidKept (boot_heap w.params) s.abs.heap),(addrs.map s.abs.heap.get?,tabs.map s.abs.heap.get?)))=some (true,((frag w.params).map λ p=>some p.2,tabs.map λ _=>some (tabObj #[]))):=by
  have _tw:=M4;rw [PySem.W.Fast.te5923862056798008813,PySem.W.Fast.te14364793385576792824,PySem.W.Fast.te9621378704136392807];kernel_rfl
theorem N6 (w:World) (os:OsState):(HX.topT treeTable PySem.Challenge.pw_loomwright_k27_whole_woven_at_once w 11 (some (.ref 6)) fuel ⟨HX.bootT w.params,11,{},Array.mk [],boot_drawn,boot_toks,os⟩ (topStub PySem.Challenge.pw_loomwright_k27_whole_woven_at_once)).map (λ s=>(openSeen view [] (importedModules PySem.Challenge.pw_loomwright_k27_whole_woven_at_once.main.body) Xt true s.abs))=some (openGood view []):=by
  unfold Xt;rw [PySem.W.Fast.te5923862056798008813,PySem.W.Fast.te4187177175401517315,PySem.W.Fast.te2368527892694137696,PySem.W.Fast.te14364793385576792824,PySem.W.Fast.te9621378704136392807];kernel_rfl
theorem left:LeftO PySem.Challenge.pw_loomwright_k27_whole_woven_at_once view [] Xt hook.obs hook.val fuel:=HX.left_run (by kernel_rfl) (by decide) (λ s=>by kernel_rfl) HX.hb λ w os=>by
  obtain ⟨s,r,l⟩:=Option.map_eq_some_iff.mp (NZ w os);obtain ⟨s2,r2,l2⟩:=Option.map_eq_some_iff.mp (N6 w os);cases r.symm.trans r2;exact ⟨s.abs,HX.topT_of r,HX.three l l2⟩
end K27
namespace L2
open PySem PySem.Spec PyProof.Rows
abbrev Key:=Sum Int Str
def Lf:Key->Value->Bool
  | .inl k,v=>Value.isInt k v
  | .inr x,v=>Value.isStrOf x v
def Om (w:World):Key->Int
  | .inl k=>hashInt k
  | .inr x=>hashStr w x
theorem AA:∀ {k:Key} {v:Value},Lf k v=true->(∃ i t,k=Sum.inl i/\v=Value.int i t)\/(∃ x t,k=Sum.inr x/\v=Value.str x t)
  | .inl i,v,h=>by
    obtain ⟨t,e⟩:=Value.isInt_shape (k:=i) (v:=v) h;exact .inl ⟨i,t,rfl,e⟩
  | .inr x,v,h=>by
    obtain ⟨t,e⟩:=Value.isStrOf_shape (x:=x) (v:=v) h;exact .inr ⟨x,t,rfl,e⟩
theorem LN (a b:Int):decide ((Sum.inl a:Key)=Sum.inl b)=(a == b):=by
  by_cases e:a=b
  · subst e;simp
  · have h:¬ (Sum.inl a:Key)=Sum.inl b:=λ q=>e (Sum.inl.inj q);rw [decide_eq_false h];exact (beq_eq_false_iff_ne.mpr e).symm
theorem LF (a b:Str):decide ((Sum.inr a:Key)=Sum.inr b)=decide (a=b):=by
  by_cases e:a=b
  · subst e;simp
  · have h:¬ (Sum.inr a:Key)=Sum.inr b:=λ q=>e (Sum.inr.inj q);rw [decide_eq_false h,decide_eq_false e]
theorem ME (a:Int) (b:Str):decide ((Sum.inl a:Key)=Sum.inr b)=false:=decide_eq_false (λ q=>nomatch q)
theorem MD (a:Str) (b:Int):decide ((Sum.inr a:Key)=Sum.inl b)=false:=decide_eq_false (λ q=>nomatch q)
def FV (prog:Program) (w:World):PySem.KeyKind prog w Key where
  is:=Lf
  hash:=Om w
  inj:=λ v a b ha hb=>by
    rcases AA ha with ⟨i,t,rfl,rfl⟩ | ⟨x,t,rfl,rfl⟩
    · rcases AA hb with ⟨j,u,rfl,e⟩ | ⟨y,u,rfl,e⟩
      · injection e with e1 _;rw [e1]
      · exact nomatch e
    · rcases AA hb with ⟨j,u,rfl,e⟩ | ⟨y,u,rfl,e⟩
      · exact nomatch e
      · injection e with e1 _;rw [e1]
  byValue:=λ k v h=>by
    rcases AA h with ⟨i,t,rfl,rfl⟩ | ⟨x,t,rfl,rfl⟩ <;> rfl
  pyHash:=λ hv h=>by
    rcases AA hv with ⟨i,t,rfl,rfl⟩ | ⟨x,t,rfl,rfl⟩
    · exact wpAny_pyHash_int h
    · exact wpAny_pyHash_str h
  eqBool:=λ hu hv h=>by
    rcases AA hu with ⟨i,t,rfl,rfl⟩ | ⟨x,t,rfl,rfl⟩
    · rcases AA hv with ⟨j,u,rfl,rfl⟩ | ⟨y,u,rfl,rfl⟩
      · rw [LN] at h;exact wpAny_eqBool_int h
      · rw [ME] at h;exact SeqAt.EqAt.int_str i t y u _ _ _ _ h
    · rcases AA hv with ⟨j,u,rfl,rfl⟩ | ⟨y,u,rfl,rfl⟩
      · rw [MD] at h;exact SeqAt.EqAt.str_int x t j u _ _ _ _ h
      · rw [LF] at h;exact wpAny_eqBool_str h
  «strs» := λ k x t v h=>by
    rcases AA h with ⟨i,u,rfl,e⟩ | ⟨y,u,rfl,e⟩
    · exact nomatch e
    · injection e with e1 _;subst e1;cases v <;> rfl
inductive V where
  | non | bl (b:Bool) | int (i:Int) | str (x:Str) | byt (b:Array UInt8) | flt (b:UInt64) | ref (a:Addr) | ty (n:String)
  deriving DecidableEq
def RelV:V->Value->Prop
  | .non,u=>u=Value.none
  | .bl b,u=>u=Value.bool b
  | .int i,u=>∃ t,u=Value.int i t
  | .str x,u=>∃ t,u=Value.str x t
  | .byt b,u=>∃ t,u=Value.bytes b t
  | .flt b,u=>∃ t,u=Value.float b t
  | .ref a,u=>u=Value.ref a
  | .ty n,u=>u=Value.type n
abbrev Vals:List V->List Value->Prop:=Paired RelV
theorem Vals.length {xs:List V} {us:List Value} (r:Vals xs us):xs.length=us.length:=Paired.length r
theorem Vals.get:∀ {xs:List V} {us:List Value} {i:Nat} {x:V},Vals xs us->xs[i]?=some x->∃ u,us[i]?=some u/\RelV x u
  | _,_,_,_, .nil,e=>by simp at e
  | _,_,0,_, .cons r _,e=>by simp at e;subst e;exact ⟨_,rfl,r⟩
  | _,_,i+1,x, .cons _ t,e=>by
    obtain ⟨u,h1,h2⟩:=Vals.get (i:=i) (x:=x) t (by simpa using e);exact ⟨u,by simpa using h1,h2⟩
theorem Vals.append:∀ {xs ys:List V} {us ws:List Value},Vals xs us->Vals ys ws->Vals (xs++ys) (us++ws)
  | _,_,_,_, .nil,s=>s
  | _,_,_,_, .cons r t,s=> .cons r (Vals.append t s)
theorem Vals.take:∀ {xs:List V} {us:List Value} (n:Nat),Vals xs us->Vals (xs.take n) (us.take n)
  | _,_,0,_=> .nil
  | _,_,_+1, .nil=> .nil
  | _,_,n+1, .cons r t=> .cons r (Vals.take n t)
theorem Vals.drop:∀ {xs:List V} {us:List Value} (n:Nat),Vals xs us->Vals (xs.drop n) (us.drop n)
  | _,_,0,r=>r
  | _,_,_+1, .nil=> .nil
  | _,_,n+1, .cons _ t=>Vals.drop n t
def RelO:Option V->Option Value->Prop
  | some v,some u=>RelV v u
  | none,none=>True
  | _,_=>False
def KV {κ:Type}:List (κ × V)->List (κ × Value)->Prop:=Paired λ (p:κ × V) (q:κ × Value)=>p.1=q.1/\RelV p.2 q.2
def kV:Key->V
  | .inl i=> .int i
  | .inr x=> .str x
inductive HO where
  | lst (xs:List V)
  | tup (xs:List V)
  | dK (kvs:List (Key × V)) | dT (kvs:List (List Key × V))
  | set (S:Int->Bool) (n:Nat)
  | ins (C dx:Addr) (fs:List (Str × V))
  | own (x:Addr)
  | xd (fs:List (Str × V))
  | met (f x:Addr)
  | rng (lo hi:Int)
  | frz (o:Obj) (u:HO)
  | tbl (ps:Array Value)
  | ext (φ:Heap->Prop)
abbrev Hp:=Addr->Option HO
def upd (H:Hp) (a:Addr) (o:HO):Hp:=λ b=>if b=a then some o else H b
theorem Ad {H:Hp} {a:Addr} {o:HO}:upd H a o a=some o:=by unfold upd;rw [if_pos rfl]
theorem Aj {H:Hp} {a b:Addr} {o:HO} (h:b≠a):upd H a o b=H b:=by unfold upd;rw [if_neg h]
theorem Gc {H:Hp} {a b:Addr} {o u:HO} (h:H a=some o) (h':H b=some u) (d:o≠u):a≠b:=by
  intro e;subst e;rw [h] at h';exact d (Option.some.inj h')
theorem Ar {H:Hp} {a b:Addr} {o:HO} (h:H a=some o) (h':H b=none):a≠b:=by
  intro e;subst e;rw [h] at h';cases h'
section
variable (P:Program) (w:World)
def ObjOk (H:Hp) (h:Heap) (a:Addr):HO->Prop
  | .lst xs=>xs.length<=sizeLine/\∃ (its:List Value) (n:Nat),Vals xs its/\h.get? a=some { cls:= .type "list",data:= .seq its.toArray n }
  | .tup xs=>xs.length<=sizeLine/\∃ its:List Value,Vals xs its/\IsTup h a its.toArray
  | .dK kvs=>kvs.length<=sizeLine/\(a == sysModules)=false/\∃ vs,KV kvs vs/\h.DictOf (FV P w) a vs
  | .dT kvs=>kvs.length<=sizeLine/\(a == sysModules)=false/\∃ xs:List (List Key × Addr × Value),
      Paired (λ (p:List Key × V) (q:List Key × Addr × Value)=>p.1=q.1/\H q.2.1=some (.tup (p.1.map kV))/\RelV p.2 q.2.2) kvs xs/\
      ∃ o es ep,h.get? a=some o/\o.ExactDict/\o.data= .dict es ep/\es.toList=xs.map (entryOfKey (tupleKind (FV P w)))/\(xs.map (·.1)).Nodup
  | .set S n=>h.SetOf (intKind P w) a S n
  | .ins C dx fs=>H dx=some (.own a)/\fs.length<=1000/\dx≠a/\h.get? a=some (PySem.W.instObj C dx)/\
      ∃ mA,h.Ns1 dx mA/\(∀ f,RelO (fs.lookup f) (mA f))/\PySem.Within mA (fs.map (·.1))
  | .own _=>∃ o,h.get? a=some o
  | .xd fs=>∃ mA,h.Ns1 a mA/\∀ f,RelO (fs.lookup f) (mA f)
  | .rng lo hi=>∃ t u v,h.get? a=some { cls:= .type "range",data:= .fields #[.int lo t, .int hi u, .int 1 v] }
  | .frz o u=>h.get? a=some o/\ObjOk H h a u
  | .tbl ps=>h.get? a=some { cls:= .none,data:= .fields ps }
  | .met f x=>h.get? a=some (PySem.W.methodObj (.ref f) (.ref x))
  | .ext φ=>φ h/\(∃ o,h.get? a=some o)/\∀ h1 h2:Heap,φ h1->(∀ o,h1.get? a=some o->h2.get? a=some o)->φ h2
def HOk (H:Hp) (h:Heap):Prop:=∀ a o,H a=some o->ObjOk P w H h a o
end
section
variable {P:Program} {w:World} {H H':Hp} {h h':Heap} {a:Addr} {o:HO}
theorem ObjOk.lt (x:ObjOk P w H h a o):a<h.objs.size:=by
  cases o with
  | lst xs=>obtain ⟨_,_,_,_,e⟩:=x;exact Heap.lt_size e
  | tup xs=>obtain ⟨_,_,_,p⟩:=x;exact p.lt
  | dK kvs=>obtain ⟨_,_,_,_,o,_,_,e,_⟩:=x;exact Heap.lt_size e
  | dT kvs=>obtain ⟨_,_,_,_,o,_,_,e,_⟩:=x;exact Heap.lt_size e
  | set S n=>obtain ⟨o,_,_,_,e,_⟩:=x;exact Heap.lt_size e
  | ins C dx fs=>obtain ⟨_,_,_,e,_⟩:=x;exact Heap.lt_size e
  | own y=>obtain ⟨_,e⟩:=x;exact Heap.lt_size e
  | xd fs=>obtain ⟨_,⟨_,_,_,e,_⟩,_⟩:=x;exact Heap.lt_size e
  | rng lo hi=>obtain ⟨_,_,_,e⟩:=x;exact Heap.lt_size e
  | frz ob u=>obtain ⟨e,_⟩:=x;exact Heap.lt_size e
  | tbl ps=>exact Heap.lt_size (show h.get? a=some _ from x)
  | met f y=>exact Heap.lt_size (show h.get? a=some _ from x)
  | ext φ=>obtain ⟨_,⟨_,e⟩,_⟩:=x;exact Heap.lt_size e
theorem Paired.mapP {α β:Type} {F G:α->β->Prop}:∀ {l₁:List α} {l₂:List β},Paired F l₁ l₂->(∀ a b,F a b->G a b)->Paired G l₁ l₂
  | _,_, .nil,_=> .nil
  | _,_, .cons r t,f=> .cons (f _ _ r) (Paired.mapP t f)
theorem ObjOk.stay (x:ObjOk P w H h a o) (k:∀ b u,(b=a\/H b=some (.own a))->h.get? b=some u->h'.get? b=some u)
    (ho:∀ b,H b=some (.own a)->H' b=some (.own a)) (ht:∀ b xs,H b=some (.tup xs)->H' b=some (.tup xs)):ObjOk P w H' h' a o:=by
  induction o with
  | lst xs=>obtain ⟨z,its,n,r,e⟩:=x;exact ⟨z,its,n,r,k _ _ (.inl rfl) e⟩
  | tup xs=>obtain ⟨z,its,r,ob,e,c⟩:=x;exact ⟨z,its,r,ob,k _ _ (.inl rfl) e,c⟩
  | dK kvs=>obtain ⟨z,y,vs,r,ob,es,ep,e,c⟩:=x;exact ⟨z,y,vs,r,ob,es,ep,k _ _ (.inl rfl) e,c⟩
  | dT kvs=>
    obtain ⟨z,y,xs,r,ob,es,ep,e,c⟩:=x;exact ⟨z,y,xs,Paired.mapP r λ p q z=>⟨z.1,ht _ _ z.2.1,z.2.2⟩,ob,es,ep,k _ _ (.inl rfl) e,c⟩
  | set S n=>obtain ⟨ob,es,ep,t,e,c⟩:=x;exact ⟨ob,es,ep,t,k _ _ (.inl rfl) e,c⟩
  | ins C dx fs=>
    obtain ⟨d,z,ne,e,mA,⟨od,es,ep,e2,c⟩,r⟩:=x;exact ⟨ho _ d,z,ne,k _ _ (.inl rfl) e,mA,⟨od,es,ep,k _ _ (.inr d) e2,c⟩,r⟩
  | own y=>obtain ⟨ob,e⟩:=x;exact ⟨ob,k _ _ (.inl rfl) e⟩
  | xd fs=>obtain ⟨mA,⟨od,es,ep,e,c⟩,r⟩:=x;exact ⟨mA,⟨od,es,ep,k _ _ (.inl rfl) e,c⟩,r⟩
  | rng lo hi=>obtain ⟨t,u,v,e⟩:=x;exact ⟨t,u,v,k _ _ (.inl rfl) e⟩
  | frz ob u ih=>obtain ⟨e,q⟩:=x;exact ⟨k _ _ (.inl rfl) e,ih q⟩
  | tbl ps=>
    have e:h.get? a=some { cls:= .none,data:= .fields ps }:=x;show h'.get? a=some { cls:= .none,data:= .fields ps };exact k a _ (.inl rfl) e
  | met f y=>
    have e:h.get? a=some (PySem.W.methodObj (.ref f) (.ref y)):=x;show h'.get? a=some (PySem.W.methodObj (.ref f) (.ref y));exact k a _ (.inl rfl) e
  | ext φ=>obtain ⟨p,⟨o,e⟩,st⟩:=x;exact ⟨st _ _ p λ o q=>k _ _ (.inl rfl) q,⟨o,k _ _ (.inl rfl) e⟩,st⟩
theorem HOk.lt (x:HOk P w H h) (e:H a=some o):a<h.objs.size:=(x a o e).lt
theorem HOk.fresh (x:HOk P w H h) (e:h.objs.size<=a):H a=none:=by
  cases q:H a with
  | none=>rfl
  | some u=>exact absurd (Nat.lt_of_lt_of_le (x.lt q) e) (Nat.lt_irrefl _)
theorem HOk.kept (x:HOk P w H h) (k:∀ b u,h.get? b=some u->h'.get? b=some u):HOk P w H h':=λ a o e=>
  (x a o e).stay (λ b u _ q=>k b u q) (λ _ q=>q) λ _ _ q=>q
theorem HOk.laid (x:HOk P w H h) (k:∀ b u,h.get? b=some u->h'.get? b=some u) (hp:h.objs.size<=a) (new:ObjOk P w (upd H a o) h' a o):HOk P w (upd H a o) h':=λ b u e=>by
  have hn:=x.fresh hp;by_cases hb:b=a
  · subst hb;rw [Ad] at e;cases e;exact new
  · rw [Aj hb] at e;exact (x b u e).stay (λ c v _ q=>k c v q) (λ c q=>by rw [Aj (Ar q hn)];exact q) λ c xs q=>by rw [Aj (Ar q hn)];exact q
end
def Rd (H:Hp) (a:Addr) (u:HO):Prop:=H a=some u\/∃ o,H a=some (.frz o u)
theorem Rd.ok {P:Program} {w:World} {H:Hp} {h:Heap} {a:Addr} {u:HO} (r:Rd H a u) (x:HOk P w H h):ObjOk P w H h a u:=by
  rcases r with r | ⟨o,r⟩
  · exact x a u r
  · obtain ⟨_,q⟩:=x a _ r;exact q
def Mut:Option HO->Prop
  | some (.lst _)=>True
  | some (.dK _)=>True
  | some (.dT _)=>True
  | some (.set _ _)=>True
  | some (.ins _ _ _)=>True
  | some (.ext _)=>True
  | _=>False
section
variable {P:Program} {w:World} {H:Hp} {h h':Heap} {x e:Addr} {o':HO}
theorem HOk.write (ok:HOk P w H h) (mu:Mut (H x)) (he:e=x\/H e=some (.own x)) (k:∀ b u,b≠e->h.get? b=some u->h'.get? b=some u) (heo:∃ u,h'.get? e=some u)
    (new:ObjOk P w (upd H x o') h' x o'):HOk P w (upd H x o') h':=λ b u q=>by
  have nown:∀ c y,H c=some (.own y)->c≠x:=λ c y r z=>by subst z;rw [r] at mu;exact mu
  have ntup:∀ c xs,H c=some (.tup xs)->c≠x:=λ c xs r z=>by subst z;rw [r] at mu;exact mu
  by_cases hb:b=x
  · subst hb;rw [Ad] at q;cases q;exact new
  · rw [Aj hb] at q;by_cases hbe:b=e
    · have q':H b=some (.own x):=by
        rcases he with z | z
        · exact absurd (hbe.trans z) hb
        · rw [hbe];exact z
      rw [q] at q';cases q';obtain ⟨v,hv⟩:=heo;exact ⟨v,by rw [hbe];exact hv⟩
    · refine (ok b u q).stay (λ c v hc r=>k c v ?_ r) (λ c r=>by rw [Aj (nown c b r)];exact r) λ c xs r=>by rw [Aj (ntup c xs r)];exact r
      rcases hc with rfl | hc
      · exact hbe
      · rintro rfl;rcases he with z | z
        · exact nown c b hc z
        · rw [hc] at z;cases z;exact hb rfl
end
structure Un (fs ex:List Addr) (H H':Hp) (h h':Heap):Prop where
  keep:∀ b o,h.get? b=some o->H b=none->b∉fs->b∉ex->h'.get? b=some o
  slot:∀ b o,h.get? b=some o->H b=none->b∈fs->b∉ex->∃ sl,h'.get? b=some { o with slots:=sl }
  free:∀ b o,h.get? b=some o->H b=none->b∉ex->H' b=none
  there:∀ b o,h.get? b=some o->b∉ex->∃ o',h'.get? b=some o'
  tups:∀ b xs,H b=some (.tup xs)->H' b=some (.tup xs)
  frzs:∀ b o u,H b=some (.frz o u)->H' b=some (.frz o u)
  tbls:∀ b ps,H b=some (.tbl ps)->∃ more,H' b=some (.tbl (ps++more))
section
variable {fs fs' ex ex':List Addr} {H H1 H2:Hp} {h h1 h2 h':Heap} {a x e:Addr} {o:HO}
theorem Un.any (u:Un fs ex H H1 h h1) {b:Addr} {ob:Obj} (q:h.get? b=some ob) (n:H b=none) (hx:b∉ex):∃ sl,h1.get? b=some { ob with slots:=sl }:=by
  by_cases hb:b∈fs
  · exact u.slot b ob q n hb hx
  · exact ⟨ob.slots,u.keep b ob q n hb hx⟩
theorem Un.kept (k:∀ b u,h.get? b=some u->h'.get? b=some u):Un fs ex H H h h':=
  ⟨λ b ob q _ _ _=>k b ob q,λ b ob q _ _ _=>⟨ob.slots,k b ob q⟩,λ _ _ _ n _=>n,λ b ob q _=>⟨ob,k b ob q⟩,λ _ _ q=>q,λ _ _ _ q=>q,λ _ ps q=>⟨#[],by rw [q];simp⟩⟩
theorem Un.refl:Un fs ex H H h h:=Un.kept λ _ _ q=>q
theorem Un.laid (k:∀ b u,h.get? b=some u->h'.get? b=some u) (hp:h.objs.size<=a) (hn:H a=none):Un fs ex H (upd H a o) h h' where
  keep:=λ b u q _ _ _=>k b u q
  slot:=λ b u q _ _ _=>⟨u.slots,k b u q⟩
  free:=λ b u q n _=>by rw [Aj (Nat.ne_of_lt (Nat.lt_of_lt_of_le (Heap.lt_size q) hp))];exact n
  there:=λ b u q _=>⟨u,k b u q⟩
  tups:=λ b xs q=>by rw [Aj (Ar q hn)];exact q
  frzs:=λ b u xs q=>by rw [Aj (Ar q hn)];exact q
  tbls:=λ b ps q=>⟨#[],by rw [Aj (Ar q hn),q];simp⟩
theorem Un.write (mu:Mut (H x)) (he:e=x\/H e=some (.own x)) (k:∀ b u,b≠e->h.get? b=some u->h'.get? b=some u) (heo:∃ u,h'.get? e=some u):Un fs ex H (upd H x o) h h':=by
  have hx:∀ b,H b=none->b≠x:=λ b n z=>by subst z;rw [n] at mu;exact mu
  have hb:∀ b,H b=none->b≠e:=λ b n z=>by
    subst z;rcases he with r | r
    · exact hx b n r
    · rw [n] at r;cases r
  have hm:∀ b u,H b=some u->¬ Mut (some u)->b≠x:=λ b u q nm z=>by subst z;rw [q] at mu;exact nm mu
  refine ⟨λ b u q n _ _=>k b u (hb b n) q,λ b u q n _ _=>⟨u.slots,k b u (hb b n) q⟩,λ b u q n _=>by rw [Aj (hx b n)];exact n,λ b u q _=> ?_,
    λ b xs q=>by rw [Aj (hm b _ q λ z=>z)];exact q,λ b u xs q=>by rw [Aj (hm b _ q λ z=>z)];exact q,λ b ps q=>⟨#[],by rw [Aj (hm b _ q λ z=>z),q];simp⟩⟩
  by_cases hbe:b=e
  · subst hbe;exact heo
  · exact ⟨u,k b u hbe q⟩
end
def trk (h:Heap) (H:Hp):List Addr:=(List.range h.objs.size).filter λ a=>(H a).isSome
def E6 (h:Heap) (H:Hp):Heap:=PySem.W.hideAll h (trk h H)
theorem ID (h:Heap) (H:Hp):(E6 h H).objs.size=h.objs.size:=PySem.W.hideAll_size _ _
theorem Df {h:Heap} {H:Hp} {b:Addr} {o:Obj} (e:h.get? b=some o) (n:H b=none):(E6 h H).get? b=some o:=
  PySem.W.hideAll_get _ e λ hm=>by
    have q:(H b).isSome=true:=(List.mem_filter.mp hm).2;rw [n] at q;simp at q
theorem K9 {h:Heap} {H:Hp} {b:Addr} {o:Obj} (e:(E6 h H).get? b=some o):h.get? b=some o/\H b=none:=by
  have e':h.get? b=some o:=PySem.W.of_hideAll (trk h H) e;refine ⟨e',?_⟩;cases q:H b with
  | none=>rfl
  | some x=>
    have hm:b∈trk h H:=List.mem_filter.mpr ⟨List.mem_range.mpr (Heap.lt_size e'),by simp [q]⟩;have z:(E6 h H).get? b=none:=PySem.W.hideAll_none (trk h H) hm;rw [z] at e;cases e
structure Mod (K:PySem.W.Frag) (mg:Str->Option Value) (base:Heap):Prop where
  kin:K.In base
  glob:base.Ns mainGlobals mg
  blt:∃ mb,base.Ns builtinsNs mb/\∀ x:Str,x≠"__name__"->mb x=bootBuiltins x
  nolimit:base.NoLimit
structure Cx where
  prog:Program
  w:World
  K:PySem.W.Frag
  mg:Str->Option Value
  base:Heap
  A:Around
  N:List Str
  s₀:Shared
  H₀:Hp
  env:Env
  outer:List Env
  stack:List Env
  ex:List Addr
  fn:Str->Bool
  calm:Bool
  pn:List (Addr × Obj)
  xe:Value->Shared->Prop
def frs (l:List Env):List Addr:=l.filterMap (·.frame)
abbrev Cx.fs (X:Cx):List Addr:=frs X.outer
def Vis (sc:Scope) (x:Str):Prop:=sc.names.lookup x=some .local\/sc.names.lookup x=some .cell\/sc.names.lookup x=some .free
def Loc (sc:Scope) (x:Str):Prop:=sc.names.lookup x=some .local\/sc.names.lookup x=some .cell
def Pn (env:Env) (h:Heap) (m:Str->Option Value) (x:Str) (u:Value):Prop:=
  (env.kindOf x=some .local/\m x=some u)\/((env.kindOf x=some .cell\/env.kindOf x=some .free)/\∃ c,env.cells.lookup x=some c/\h.IsCell c (some u))
structure Cx.Ok (X:Cx):Prop where
  mod:Mod X.K X.mg X.base
  kind:X.env.scope.kind= .function
  glob:X.env.globals=mainGlobals
  blt:X.env.builtins=builtinsNs
  above:X.s₀.heap.objs.size<=X.env.locals
  inj:∀ x y c,X.env.cells.lookup x=some c->X.env.cells.lookup y=some c->x=y
  has:∀ x,(X.env.kindOf x=some .cell\/X.env.kindOf x=some .free)->∃ c,X.env.cells.lookup x=some c
  cab:∀ x c,X.fn x=true->X.env.cells.lookup x=some c->X.s₀.heap.objs.size<=c
  hd:X.calm=true->X.A.handled=none
  frames:X.A.frames=some X.stack
  stk:X.stack=X.outer\/(X.stack=X.env::X.outer/\X.env.frame=some X.env.locals)
  exf:∀ b∈X.ex,b≠X.env.locals/\∀ x c,X.env.cells.lookup x=some c->c≠b
  bs:∀ b o,X.base.get? b=some o->X.s₀.heap.get? b=some o/\X.H₀ b=none
  bsz:X.base.objs.size<=X.s₀.heap.objs.size
  noex:∀ b o,X.base.get? b=some o->b∉X.ex
  exfs:∀ b∈X.ex,b∉X.fs
  funs:X.s₀.heap.FunFrames X.base X.outer
  frf:∀ b∈X.fs,X.H₀ b=none
structure Inv (X:Cx) (pins:List (Addr × Obj)) (σ:List (Option V)) (H:Hp) (s:Shared):Prop where
  ok:X.Ok
  os:s.os=X.s₀.os
  bare:AllBare s.gens
  base:Un X.fs X.ex X.H₀ H X.s₀.heap s.heap
  loc:∃ m,s.heap.Ns X.env.locals m/\∀ (i:Nat) (x:Str) (v:V),X.N[i]?=some x->σ[i]?=some (some v)->Vis X.env.scope x->∃ u,RelV v u/\Pn X.env s.heap m x u
  cell:∀ x c,X.env.cells.lookup x=some c->∃ v,s.heap.IsCell c v
  free:H X.env.locals=none
  freeC:∀ x c,X.env.cells.lookup x=some c->H c=none
  pin:∀ p∈X.pn++pins,s.heap.get? p.1=some p.2/\H p.1=none/\p.1≠X.env.locals/\p.1∉X.fs/\∀ v,p.2.data≠ .cell v
  hok:HOk X.prog X.w H s.heap
  len:σ.length=X.N.length
section
variable {X:Cx} {pins:List (Addr × Obj)} {σ:List (Option V)} {H H':Hp} {s:Shared} {h':Heap}
theorem Cx.Ok.nofr (ok:X.Ok) {b:Addr} {o:Obj} (e:X.base.get? b=some o):b∉X.fs:=λ hb=>by
  have:=(ok.funs.mem hb).1;rw [e] at this;cases this
theorem Inv.bs (I:Inv X pins σ H s):∀ b o,X.base.get? b=some o->s.heap.get? b=some o/\H b=none:=λ b o e=>
  ⟨I.base.keep b o (I.ok.bs b o e).1 (I.ok.bs b o e).2 (I.ok.nofr e) (I.ok.noex b o e),I.base.free b o (I.ok.bs b o e).1 (I.ok.bs b o e).2 (I.ok.noex b o e)⟩
theorem Inv.bk (I:Inv X pins σ H s):∀ b o,X.base.get? b=some o->s.heap.get? b=some o:=λ b o e=>(I.bs b o e).1
theorem Inv.mod (I:Inv X pins σ H s):Mod X.K X.mg X.base:=I.ok.mod
theorem Inv.kIn (I:Inv X pins σ H s):X.K.In s.heap:=I.ok.mod.kin.keeps I.bk
theorem Inv.fr (I:Inv X pins σ H s):∃ m,Fr X.base X.env.locals s.heap m:=
  let ⟨m,hn,_⟩:=I.loc
  ⟨m,hn,I.bk,Nat.le_trans I.ok.bsz I.ok.above⟩
theorem Inv.lt (I:Inv X pins σ H s):X.env.locals<s.heap.objs.size:=let ⟨_,hn,_⟩:=I.loc;hn.lt
theorem Inv.sz (I:Inv X pins σ H s):X.s₀.heap.objs.size<=s.heap.objs.size:=Nat.le_trans I.ok.above (Nat.le_of_lt I.lt)
theorem Inv.nofs (I:Inv X pins σ H s) {a:Addr} (h:s.heap.objs.size<=a):a∉X.fs:=λ hb=>by
  obtain ⟨_,o,ho,_⟩:=I.ok.funs.mem hb;exact absurd (Nat.lt_of_lt_of_le (Heap.lt_size ho) (Nat.le_trans I.sz h)) (Nat.lt_irrefl _)
theorem Inv.cne (I:Inv X pins σ H s):∀ x c,X.env.cells.lookup x=some c->c≠X.env.locals:=λ x c e z=>by
  obtain ⟨v,o,ho,hd⟩:=I.cell x c e;obtain ⟨m,⟨o',es,ep,ho',hd',_⟩,_⟩:=I.loc;rw [z,ho'] at ho;cases ho;rw [hd'] at hd;cases hd
theorem Inv.funs (I:Inv X pins σ H s):s.heap.FunFrames X.base X.outer:=by
  have all:∀ (l:List Env),(∀ b∈frs l,b∈X.fs)->X.s₀.heap.FunFrames X.base l->s.heap.FunFrames X.base l:=by
    intro l
    induction l with
    | nil=>intro _ _;trivial
    | cons env r ih=>
      intro hs hl;obtain ⟨hk,⟨L,o,hf,hn,ho,hd⟩,hr⟩:=hl;have hL:L∈X.fs:=hs L (by unfold frs;rw [List.filterMap_cons,hf];exact List.mem_cons_self);obtain ⟨sl,e⟩:=I.base.slot L o ho (I.ok.frf L hL) hL λ z=>I.ok.exfs L z hL;exact ⟨hk,⟨L,_,hf,hn,e,hd⟩,ih (λ b hb=>hs b (by unfold frs;rw [List.filterMap_cons,hf];exact List.mem_cons_of_mem _ hb)) hr⟩
  exact all X.outer (λ _ hb=>hb) I.ok.funs
theorem Inv.stack (I:Inv X pins σ H s):s.heap.FunFrames X.base X.stack:=by
  rcases I.ok.stk with e | ⟨e,hf⟩
  · rw [e];exact I.funs
  · rw [e];obtain ⟨m,hn,_⟩:=I.loc;refine .cons (by rw [I.ok.kind];decide) hf hn ?_ I.funs;exact Heap.get?_none_of_le (Nat.le_trans I.ok.bsz I.ok.above)
theorem Inv.stkSub (I:Inv X pins σ H s):∀ b∈frs X.stack,b∈X.env.locals::X.fs:=λ b hb=>by
  rcases I.ok.stk with e | ⟨e,hf⟩
  · rw [e] at hb;exact List.mem_cons_of_mem _ hb
  · rw [e] at hb;unfold frs at hb;rw [List.filterMap_cons,hf] at hb;exact hb
theorem Inv.stkFree (I:Inv X pins σ H s):∀ b∈frs X.stack,H b=none:=λ b hb=>by
  rcases List.mem_cons.mp (I.stkSub b hb) with e | hb
  · rw [e];exact I.free
  · obtain ⟨_,o,ho,_⟩:=I.ok.funs.mem hb;exact I.base.free b o ho (I.ok.frf b hb) λ z=>I.ok.exfs b z hb
theorem Inv.step {g':Array GenState} {t':Nat} {d':Drawn} {ch:List Addr} (I:Inv X pins σ H s)
    (hch:∀ b∈ch,(b∈X.ex\/X.s₀.heap.objs.size<=b)/\b≠X.env.locals/\(∀ x c,X.env.cells.lookup x=some c->c≠b)/\∀ p∈X.pn++pins,p.1≠b)
    (keep:∀ b o,b≠X.env.locals->b∉X.fs->b∉ch->s.heap.get? b=some o->H b=none->h'.get? b=some o)
    (slot:∀ b o,b≠X.env.locals->b∈X.fs->b∉ch->s.heap.get? b=some o->H b=none->∃ sl,h'.get? b=some { o with slots:=sl }) (free:∀ b o,b∉ch->s.heap.get? b=some o->H b=none->H' b=none)
    (there:∀ b o,b∉ch->s.heap.get? b=some o->∃ o',h'.get? b=some o')
    (tups:∀ b xs,H b=some (.tup xs)->H' b=some (.tup xs)) (frzs:∀ b o u,H b=some (.frz o u)->H' b=some (.frz o u)) (tbls:∀ b ps,H b=some (.tbl ps)->∃ more,H' b=some (.tbl (ps++more)))
    (ns:∀ m,s.heap.Ns X.env.locals m->h'.Ns X.env.locals m) (hok:HOk X.prog X.w H' h') (hg:AllBare g'):
    Inv X pins σ H' { s with heap:=h',gens:=g',drawn:=d',toks:=t' }:=by
  have neL:∀ b o,X.s₀.heap.get? b=some o->b≠X.env.locals:=λ b o e=>Nat.ne_of_lt (Nat.lt_of_lt_of_le (Heap.lt_size e) I.ok.above);have neC:∀ b o,X.s₀.heap.get? b=some o->b∉X.ex->b∉ch:=λ b o e hx hb=>by
    rcases (hch b hb).1 with z | z
    · exact hx z
    · exact absurd (Nat.lt_of_lt_of_le (Heap.lt_size e) z) (Nat.lt_irrefl _)
  have cellK:∀ x c,X.env.cells.lookup x=some c->∀ v,s.heap.IsCell c v->h'.IsCell c v:=λ x c e v ⟨o,ho,hd⟩=>by
    have nch:c∉ch:=λ z=>(hch c z).2.2.1 x c e rfl;by_cases hc:c∈X.fs
    · obtain ⟨sl,q⟩:=slot c o (I.cne x c e) hc nch ho (I.freeC x c e);exact ⟨_,q,hd⟩
    · exact ⟨o,keep c o (I.cne x c e) hc nch ho (I.freeC x c e),hd⟩
  refine ⟨I.ok,I.os,hg,⟨λ b o e n hb hx=> ?_,λ b o e n hb hx=> ?_,λ b o e n hx=> ?_,λ b o e hx=> ?_,λ b xs e=>tups b xs (I.base.tups b xs e),λ b o xs e=>frzs b o xs (I.base.frzs b o xs e),λ b ps e=> ?_⟩,?_,λ x c e=> ?_,?_,λ x c e=> ?_,λ p hp=> ?_,hok,I.len⟩
  · exact keep b o (neL b o e) hb (neC b o e hx) (I.base.keep b o e n hb hx) (I.base.free b o e n hx)
  · obtain ⟨sl,e1⟩:=I.base.slot b o e n hb hx;obtain ⟨sl',e2⟩:=slot b _ (neL b o e) hb (neC b o e hx) e1 (I.base.free b o e n hx);exact ⟨sl',e2⟩
  · obtain ⟨o',e1⟩:=I.base.there b o e hx;exact free b o' (neC b o e hx) e1 (I.base.free b o e n hx)
  · obtain ⟨o',e1⟩:=I.base.there b o e hx;exact there b o' (neC b o e hx) e1
  · obtain ⟨m1,e1⟩:=I.base.tbls b ps e;obtain ⟨m2,e2⟩:=tbls b _ e1;exact ⟨m1++m2,by rw [e2,Array.append_assoc]⟩
  · obtain ⟨m,hn,hl⟩:=I.loc;refine ⟨m,ns m hn,λ i x v e1 e2 e3=> ?_⟩;obtain ⟨u,r,l⟩:=hl i x v e1 e2 e3;refine ⟨u,r,?_⟩;rcases l with l | ⟨k,c,e,z⟩
    · exact .inl l
    · exact .inr ⟨k,c,e,cellK x c e _ z⟩
  · obtain ⟨v,z⟩:=I.cell x c e;exact ⟨v,cellK x c e v z⟩
  · obtain ⟨m,⟨o,_,_,ho,_⟩,_⟩:=I.loc;exact free _ o (λ z=>(hch _ z).2.1 rfl) ho I.free
  · obtain ⟨v,o,ho,hd⟩:=I.cell x c e;exact free c o (λ z=>(hch c z).2.2.1 x c e rfl) ho (I.freeC x c e)
  · obtain ⟨e,n,ne,nf,d⟩:=I.pin p hp;have nch:p.1∉ch:=λ z=>(hch p.1 z).2.2.2 p hp rfl;exact ⟨keep p.1 p.2 ne nf nch e n,free p.1 p.2 nch e n,ne,nf,d⟩
theorem Inv.un {t':Nat} (I:Inv X pins σ H s) (u:Un X.fs [] H H' s.heap h') (hok:HOk X.prog X.w H' h'):Inv X pins σ H' { s with heap:=h',toks:=t' }:=by
  obtain ⟨m,⟨o,es,ep,ho,r⟩,_⟩:=id I.loc;obtain ⟨sl,hL⟩:=u.any ho I.free (by simp);exact I.step (g':=s.gens) (d':=s.drawn) (ch:=[]) (λ _ z=>nomatch z) (λ b o _ hb _ e n=>u.keep b o e n hb (by simp)) (λ b o _ hb _ e n=>u.slot b o e n hb (by simp)) (λ b o _ e n=>u.free b o e n (by simp)) (λ b o _ e=>u.there b o e (by simp)) u.tups u.frzs u.tbls (λ m' hm=>by
    obtain ⟨o',es',ep',ho',r'⟩:=hm;rw [ho] at ho';cases ho';exact ⟨_,es',ep',hL,r'⟩) hok I.bare
theorem Inv.call {g':Array GenState} {t':Nat} {d':Drawn} {ch:List Addr} (I:Inv X pins σ H s) (u:Un (frs X.stack) ch H H' s.heap h') (hok:HOk X.prog X.w H' h') (hg:AllBare g')
    (hch:∀ b∈ch,(b∈X.ex\/X.s₀.heap.objs.size<=b)/\b≠X.env.locals/\(∀ x c,X.env.cells.lookup x=some c->c≠b)/\∀ p∈X.pn++pins,p.1≠b):
    Inv X pins σ H' { s with heap:=h',gens:=g',drawn:=d',toks:=t' }:=by
  obtain ⟨m,⟨o,es,ep,ho,r⟩,_⟩:=id I.loc;obtain ⟨sl,hL⟩:=u.any ho I.free λ z=>(hch _ z).2.1 rfl;exact I.step (ch:=ch) hch (λ b o hL hb hc e n=>u.keep b o e n (λ z=>(List.mem_cons.mp (I.stkSub b z)).elim hL hb) hc) (λ b o _ _ hc e n=>u.any e n hc) (λ b o hc e n=>u.free b o e n hc) (λ b o hc e=>u.there b o e hc) u.tups u.frzs u.tbls (λ m' hm=>by
    obtain ⟨o',es',ep',ho',r'⟩:=hm;rw [ho] at ho';cases ho';exact ⟨_,es',ep',hL,r'⟩) hok hg
theorem Inv.turned {t':Nat} {it:Addr} (I:Inv X pins σ H s) (k:∀ b o,b≠it->s.heap.get? b=some o->h'.get? b=some o) (hn:H it=none) (hL:it≠X.env.locals)
    (h1:it∈X.ex\/X.s₀.heap.objs.size<=it) (h2:∀ x c,X.env.cells.lookup x=some c->c≠it) (h3:∀ p∈X.pn++pins,p.1≠it):Inv X pins σ H { s with heap:=h',toks:=t' }:=by
  have nit:∀ b u,H b=some u->b≠it:=λ b u e z=>by rw [z,hn] at e;cases e
  refine I.step (g':=s.gens) (d':=s.drawn) (ch:=[it]) (λ b hb=> ?_) (λ b o _ _ hc e _=>k b o (λ z=>hc (by simp [z])) e) (λ b o _ _ hc e _=>⟨o.slots,k b o (λ z=>hc (by simp [z])) e⟩) (λ _ _ _ _ n=>n)
    (λ b o hc e=>⟨o,k b o (λ z=>hc (by simp [z])) e⟩) (λ _ _ e=>e) (λ _ _ _ e=>e) (λ b ps e=>⟨#[],by rw [e];simp⟩) (λ m hm=> ?_) (λ b u e=> ?_) I.bare
  · have e:b=it:=by simpa using hb
    subst e;exact ⟨h1,hL,h2,h3⟩
  · obtain ⟨o,es,ep,ho,r⟩:=hm;exact ⟨o,es,ep,k _ o (Ne.symm hL) ho,r⟩
  · refine (I.hok b u e).stay (λ c v hc q=>k c v ?_ q) (λ _ q=>q) λ _ _ q=>q;rcases hc with z | z
    · rw [z];exact nit b u e
    · exact nit c _ z
theorem Inv.tok (I:Inv X pins σ H s) (t:Nat):Inv X pins σ H { s with toks:=t }:=I.un (h':=s.heap) (t':=t) Un.refl I.hok
theorem Inv.kept {t':Nat} (I:Inv X pins σ H s) (k:∀ b u,s.heap.get? b=some u->h'.get? b=some u):Inv X pins σ H { s with heap:=h',toks:=t' }:=I.un (Un.kept k) (I.hok.kept k)
theorem Inv.laid {a:Addr} {o:HO} {t':Nat} (I:Inv X pins σ H s) (k:∀ b u,s.heap.get? b=some u->h'.get? b=some u) (hp:s.heap.objs.size<=a) (new:ObjOk X.prog X.w (upd H a o) h' a o):
    Inv X pins σ (upd H a o) { s with heap:=h',toks:=t' }:=I.un (Un.laid k hp (I.hok.fresh hp)) (I.hok.laid k hp new)
theorem Inv.write {x e:Addr} {o:HO} {t':Nat} (I:Inv X pins σ H s) (mu:Mut (H x)) (he:e=x\/H e=some (.own x)) (k:∀ b u,b≠e->s.heap.get? b=some u->h'.get? b=some u) (heo:∃ u,h'.get? e=some u)
    (new:ObjOk X.prog X.w (upd H x o) h' x o):Inv X pins σ (upd H x o) { s with heap:=h',toks:=t' }:=I.un (Un.write mu he k heo) (I.hok.write mu he k heo new)
theorem Inv.weak {σ':List (Option V)} (I:Inv X pins σ H s) (hl:σ'.length=σ.length) (w:∀ (i:Nat) v,σ'[i]?=some (some v)->σ[i]?=some (some v)):Inv X pins σ' H s:=
  ⟨I.ok,I.os,I.bare,I.base,let ⟨m,hn,hl'⟩:=I.loc;⟨m,hn,λ i x v e1 e2 e3=>hl' i x v e1 (w i v e2) e3⟩,I.cell,I.free,I.freeC,I.pin,I.hok,hl.trans I.len⟩
theorem Inv.pins_of {pins':List (Addr × Obj)} (I:Inv X pins σ H s) (h:∀ p∈pins',s.heap.get? p.1=some p.2/\H p.1=none/\p.1≠X.env.locals/\p.1∉X.fs/\∀ v,p.2.data≠ .cell v):Inv X pins' σ H s:=
  ⟨I.ok,I.os,I.bare,I.base,I.loc,I.cell,I.free,I.freeC,λ p hp=>(List.mem_append.mp hp).elim (λ z=>I.pin p (List.mem_append_left _ z)) (h p),I.hok,I.len⟩
theorem EL {N:List Str} (hN:N.Nodup) {i j:Nat} {x:Str} (a:N[i]?=some x) (b:N[j]?=some x):i=j:=by
  obtain ⟨h1,e1⟩:=List.getElem?_eq_some_iff.mp a;obtain ⟨h2,e2⟩:=List.getElem?_eq_some_iff.mp b;exact (List.getElem_inj hN).mp (e1.trans e2.symm)
theorem HP {M:Model} {A:Around} {E:Value->Shared->Prop} {i:Nat} {x:Str} {v:V} {u:Value} {Q:Unit->Shared->Prop} (I:Inv X pins σ H s) (hN:X.N.Nodup) (hi:X.N[i]?=some x) (hx:Loc X.env.scope x) (r:RelV v u)
    (h:∀ s',Inv X pins (σ.set i (some v)) H s'->(∃ a,Heap.SameBut a s.heap s'.heap/\(a=X.env.locals\/X.env.cells.lookup x=some a))->Q () s') (hf:X.fn x=true\/X.env.scope.names.lookup x=some .local:=by first | exact .inl rfl | exact .inr rfl | assumption):wpAny M A (storeName X.env x u) Q E s:=by
  obtain ⟨m,hn,hl⟩:=id I.loc;have hcls:(X.env.scope.kind == .class||(X.env.scope.kind == .module&&X.env.locals != X.env.globals))=false:=by rw [I.ok.kind];rfl
  have hiσ:i<σ.length:=by rw [I.len];exact (List.getElem?_eq_some_iff.mp hi).1
  have cne:=I.cne;have tracked:∀ {a:Addr} {h':Heap},(∃ o,s.heap.get? a=some o/\H a=none)->Heap.SameBut a s.heap h'->HOk X.prog X.w H h':=λ {a h'} ha hs b ob e=>by
    obtain ⟨_,_,hfree⟩:=ha;refine (I.hok b ob e).stay (λ c w' hc q=>(hs.2 c ?_).trans q) (λ _ q=>q) λ _ _ q=>q;rintro rfl;rcases hc with rfl | hc
    · rw [hfree] at e;cases e
    · rw [hfree] at hc;cases hc
  rcases hx with hk | hk
  · refine wpAny_storeName_local hk hn (λ h' hn' hs=> ?_) hcls;obtain ⟨oL,_,_,hoL,_⟩:=id hn;refine h _ ⟨I.ok,I.os,I.bare,⟨λ b o e n hb hx=> ?_,λ b o e n hb hx=> ?_,I.base.free,λ b o e hx=> ?_,I.base.tups,I.base.frzs,I.base.tbls⟩,⟨_,hn',λ j y v' e1 e2 e3=> ?_⟩,λ y c e=> ?_,I.free,I.freeC,λ p hp=> ?_,tracked ⟨oL,hoL,I.free⟩ hs,by simpa using I.len⟩ ⟨_,hs, .inl rfl⟩
    · exact (hs.2 b (Nat.ne_of_lt (Nat.lt_of_lt_of_le (Heap.lt_size e) I.ok.above))).trans (I.base.keep b o e n hb hx)
    · obtain ⟨sl,e1⟩:=I.base.slot b o e n hb hx;exact ⟨sl,(hs.2 b (Nat.ne_of_lt (Nat.lt_of_lt_of_le (Heap.lt_size e) I.ok.above))).trans e1⟩
    · obtain ⟨o',e1⟩:=I.base.there b o e hx;exact ⟨o',(hs.2 b (Nat.ne_of_lt (Nat.lt_of_lt_of_le (Heap.lt_size e) I.ok.above))).trans e1⟩
    · by_cases hj:j=i
      · subst hj;rw [hi] at e1;cases e1;rw [List.getElem?_set_self hiσ] at e2;cases e2;exact ⟨u,r, .inl ⟨hk,by simp⟩⟩
      · rw [List.getElem?_set_ne (Ne.symm hj)] at e2;obtain ⟨u',r',q⟩:=hl j y v' e1 e2 e3;refine ⟨u',r',?_⟩;rcases q with ⟨k,e⟩ | ⟨k,c,e,z⟩
        · refine .inl ⟨k,?_⟩;have:y≠x:=λ e=>hj (EL hN e1 (e▸hi));simp [this,e]
        · exact .inr ⟨k,c,e,z.sameBut hs (cne y c e)⟩
    · obtain ⟨w',z⟩:=I.cell y c e;exact ⟨w',z.sameBut hs (cne y c e)⟩
    · obtain ⟨e,n,ne,nf,d⟩:=I.pin p hp;exact ⟨(hs.2 p.1 ne).trans e,n,ne,nf,d⟩
  · have hfn:X.fn x=true:=by
      rcases hf with z | z
      · exact z
      · rw [z] at hk;cases hk
    obtain ⟨c,hc⟩:=I.ok.has x (.inl hk);obtain ⟨w',z⟩:=I.cell x c hc;refine wpAny_storeName_cell I.ok.kind hk hc z (λ h' hc' hs=> ?_);obtain ⟨oc,hoc,hocd⟩:=id z;refine h { s with heap:=h' } ⟨I.ok,I.os,I.bare,⟨λ b o e n hb hx=> ?_,λ b o e n hb hx=> ?_,I.base.free,λ b o e hx=> ?_,I.base.tups,I.base.frzs,I.base.tbls⟩,⟨m,hn.sameBut hs (Ne.symm (cne x c hc)),λ j y v' e1 e2 e3=> ?_⟩,λ y c' e=> ?_,I.free,I.freeC,λ p hp=> ?_,tracked ⟨oc,hoc,I.freeC x c hc⟩ hs,by simpa using I.len⟩ ⟨c,hs, .inr hc⟩
    · exact (hs.2 b (Nat.ne_of_lt (Nat.lt_of_lt_of_le (Heap.lt_size e) (I.ok.cab x c hfn hc)))).trans (I.base.keep b o e n hb hx)
    · obtain ⟨sl,e1⟩:=I.base.slot b o e n hb hx;exact ⟨sl,(hs.2 b (Nat.ne_of_lt (Nat.lt_of_lt_of_le (Heap.lt_size e) (I.ok.cab x c hfn hc)))).trans e1⟩
    · obtain ⟨o',e1⟩:=I.base.there b o e hx;exact ⟨o',(hs.2 b (Nat.ne_of_lt (Nat.lt_of_lt_of_le (Heap.lt_size e) (I.ok.cab x c hfn hc)))).trans e1⟩
    · by_cases hj:j=i
      · subst hj;rw [hi] at e1;cases e1;rw [List.getElem?_set_self hiσ] at e2;cases e2;exact ⟨u,r, .inr ⟨.inl hk,c,hc,hc'⟩⟩
      · rw [List.getElem?_set_ne (Ne.symm hj)] at e2;obtain ⟨u',r',q⟩:=hl j y v' e1 e2 e3;refine ⟨u',r',?_⟩;rcases q with q | ⟨k,c',e,z'⟩
        · exact .inl q
        · refine .inr ⟨k,c',e,z'.sameBut hs ?_⟩;rintro rfl;exact hj (EL hN e1 (I.ok.inj _ _ _ e hc▸hi))
    · by_cases hcc:c'=c
      · subst hcc;exact ⟨_,hc'⟩
      · obtain ⟨w2,z2⟩:=I.cell y c' e;exact ⟨w2,z2.sameBut hs hcc⟩
    · obtain ⟨e,n,ne,nf,d⟩:=I.pin p hp;refine ⟨(hs.2 p.1 ?_).trans e,n,ne,nf,d⟩;intro q;rw [q,hoc] at e;have q':oc=p.2:=Option.some.inj e;exact d w' (by rw [<-q'];exact hocd)
theorem BC {M:Model} {A:Around} {E:Value->Shared->Prop} {i:Nat} {x:Str} {v:V} {u:Value} {Q:Unit->Shared->Prop} (I:Inv X pins σ H s) (hN:X.N.Nodup) (hi:X.N[i]?=some x) (hx:Loc X.env.scope x) (r:RelV v u)
    (h:∀ s',Inv X pins (σ.set i (some v)) H s'->Q () s') (hf:X.fn x=true\/X.env.scope.names.lookup x=some .local:=by first | exact .inl rfl | exact .inr rfl | assumption):wpAny M A (storeName X.env x u) Q E s:=
  HP I hN hi hx r (λ s' I' _=>h s' I') hf
theorem Inv.call' {s':Shared} {ch:List Addr} (I:Inv X pins σ H s) (ho:s'.os=s.os) (u:Un (frs X.stack) ch H H' s.heap s'.heap) (hok:HOk X.prog X.w H' s'.heap) (hg:AllBare s'.gens)
    (hch:∀ b∈ch,(b∈X.ex\/X.s₀.heap.objs.size<=b)/\b≠X.env.locals/\(∀ x c,X.env.cells.lookup x=some c->c≠b)/\∀ p∈X.pn++pins,p.1≠b):Inv X pins σ H' s':=by
  obtain ⟨h',g',d',t',o'⟩:=s';have e:o'=s.os:=ho;subst e;exact I.call (g':=g') (t':=t') (d':=d') u hok hg hch
end
abbrev XK:=Value->Option Addr->Hp->Prop
abbrev St:=List (Option V)
abbrev VK:=V->Hp->Prop
abbrev TE:=St->Hp->VK->Prop
abbrev TT:=St->Hp->(Bool->Hp->Prop)->Prop
abbrev TA:=St->Hp->(List V->Hp->Prop)->Prop
structure Ends where
  nx:St->Hp->Prop
  rt:VK
  bk:St->Hp->Prop:=λ _ _=>False
  ct:St->Hp->Prop:=λ _ _=>False
abbrev TS:=Ends->St->Hp->Prop
def EP (X:Cx) (pins:List (Addr × Obj)) (σ:St) (Q:VK) (u:Value) (s':Shared):Prop:=∃ v H',Inv X pins σ H' s'/\RelV v u/\Q v H'
def TP (X:Cx) (pins:List (Addr × Obj)) (σ:St) (Q:Bool->Hp->Prop) (b:Bool) (s':Shared):Prop:=∃ H',Inv X pins σ H' s'/\Q b H'
def AP (X:Cx) (pins:List (Addr × Obj)) (σ:St) (Q:List V->Hp->Prop) (us:List Value) (s':Shared):Prop:=∃ vs H',Inv X pins σ H' s'/\Vals vs us/\Q vs H'
def SP (X:Cx) (pins:List (Addr × Obj)) (D:Ends) (f:Flow) (s':Shared):Prop:=
  match f with
  | .next=>∃ σ' H',Inv X pins σ' H' s'/\D.nx σ' H'
  | .brk=>∃ σ' H',Inv X pins σ' H' s'/\D.bk σ' H'
  | .cont=>∃ σ' H',Inv X pins σ' H' s'/\D.ct σ' H'
  | .ret u=>∃ v σ' H',Inv X pins σ' H' s'/\RelV v u/\D.rt v H'
def PE (X:Cx) (e:Expr) (t:TE):Prop:=
  ∀ (pins:List (Addr × Obj)) (s:Shared) (σ:St) (H:Hp) (Q:VK),Inv X pins σ H s->t σ H Q->wpAny (model X.prog X.w) X.A (eval e X.env) (EP X pins σ Q) X.xe s
def PT (X:Cx) (e:Expr) (t:TT):Prop:=
  ∀ (pins:List (Addr × Obj)) (s:Shared) (σ:St) (H:Hp) (Q:Bool->Hp->Prop),Inv X pins σ H s->t σ H Q->wpAny (model X.prog X.w) X.A (isTrue e X.env (eval e X.env)) (TP X pins σ Q) X.xe s
def PW (X:Cx) (e:Expr) (t:TT):Prop:=
  ∀ (whole:Sem Value) (pins:List (Addr × Obj)) (s:Shared) (σ:St) (H:Hp) (Q:Bool->Hp->Prop),Inv X pins σ H s->t σ H Q->wpAny (model X.prog X.w) X.A (isTrue e X.env whole) (TP X pins σ Q) X.xe s
theorem PW.pt {X:Cx} {e:Expr} {t:TT} (h:PW X e t):PT X e t:=h _
def PA (X:Cx) (es:List Expr) (t:TA):Prop:=
  ∀ (pos:Pos) (pins:List (Addr × Obj)) (s:Shared) (σ:St) (H:Hp) (Q:List V->Hp->Prop),Inv X pins σ H s->t σ H Q->wpAny (model X.prog X.w) X.A (spliced (backTo pos (starEach es X.env))) (AP X pins σ Q) X.xe s
def PS (X:Cx) (st:Stmt) (t:TS):Prop:=
  ∀ (pins:List (Addr × Obj)) (s:Shared) (σ:St) (H:Hp) (D:Ends),Inv X pins σ H s->t D σ H->wpAny (model X.prog X.w) X.A (exec st X.env) (SP X pins D) X.xe s
def PSs (X:Cx) (st:List Stmt) (t:TS):Prop:=
  ∀ (pins:List (Addr × Obj)) (s:Shared) (σ:St) (H:Hp) (D:Ends),Inv X pins σ H s->t D σ H->wpAny (model X.prog X.w) X.A (execs st X.env) (SP X pins D) X.xe s
theorem thn {α:Type} {t:Sem α} {Q Q':α->Shared->Prop} {M:Model} {A:Around} {E:Value->Shared->Prop} {s:Shared} (h:wpAny M A t Q E s) (hQ:∀ a s,Q a s->Q' a s):wpAny M A t Q' E s:=wpAny_mono h hQ λ _ _ x=>x
section
variable {X:Cx}
theorem bin {a b:Expr} {ta tb:TE} (ha:PE X a ta) (hb:PE X b tb) {pins:List (Addr × Obj)} {s:Shared} {σ:St} {H:Hp} {R:V->V->Hp->Prop} (I:Inv X pins σ H s) (h:ta σ H λ x H1=>tb σ H1 λ y H2=>R x y H2)
    {α:Type} {Q:α->Shared->Prop} {f:Value->Value->Sem α}
    (hf:∀ v u s2 x y H2,Inv X pins σ H2 s2->RelV x v->RelV y u->R x y H2->wpAny (model X.prog X.w) X.A (f v u) Q X.xe s2):
    wpAny (model X.prog X.w) X.A (eval a X.env) (λ v s₁=>wpAny (model X.prog X.w) X.A (eval b X.env) (λ u s₂=>wpAny (model X.prog X.w) X.A (f v u) Q X.xe s₂) X.xe s₁) X.xe s:=by
  refine thn (ha pins s σ H _ I h) λ v s1 ⟨x,H1,I1,r1,q1⟩=> ?_;refine thn (hb pins s1 σ H1 _ I1 q1) λ u s2 ⟨y,H2,I2,r2,q2⟩=> ?_;exact hf v u s2 x y H2 I2 r1 r2 q2
def LK (i:Nat):TE:=λ σ H Q=>∃ v,σ[i]?=some (some v)/\Q v H
def tC (v:V):TE:=λ _ H Q=>Q v H
theorem Mw {i:Nat} {x:Str} {pos:Pos} (hN:X.N[i]?=some x) (hv:Vis X.env.scope x) (hd:(x == ("__debug__":Str))=false:=by decide) (hcd:(x == ("__classdict__":Str))=false:=by decide):PE X (.Name x pos) (LK i):=by
  intro pins s σ H Q I h;obtain ⟨v,e,h⟩:=h;obtain ⟨m,hn,hl⟩:=I.loc;obtain ⟨u,r,l⟩:=hl i x v hN e hv;have fin:EP X pins σ Q u s:=⟨v,H,I,r,h⟩;rcases l with ⟨hk,hm⟩ | ⟨hk,c,hc,hcell⟩
  · exact wpAny_Name (wpAny_loadName_local I.ok.kind hk hn hm fin) hd
  · rcases hk with hk | hk
    · exact wpAny_Name (wpAny_loadName_cell I.ok.kind hk hc hcell fin) hd
    · exact wpAny_Name (wpAny_loadName_free I.ok.kind hk hc hcell fin hcd) hd
theorem Af {i j pos}:PE X (.Constant (.int i) j pos) (tC (.int i)):=λ _ _ _ H _ I h=>wpAny_Constant_int ⟨.int i,H,I.tok _,⟨_,rfl⟩,h⟩
theorem Fe {b j pos}:PE X (.Constant (.bool b) j pos) (tC (.bl b)):=λ _ _ _ H _ I h=>Constant_bool ⟨.bl b,H,I,rfl,h⟩
theorem IX {j pos}:PE X (.Constant .none j pos) (tC .non):=λ _ _ _ H _ I h=>Constant_none ⟨.non,H,I,rfl,h⟩
theorem AJ {x j pos}:PE X (.Constant (.str x) j pos) (tC (.str x)):=λ _ _ _ H _ I h=>Calls.Constant_str ⟨.str x,H,I.tok _,⟨_,rfl⟩,h⟩
def Gl (X:Cx) (x:Str):Prop:=X.env.kindOf x=some .globalImplicit
theorem C6 {E:Value->Shared->Prop} {pins:List (Addr × Obj)} {s:Shared} {σ:St} {H:Hp} {x:Str} {u:Value} {pos:Pos} {Q:Value->Shared->Prop} (I:Inv X pins σ H s) (hg:Gl X x) (hm:X.mg x=some u) (h:Q u s)
    (hd:(x == ("__debug__":Str))=false:=by decide):wpAny (model X.prog X.w) X.A (eval (.Name x pos) X.env) Q E s:=
  Calls.Name_function_global I.ok.kind hg (Calls.loadGlobal_global (by rw [I.ok.glob];exact I.mod.glob.keeps I.bk) hm h) hd
theorem CS {E:Value->Shared->Prop} {pins:List (Addr × Obj)} {s:Shared} {σ:St} {H:Hp} {x:Str} {u:Value} {pos:Pos} {Q:Value->Shared->Prop} (I:Inv X pins σ H s) (hg:Gl X x) (hm:X.mg x=none) (hv:bootBuiltins x=some u) (h:Q u s)
    (hn:x≠"__name__":=by decide) (hd:(x == ("__debug__":Str))=false:=by decide):wpAny (model X.prog X.w) X.A (eval (.Name x pos) X.env) Q E s:=by
  obtain ⟨mb,h1,h2⟩:=I.mod.blt;exact Calls.Name_function_global I.ok.kind hg (Calls.loadGlobal_builtin (by rw [I.ok.glob];exact I.mod.glob.keeps I.bk) hm (by rw [I.ok.blt];exact h1.keeps I.bk) ((h2 x hn).trans hv) h) hd
theorem Hz {x:Str} {v:V} {u:Value} {pos:Pos} (hg:Gl X x) (hm:X.mg x=some u) (r:RelV v u) (hd:(x == ("__debug__":Str))=false:=by decide):PE X (.Name x pos) (tC v):=
  λ _ _ _ H _ I h=>C6 I hg hm ⟨v,H,I,r,h⟩ hd
theorem Kd {x:Str} {v:V} {u:Value} {pos:Pos} (hg:Gl X x) (hm:X.mg x=none) (hv:bootBuiltins x=some u) (r:RelV v u) (hn:x≠"__name__":=by decide) (hd:(x == ("__debug__":Str))=false:=by decide):PE X (.Name x pos) (tC v):=
  λ _ _ _ H _ I h=>CS I hg hm hv ⟨v,H,I,r,h⟩ hn hd
variable {a b:Expr} {ta tb:TE} {pos:Pos}
def PC (X:Cx) (op:CmpOp) (a b:Expr) (t:TE):Prop:=
  ∀ (pins:List (Addr × Obj)) (s:Shared) (σ:St) (H:Hp) (Q:VK),Inv X pins σ H s->t σ H Q->
    wpAny (model X.prog X.w) X.A (eval a X.env) (λ v s₁=>wpAny (model X.prog X.w) X.A (eval b X.env) (λ u s₂=>wpAny (model X.prog X.w) X.A (compareOp op v u) (EP X pins σ Q) X.xe s₂) X.xe s₁) X.xe s
theorem Jz (b:Expr) {op:CmpOp} (h:op≠ .In) (h2:op≠ .NotIn):behindInMarks op b=false:=by
  have e1:(op == CmpOp.In)=false:=by cases op <;> first | rfl | exact absurd rfl h
  have e2:(op == CmpOp.NotIn)=false:=by cases op <;> first | rfl | exact absurd rfl h2
  cases b <;> simp [behindInMarks,e1,e2]
def tB (t:TE):TT:=λ σ H Q=>t σ H λ x H1=>∃ c,x= .bl c/\Q c H1
theorem OA {op:CmpOp} {t:TE} (h:PC X op a b t) (h1:behindInMarks op b=false:=by first | exact Jz _ (by decide) (by decide) | rfl):PT X (.Compare a [op] [b] pos) (tB t):=by
  intro pins s σ H Q I hw;refine wpAny_isTrue_Compare1 (thn (h pins s σ H _ I hw) λ v s1 h1=>thn h1 λ u s2 h2=>thn h2 λ c s3 ⟨x,H1,I1,r1,q1⟩=> ?_) h1;obtain ⟨d,rfl,q⟩:=q1;cases r1;exact wpAny_truthy_bool ⟨H1,I1,q⟩
theorem BO {e:Expr} {t:TE} (h:PE X e t) (he:∀ whole,isTrue e X.env whole=(do let v <-whole;standAt e.pos;holding [v] (truthy v)):=by intro _;rfl):PT X e (tB t):=by
  intro pins s σ H Q I hw;refine isTrue_plain (thn (h pins s σ H _ I hw) λ v s1 ⟨x,H1,I1,r1,q1⟩=> ?_) (he _);obtain ⟨d,rfl,q⟩:=q1;cases r1;exact wpAny_truthy_bool ⟨H1,I1,q⟩
variable {tA tB':TT} {rest:List Expr}
def Nr (t u:TT):TT:=λ σ H Q=>t σ H λ c H1=>if c=true then u σ H1 Q else Q false H1
def tOr (t u:TT):TT:=λ σ H Q=>t σ H λ c H1=>if c=true then Q true H1 else u σ H1 Q
def NC (t:TT):TT:=λ σ H Q=>t σ H λ c H1=>Q (!c) H1
theorem Kk (ha:PT X a tA):PW X (.BoolOp .And [a] pos) tA:=by
  intro wh pins s σ H Q I h;refine isTrue_and (thn (ha pins s σ H Q I h) λ c s1 e=> ?_);cases c with
  | true=>exact isTrue_and_nil e
  | false=>exact e
theorem F3 (ha:PT X a tA):PW X (.BoolOp .Or [a] pos) tA:=by
  intro wh pins s σ H Q I h;refine isTrue_or (thn (ha pins s σ H Q I h) λ c s1 e=> ?_);cases c with
  | false=>exact isTrue_or_nil e
  | true=>exact e
theorem MJ (ha:PT X a tA) (hb:PW X (.BoolOp .And (b::rest) pos) tB'):PW X (.BoolOp .And (a::b::rest) pos) (Nr tA tB'):=by
  intro wh pins s σ H Q I h;refine isTrue_and (thn (ha pins s σ H _ I h) λ c s1 ⟨H1,I1,q1⟩=> ?_);cases c with
  | true=>exact hb wh pins s1 σ H1 Q I1 q1
  | false=>exact ⟨H1,I1,q1⟩
theorem HB (ha:PT X a tA) (hb:PW X (.BoolOp .Or (b::rest) pos) tB'):PW X (.BoolOp .Or (a::b::rest) pos) (tOr tA tB'):=by
  intro wh pins s σ H Q I h;refine isTrue_or (thn (ha pins s σ H _ I h) λ c s1 ⟨H1,I1,q1⟩=> ?_);cases c with
  | true=>exact ⟨H1,I1,q1⟩
  | false=>exact hb wh pins s1 σ H1 Q I1 q1
theorem DA (ha:PT X a tA):PT X (.UnaryOp .Not a pos) (NC tA):=by
  intro pins s σ H Q I h;exact isTrue_not (ha pins s σ H (λ c H1=>Q (!c) H1) I h)
def Ly (ta tb:TE):TE:=λ σ H Q=>ta σ H λ x H1=>∃ c,x= .bl c/\if c=true then tb σ H1 Q else Q (.bl false) H1
def Lq (ta:TE):TE:=λ σ H Q=>ta σ H λ x H1=>∃ c,x= .bl c/\Q (.bl (!c)) H1
theorem G2 {op} {t:TE} (h:PE X a t):PE X (.BoolOp op [a] pos) t:=λ pins s σ H Q I hw=>BoolOp_one (h pins s σ H Q I hw)
theorem G3 (ha:PE X a ta) (hb:PE X (.BoolOp .And (b::rest) pos) tb):PE X (.BoolOp .And (a::b::rest) pos) (Ly ta tb):=by
  intro pins s σ H Q I h;refine BoolOp_and (thn (ha pins s σ H _ I h) λ v s1 ⟨x,H1,I1,r1,q1⟩=> ?_);obtain ⟨c,rfl,q1⟩:=q1;cases r1;refine wpAny_truthy_bool ?_;cases c with
  | true=>exact hb pins s1 σ H1 Q I1 q1
  | false=>exact ⟨.bl false,H1,I1,rfl,q1⟩
theorem JQ (ha:PE X a ta):PE X (.UnaryOp .Not a pos) (Lq ta):=by
  intro pins s σ H Q I h;refine UnaryOp_ (thn (ha pins s σ H _ I h) λ v s1 ⟨x,H1,I1,r1,q1⟩=> ?_);obtain ⟨c,rfl,q1⟩:=q1;cases r1;exact not_of (wpAny_truthy_bool ⟨.bl (!c),H1,I1,rfl,q1⟩)
def tIf (t:TT) (ta tb:TE):TE:=λ σ H Q=>t σ H λ c H1=>if c=true then ta σ H1 Q else tb σ H1 Q
theorem CZ {c:Expr} (hc:PT X c tA) (ha:PE X a ta) (hb:PE X b tb):PE X (.IfExp c a b pos) (tIf tA ta tb):=by
  intro pins s σ H Q I h;refine wpAny_IfExp (thn (hc pins s σ H _ I h) λ d s1 ⟨H1,I1,q1⟩=> ?_);cases d with
  | true=>exact ha pins s1 σ H1 Q I1 q1
  | false=>exact hb pins s1 σ H1 Q I1 q1
end
def SqL (K:PySem.W.Frag) (H:Hp) (a:Addr) (xs:List V):Prop:=
  Rd H a (.lst xs)\/
    ∃ (o:Obj) (its:Array Value) (n:Nat),K.lookup a=some o/\o.cls= .type "list"/\o.dict=none/\o.data= .seq its n/\its.size<=sizeLine/\Vals xs its.toList
def SqT (K:PySem.W.Frag) (H:Hp) (a:Addr) (xs:List V):Prop:=
  Rd H a (.tup xs)\/
    ∃ (o:Obj) (its:Array Value) (n:Nat),K.lookup a=some o/\o.cls= .type "tuple"/\o.data= .seq its n/\its.size<=sizeLine/\Vals xs its.toList
def NR:Value->Option V
  | .none=>some .non
  | .bool b=>some (.bl b)
  | .int i _=>some (.int i)
  | .str x _=>some (.str x)
  | .bytes b _=>some (.byt b)
  | .float b _=>some (.flt b)
  | .ref a=>some (.ref a)
  | .type n=>some (.ty n)
  | _=>none
theorem RelV.abs {x:V} {u:Value} (r:RelV x u):NR u=some x:=by
  cases x with
  | non=>cases r;rfl
  | bl _=>cases r;rfl
  | int _=>obtain ⟨t,rfl⟩:=r;rfl
  | str _=>obtain ⟨t,rfl⟩:=r;rfl
  | byt _=>obtain ⟨t,rfl⟩:=r;rfl
  | flt _=>obtain ⟨t,rfl⟩:=r;rfl
  | ref _=>cases r;rfl
  | ty _=>cases r;rfl
theorem RelV.inj {x y:V} {u:Value} (r:RelV x u) (q:RelV y u):x=y:=Option.some.inj (r.abs.symm.trans q.abs)
theorem Vals.inj:∀ {xs ys:List V} {us:List Value},Vals xs us->Vals ys us->xs=ys
  | _,_,_, .nil, .nil=>rfl
  | _,_,_, .cons r t, .cons r' t'=>by rw [r.inj r',Vals.inj t t']
section
variable {X:Cx} {pins:List (Addr × Obj)} {σ:St} {H:Hp} {s:Shared} {a:Addr} {xs ys:List V}
theorem SqL.of {K:PySem.W.Frag} (h:H a=some (.lst xs)):SqL K H a xs:= .inl (.inl h)
theorem SqT.of {K:PySem.W.Frag} (h:H a=some (.tup xs)):SqT K H a xs:= .inl (.inl h)
theorem Inv.list (I:Inv X pins σ H s) (h:SqL X.K H a xs):∃ its:List Value,Vals xs its/\PlainL s.heap a its.toArray/\xs.length<=sizeLine:=by
  rcases h with h | ⟨o,its,n,hk,hc,hd,hs,hz,r⟩
  · obtain ⟨z,its,n,r,e⟩:=h.ok I.hok;exact ⟨its,r,⟨_,n,e,rfl,rfl,rfl⟩,z⟩
  · refine ⟨its.toList,r,⟨o,n,I.kIn a o hk,hc,hd,by simpa using hs⟩,?_⟩;have e:=r.length;simp only [Array.length_toList] at e;omega
theorem Inv.tuple (I:Inv X pins σ H s) (h:SqT X.K H a xs):∃ its:List Value,Vals xs its/\IsTup s.heap a its.toArray/\xs.length<=sizeLine:=by
  rcases h with h | ⟨o,its,n,hk,hc,hs,hz,r⟩
  · obtain ⟨z,its,r,p⟩:=h.ok I.hok;exact ⟨its,r,p,z⟩
  · refine ⟨its.toList,r,⟨o,I.kIn a o hk,hc,n,by simpa using hs⟩,?_⟩;have e:=r.length;simp only [Array.length_toList] at e;omega
theorem Inv.list_inj (I:Inv X pins σ H s) (h:SqL X.K H a xs) (h':SqL X.K H a ys):xs=ys:=by
  obtain ⟨its,r,⟨o,n,e,_,_,d⟩,_⟩:=I.list h;obtain ⟨its',r',⟨o',n',e',_,_,d'⟩,_⟩:=I.list h';rw [e] at e';cases e';rw [d] at d';injection d' with d1 _;have:its=its':=by simpa using congrArg Array.toList d1
  subst this;exact r.inj r'
theorem Inv.tuple_inj (I:Inv X pins σ H s) (h:SqT X.K H a xs) (h':SqT X.K H a ys):xs=ys:=by
  obtain ⟨its,r,⟨o,e,_,n,d⟩,_⟩:=I.tuple h;obtain ⟨its',r',⟨o',e',_,n',d'⟩,_⟩:=I.tuple h';rw [e] at e';cases e';rw [d] at d';injection d' with d1 _;have:its=its':=by simpa using congrArg Array.toList d1
  subst this;exact r.inj r'
end
abbrev Cx.wish (X:Cx) (E:Value->Shared->Prop):Cx:={ X with xe:=E }
abbrev Cx.nox (X:Cx):Cx:=X.wish λ _ _=>False
theorem Cx.Ok.wish {X:Cx} (ok:X.Ok) (E:Value->Shared->Prop):(X.wish E).Ok:=
  ⟨ok.mod,ok.kind,ok.glob,ok.blt,ok.above,ok.inj,ok.has,ok.cab,ok.hd,ok.frames,ok.stk,ok.exf,ok.bs,ok.bsz,ok.noex,ok.exfs,ok.funs,ok.frf⟩
theorem Cx.Ok.unwish {X:Cx} {E:Value->Shared->Prop} (ok:(X.wish E).Ok):X.Ok:=
  ⟨ok.mod,ok.kind,ok.glob,ok.blt,ok.above,ok.inj,ok.has,ok.cab,ok.hd,ok.frames,ok.stk,ok.exf,ok.bs,ok.bsz,ok.noex,ok.exfs,ok.funs,ok.frf⟩
section
variable {X:Cx} {pins:List (Addr × Obj)} {σ:St} {H:Hp} {s:Shared} {E:Value->Shared->Prop}
theorem Inv.wish (I:Inv X pins σ H s) (E:Value->Shared->Prop):Inv (X.wish E) pins σ H s:=⟨I.ok.wish E,I.os,I.bare,I.base,I.loc,I.cell,I.free,I.freeC,I.pin,I.hok,I.len⟩
theorem Inv.unwish (I:Inv (X.wish E) pins σ H s):Inv X pins σ H s:=⟨I.ok.unwish,I.os,I.bare,I.base,I.loc,I.cell,I.free,I.freeC,I.pin,I.hok,I.len⟩
theorem SP.unwish {D:Ends} {f:Flow} {s':Shared} (h:SP (X.wish E) pins D f s'):SP X pins D f s':=by
  cases f with
  | next=>obtain ⟨σ',H',I,q⟩:=h;exact ⟨σ',H',I.unwish,q⟩
  | brk=>obtain ⟨σ',H',I,q⟩:=h;exact ⟨σ',H',I.unwish,q⟩
  | cont=>obtain ⟨σ',H',I,q⟩:=h;exact ⟨σ',H',I.unwish,q⟩
  | ret u=>obtain ⟨v,σ',H',I,r,q⟩:=h;exact ⟨v,σ',H',I.unwish,r,q⟩
theorem PSs.nox {st:List Stmt} {t:TS} (h:PSs X.nox st t):PSs X st t:=λ pins s σ H D I hw=>
  wpAny_mono (h pins s σ H D (I.wish _) hw) (λ _ _ q=>q.unwish) λ _ _ z=>False.elim z
end
section
variable {X:Cx} {st:Stmt} {rest:List Stmt} {t u:TS} {e:Expr} {te:TE} {pos:Pos}
def Lw:TS:=λ D σ H=>D.nx σ H
def Np (t u:TS):TS:=λ D σ H=>t { D with nx:=u D } σ H
theorem AQ:PSs X [] Lw:=λ _ _ σ H _ I h=>wpAny_execs_nil ⟨σ,H,I,h⟩
theorem Ag (h1:PS X st t) (h2:PSs X rest u):PSs X (st::rest) (Np t u):=by
  intro pins s σ H D I h;refine wpAny_execs_cons (thn (h1 pins s σ H { D with nx:=u D } I h) λ f s1 q=> ?_);cases f with
  | next=>
    obtain ⟨σ',H',I',q⟩:=q;exact h2 pins s1 σ' H' D I' q
  | ret v=>exact q
  | brk=>exact q
  | cont=>exact q
theorem Ai (h1:PS X st t):PSs X [st] t:=by
  intro pins s σ H D I h;refine wpAny_execs_cons (thn (h1 pins s σ H D I h) λ f s1 q=> ?_);cases f with
  | next=>exact wpAny_execs_nil q
  | ret v=>exact q
  | brk=>exact q
  | cont=>exact q
theorem Inv.quiet {pins:List (Addr × Obj)} {σ:St} {H:Hp} {s:Shared} (I:Inv X pins σ H s):interactive X.env=false:=by simp [interactive,I.ok.kind]
def Lk (te:TE):TS:=λ D σ H=>te σ H λ _ H1=>D.nx σ H1
theorem Dc (he:PE X e te) (hs:swapsWith e none pos.line X.env=pure false:=by rfl):PS X (.Expr e pos) (Lk te):=by
  intro pins s σ H D I h;exact wpAny_Expr_any (thn (he pins s σ H _ I h) λ v s1 ⟨x,H1,I1,r1,q1⟩=>⟨σ,H1,I1,q1⟩) I.quiet hs
def NF (te:TE):TS:=λ D σ H=>te σ H D.rt
theorem Aq (he:PE X e te):PS X (.Return (some e) pos) (NF te):=by
  intro pins s σ H D I h;exact wpAny_Return_some (thn (he pins s σ H _ I h) λ v s1 ⟨x,H1,I1,r1,q1⟩=>⟨x,σ,H1,I1,r1,q1⟩)
def Nk (c:TT) (t u:TS):TS:=λ D σ H=>c σ H λ b H1=>if b=true then t D σ H1 else u D σ H1
theorem BR {c:Expr} {a b:List Stmt} {tc:TT} (hc:PT X c tc) (ha:PSs X a t) (hb:PSs X b u):PS X (.If c a b pos) (Nk tc t u):=by
  intro pins s σ H D I h;refine wpAny_If (thn (hc pins s σ H _ I h) λ d s1 ⟨H1,I1,q1⟩=> ?_);cases d with
  | true=>exact ha pins s1 σ H1 D I1 q1
  | false=>exact hb pins s1 σ H1 D I1 q1
end
abbrev TG:=V->St->Hp->(St->Hp->Prop)->Prop
abbrev TGs:=List V->St->Hp->(St->Hp->Prop)->Prop
def PG (X:Cx) (target:Expr) (t:TG):Prop:=
  ∀ (pins:List (Addr × Obj)) (s:Shared) (σ:St) (H:Hp) (v:V) (u:Value) (Q:St->Hp->Prop),Inv X pins σ H s->RelV v u->t v σ H Q->
    wpAny (model X.prog X.w) X.A (assign target X.env u) (λ _ s'=>∃ σ' H',Inv X pins σ' H' s'/\Q σ' H') X.xe s
def PGs (X:Cx) (ts:List Expr) (t:TGs):Prop:=
  ∀ (pins:List (Addr × Obj)) (s:Shared) (σ:St) (H:Hp) (vs:List V) (us:List Value) (Q:St->Hp->Prop),Inv X pins σ H s->Vals vs us->t vs σ H Q->
    wpAny (model X.prog X.w) X.A (assignInOrder ((assignEach ts X.env).map (·.2)) us) (λ _ s'=>∃ σ' H',Inv X pins σ' H' s'/\Q σ' H') X.xe s
abbrev TIp:=V->V->Hp->VK->Prop
def PIp (X:Cx) (op:Operator) (t:TIp):Prop:=
  ∀ (pins:List (Addr × Obj)) (s:Shared) (σ:St) (H:Hp) (x y:V) (v u:Value) (Q:VK),Inv X pins σ H s->RelV x v->RelV y u->t x y H Q->
    wpAny (model X.prog X.w) X.A (inplaceOp op v u) (EP X pins σ Q) X.xe s
section
variable {X:Cx} {pos:Pos}
def AB (i:Nat):TG:=λ v σ H Q=>Q (σ.set i (some v)) H
theorem AU {i:Nat} {x:Str} (hN:X.N.Nodup) (hi:X.N[i]?=some x) (hx:Loc X.env.scope x) (hf:X.fn x=true\/X.env.scope.names.lookup x=some .local:=by first | exact .inl rfl | exact .inr rfl | assumption):PG X (.Name x pos) (AB i):=by
  intro pins s σ H v u Q I r h;exact wpAny_assign_Name (BC I hN hi hx r (λ s' I'=>⟨_,H,I',h⟩) hf)
def Hn:TGs:=λ vs σ H Q=>vs=[]/\Q σ H
def Bx (t:TG) (u:TGs):TGs:=λ vs σ H Q=>∃ v r,vs=v::r/\t v σ H λ σ' H'=>u r σ' H' Q
theorem KY:PGs X [] Hn:=by
  intro pins s σ H vs us Q I r h;obtain ⟨e,h⟩:=h;subst e;cases r;exact assignInOrder_nil ⟨σ,H,I,h⟩
theorem GJ {e:Expr} {es:List Expr} {t:TG} {u:TGs} (h1:PG X e t) (h2:PGs X es u)
    (hs:(assignEach (e::es) X.env).map (·.2)=assign e X.env::(assignEach es X.env).map (·.2):=by rfl):PGs X (e::es) (Bx t u):=by
  intro pins s σ H vs us Q I r h;obtain ⟨v,vr,e1,h⟩:=h;subst e1;cases r with
  | cons r rr=>
    rw [hs];refine assignInOrder_cons (thn (h1 pins s σ H _ _ _ I r h) λ _ s1 ⟨σ1,H1,I1,q1⟩=> ?_);exact h2 pins s1 σ1 H1 _ _ Q I1 rr q1
def G4 (K:PySem.W.Frag) (n:Nat) (t:TGs):TG:=λ v σ H Q=>∃ a xs,v= .ref a/\SqT K H a xs/\xs.length=n/\t xs σ H Q
theorem Md {es:List Expr} {k:Nat} {t:TGs} {n:Nat} (hc:X.calm=true) (h:PGs X es t)
    (hn:(assignEach es X.env).length=n:=by rfl) (hst:(assignEach es X.env).findIdx? (·.1)=none:=by rfl):PG X (.Tuple es k pos) (G4 X.K n t):=by
  intro pins s σ H v u Q I r hw;obtain ⟨a,xs,e1,hq,hl,hw⟩:=hw;subst e1;cases r;obtain ⟨its,rv,ht,hz⟩:=I.tuple hq;refine assign_Tuple_tuple (I.ok.hd hc) ht (by simp [hn, <-hl,rv.length]) hst λ h' hx=> ?_;have I1:Inv X pins σ H { s with heap:=h' }:=I.kept (t':=s.toks) λ b o e=>hx b o (Nat.ne_of_lt (Heap.lt_size e)) e;exact h pins _ σ H xs _ Q I1 (by simpa using rv) hw
def Ka (te:TE) (g:TG):TS:=λ D σ H=>te σ H λ x H1=>g x σ H1 D.nx
theorem An {i:Nat} {x:Str} {e:Expr} {te:TE} {pos':Pos} (hN:X.N.Nodup) (hi:X.N[i]?=some x) (hx:Loc X.env.scope x) (he:PE X e te) (hs:swapsWith e (some (.Name x pos')) pos.line X.env=pure false:=by rfl) (hf:X.fn x=true\/X.env.scope.names.lookup x=some .local:=by first | exact .inl rfl | exact .inr rfl | assumption):
    PS X (.Assign [.Name x pos'] e pos) (Ka te (AB i)):=by
  intro pins s σ H D I h;refine wpAny_Assign_Name (thn (he pins s σ H _ I h) λ v s1 ⟨y,H1,I1,r1,q1⟩=> ?_) hs;exact BC I1 hN hi hx r1 (λ s2 I2=>⟨_,H1,I2,q1⟩) hf
def Nv (i:Nat) (te:TE) (ti:TIp):TS:=λ D σ H=>∃ x,σ[i]?=some (some x)/\te σ H λ y H1=>ti x y H1 λ z H2=>D.nx (σ.set i (some z)) H2
theorem II {i:Nat} {x:Str} {e:Expr} {te:TE} {op:Operator} {ti:TIp} {pos':Pos} (hN:X.N.Nodup) (hi:X.N[i]?=some x) (hx:Loc X.env.scope x) (he:PE X e te) (ho:PIp X op ti) (hf:X.fn x=true\/X.env.scope.names.lookup x=some .local:=by first | exact .inl rfl | exact .inr rfl | assumption):
    PS X (.AugAssign (.Name x pos') op e pos) (Nv i te ti):=by
  intro pins s σ H D I h;obtain ⟨v,e1,h⟩:=h;obtain ⟨m,hn,hl⟩:=I.loc;have vis:Vis X.env.scope x:=by rcases hx with k | k;exact .inl k;exact .inr (.inl k)
  obtain ⟨u,r,l⟩:=hl i x v hi e1 vis;refine wpAny_AugAssign_Name ?_;have go:wpAny (model X.prog X.w) X.A (eval e X.env) (λ w s₂=>wpAny (model X.prog X.w) X.A (inplaceOp op u w) (λ r s₃=>wpAny (model X.prog X.w) X.A (storeName X.env x r) (λ _=>SP X pins D .next) X.xe s₃) X.xe s₂) X.xe s:=by
    refine thn (he pins s σ H _ I h) λ w s1 ⟨y,H1,I1,r1,q1⟩=> ?_;refine thn (ho pins s1 σ H1 v y u w _ I1 r r1 q1) λ z s2 ⟨zv,H2,I2,r2,q2⟩=> ?_;exact BC I2 hN hi hx r2 (λ s3 I3=>⟨_,H2,I3,q2⟩) hf
  rcases l with ⟨hk,hm⟩ | ⟨hk,c,hc,hcell⟩
  · exact wpAny_loadName_local I.ok.kind hk hn hm go
  · rcases hk with hk | hk
    · exact wpAny_loadName_cell I.ok.kind hk hc hcell go
    · rcases hx with k | k
      · have:X.env.scope.names.lookup x=some .free:=hk;rw [k] at this;cases this
      · have:X.env.scope.names.lookup x=some .free:=hk;rw [k] at this;cases this
end
section
variable {X:Cx} {pos:Pos}
end
structure It where
  go:Nat->Hp->Prop
  yld:Nat->Hp->V->Hp->Prop
  stop:Nat->Hp->Prop
def Ck (X:Cx) (pins:List (Addr × Obj)) (H:Hp) (b:Addr):Prop:=
  H b=none/\b≠X.env.locals/\b∉X.fs/\(b∈X.ex\/X.s₀.heap.objs.size<=b)/\(∀ x c,X.env.cells.lookup x=some c->c≠b)/\∀ p∈X.pn++pins,p.1≠b
theorem Inv.fpOk {X:Cx} {pins:List (Addr × Obj)} {σ:St} {H H':Hp} {s:Shared} {b:Addr} (I:Inv X pins σ H s) (hb:s.heap.objs.size<=b) (hn:H' b=none):Ck X pins H' b:=by
  refine ⟨hn,Nat.ne_of_gt (Nat.lt_of_lt_of_le I.lt hb),I.nofs hb, .inr (Nat.le_trans I.sz hb),λ x c e z=> ?_,λ p hp z=> ?_⟩
  · obtain ⟨v,q⟩:=I.cell x c e;exact absurd (Nat.lt_of_lt_of_le q.lt (by rw [z];exact hb)) (Nat.lt_irrefl _)
  · exact absurd (Nat.lt_of_lt_of_le (Heap.lt_size (I.pin p hp).1) (by rw [z];exact hb)) (Nat.lt_irrefl _)
structure Turn (P:Program) (w:World) (K:PySem.W.Frag) (tg:Expr) (J:It) (fp:List Addr) (it:Addr) (tn:Nat->Heap->Prop):Prop where
  mem:it∈fp
  obj:∀ i h,tn i h->∀ b∈fp,∃ o,h.get? b=some o/\∀ v,o.data≠ .cell v
  keep:∀ i h h',tn i h->(∀ b∈fp,∀ o,h.get? b=some o->h'.get? b=some o)->tn i h'
  item:∀ (X:Cx),X.prog=P->X.w=w->X.K=K->X.calm=true->∀ (i:Nat) (pins:List (Addr × Obj)) (s:Shared) (σ:St) (H:Hp) (E:Value->Shared->Prop),Inv X pins σ H s->(∀ b∈fp,Ck X pins H b)->tn i s.heap->J.go i H->
    wpAny (model P w) X.A (pyNext (.ref it)) (λ r s1=>∃ u,r=some u/\
      wpAny (model P w) X.A (letOwnedTupleGo tg (.ref it) u) (λ _ s2=>∃ x H',Inv X pins σ H' s2/\RelV x u/\J.yld i H x H'/\tn (i+1) s2.heap/\∀ b∈fp,H' b=none) E s1) E s
  done:∀ (X:Cx),X.prog=P->X.w=w->X.K=K->X.calm=true->∀ (i:Nat) (pins:List (Addr × Obj)) (s:Shared) (σ:St) (H:Hp) (E:Value->Shared->Prop),Inv X pins σ H s->(∀ b∈fp,Ck X pins H b)->tn i s.heap->J.stop i H->
    wpAny (model P w) X.A (pyNext (.ref it)) (λ r s1=>r=none/\Inv X pins σ H s1) E s
  self:∀ (A:Around) (i:Nat) (s:Shared) (Q:Value->Shared->Prop) (E:Value->Shared->Prop),tn i s.heap->Q (.ref it) s->wpAny (model P w) A (pyIter (.ref it)) Q E s
abbrev TI:=St->Hp->(It->Hp->Prop)->Prop
def PIE (X:Cx) (pins:List (Addr × Obj)) (σ:St) (tg:Expr) (R:It->Hp->Prop) (itv:Value) (s2:Shared):Prop:=
  ∃ (it:Addr) (fp:List Addr) (tn:Nat->Heap->Prop) (J:It) (H':Hp),itv= .ref it/\Inv X pins σ H' s2/\Turn X.prog X.w X.K tg J fp it tn/\tn 0 s2.heap/\(∀ b∈fp,Ck X pins H' b)/\R J H'
def PI (X:Cx) (tg iter:Expr) (wi:TI):Prop:=
  ∀ (pins:List (Addr × Obj)) (s:Shared) (σ:St) (H:Hp) (R:It->Hp->Prop),Inv X pins σ H s->wi σ H R->
    wpAny (model X.prog X.w) X.A (eval iter X.env) (λ v s1=>wpAny (model X.prog X.w) X.A (pyIter v) (PIE X pins σ tg R) X.xe s1) X.xe s
theorem J3 {M:Model} {A:Around} {E:Value->Shared->Prop} {s:Shared} {tg:Expr} {it:Addr} {u:Value} {o:Obj} {n:String} {vs:Array Value} {Q:Unit->Shared->Prop} (ho:s.heap.get? it=some o) (hc:o.cls= .type n) (hd:o.data= .fields vs)
    (hn:["enumerate","zip","dict_itemiterator","dict_reverseitemiterator","odict_iterator","itertools.zip_longest","itertools.pairwise"].contains n=false) (hQ:Q () s):wpAny M A (letOwnedTupleGo tg (.ref it) u) Q E s:=by
  unfold letOwnedTupleGo;cases tg <;> first
    | exact wpAny_pure hQ
    | (cases u <;> first
        | exact wpAny_pure hQ
        | (refine wpAny_bind (wpAny_load ho ?_)
           rw [hc,hd];show wpAny M A (if (["enumerate","zip","dict_itemiterator","dict_reverseitemiterator","odict_iterator","itertools.zip_longest","itertools.pairwise"].contains n&&vs[0]? == some (rawInt _))=true then _ else _) Q E s;rw [if_neg (by intro h;rw [hn,Bool.false_and] at h;cases h)];exact wpAny_pure hQ))
def Itl (K:PySem.W.Frag) (a:Addr):It:=
  ⟨λ i H=>∃ xs x,SqL K H a xs/\xs[i]?=some x,λ i H x H'=>H'=H/\∀ xs,SqL K H a xs->xs[i]?=some x,λ i H=>∃ xs,SqL K H a xs/\xs.length<=i⟩
def Itt (K:PySem.W.Frag) (a:Addr):It:=
  ⟨λ i H=>∃ xs x,SqT K H a xs/\xs[i]?=some x,λ i H x H'=>H'=H/\∀ xs,SqT K H a xs->xs[i]?=some x,λ i H=>∃ xs,SqT K H a xs/\xs.length<=i⟩
def Itr (lo:Int) (n:Nat):It:=⟨λ i _=>i<n,λ i H x H'=>H'=H/\x= .int (lo+i),λ i _=>n<=i⟩
theorem Fl {P:Program} {w:World} {K:PySem.W.Frag} {tg:Expr} (a it:Addr):Turn P w K tg (Itl K a) [it] it (λ i h=>h.IsListIter it a i) where
  mem:=by simp
  obj:=λ i h st b hb=>by
    have e:b=it:=by simpa using hb
    subst e;obtain ⟨o,e,c,d⟩:=st;exact ⟨o,e,λ v z=>by rw [d] at z;cases z⟩
  keep:=λ i h h' st k=>st.at λ o e=>k it (by simp) o e
  item:=by
    intro X hP hw hK hc i pins s σ H E I hf st hg;subst hP hw hK;obtain ⟨xs,x,hq,hx⟩:=hg;obtain ⟨its,rv,p,hz⟩:=I.list hq;obtain ⟨u,hu,ru⟩:=rv.get hx;obtain ⟨f0,f1,f2,f3,f4,f5⟩:=hf it (by simp);refine wpAny_pyNext_list_item st p.isList (x:=u) (by simpa using hu) λ h' st' sb=> ?_;have I1:Inv X pins σ H { s with heap:=h' }:=I.turned (t':=s.toks) (λ b o hb e=>(sb.2 b hb).trans e) f0 f1 f3 f4 f5;obtain ⟨o,e,c,d⟩:=id st';exact ⟨u,rfl,J3 (s:={ s with heap:=h' }) e c d (by decide) ⟨x,H,I1,ru,⟨rfl,λ ys hy=>by rw [I.list_inj hy hq];exact hx⟩,st',λ b hb=>(hf b hb).1⟩⟩
  done:=by
    intro X hP hw hK hc i pins s σ H E I hf st hg;subst hP hw hK;obtain ⟨xs,hq,hx⟩:=hg;obtain ⟨its,rv,p,hz⟩:=I.list hq;obtain ⟨f0,f1,f2,f3,f4,f5⟩:=hf it (by simp);have hl:=rv.length;exact wpAny_pyNext_list_end (I.ok.hd hc) st p.isList (by simp;omega) λ h' eb=>⟨rfl,I.turned (t':=s.toks) (λ b o hb e=>eb b o hb e) f0 f1 f3 f4 f5⟩
  self:=λ _ _ _ _ _ st h=>wpAny_pyIter_listiter st h
theorem EG {P:Program} {w:World} {K:PySem.W.Frag} {tg:Expr} (a it:Addr):Turn P w K tg (Itt K a) [it] it (λ i h=>h.IsTupleIter it a i) where
  mem:=by simp
  obj:=λ i h st b hb=>by
    have e:b=it:=by simpa using hb
    subst e;obtain ⟨o,e,c,d⟩:=st;exact ⟨o,e,λ v z=>by rw [d] at z;cases z⟩
  keep:=λ i h h' st k=>st.at λ o e=>k it (by simp) o e
  item:=by
    intro X hP hw hK hc i pins s σ H E I hf st hg;subst hP hw hK;obtain ⟨xs,x,hq,hx⟩:=hg;obtain ⟨its,rv,p,hz⟩:=I.tuple hq;obtain ⟨u,hu,ru⟩:=rv.get hx;obtain ⟨f0,f1,f2,f3,f4,f5⟩:=hf it (by simp);refine wpAny_pyNext_tuple_item st (show s.heap.IsTuple a its.toArray from p) (x:=u) (by simpa using hu) λ h' st' sb=> ?_;have I1:Inv X pins σ H { s with heap:=h' }:=I.turned (t':=s.toks) (λ b o hb e=>(sb.2 b hb).trans e) f0 f1 f3 f4 f5;obtain ⟨o,e,c,d⟩:=id st';exact ⟨u,rfl,J3 (s:={ s with heap:=h' }) e c d (by decide) ⟨x,H,I1,ru,⟨rfl,λ ys hy=>by rw [I.tuple_inj hy hq];exact hx⟩,st',λ b hb=>(hf b hb).1⟩⟩
  done:=by
    intro X hP hw hK hc i pins s σ H E I hf st hg;subst hP hw hK;obtain ⟨xs,hq,hx⟩:=hg;obtain ⟨its,rv,p,hz⟩:=I.tuple hq;obtain ⟨f0,f1,f2,f3,f4,f5⟩:=hf it (by simp);have hl:=rv.length;exact wpAny_pyNext_tuple_end (I.ok.hd hc) st (show s.heap.IsTuple a its.toArray from p) (by simp;omega) λ h' eb=>⟨rfl,I.turned (t':=s.toks) (λ b o hb e=>eb b o hb e) f0 f1 f3 f4 f5⟩
  self:=λ _ _ _ _ _ st h=>wpAny_pyIter_tupleiter st h
theorem Ho {P:Program} {w:World} {K:PySem.W.Frag} {tg:Expr} (it:Addr) (lo:Int) (n:Nat):Turn P w K tg (Itr lo n) [it] it (λ i h=>IsRangeIter h it (lo+(i:Nat)*1) ((n:Int) - (i:Nat)) 1) where
  mem:=by simp
  obj:=λ i h st b hb=>by
    have e:b=it:=by simpa using hb
    subst e;exact ⟨_,st,λ v z=>by
      have z':Data.fields _=Data.cell v:=z;cases z'⟩
  keep:=λ i h h' st k=>k it (by simp) _ st
  item:=by
    intro X hP hw hK hc i pins s σ H E I hf st hg;subst hP hw hK;obtain ⟨f0,f1,f2,f3,f4,f5⟩:=hf it (by simp);have W:=Walks.range (prog:=X.prog) (w:=X.w) (I.ok.hd hc) it lo 1 n;refine W.item i s _ _ hg st λ v h' tk hv st' kk=> ?_;obtain ⟨t,rfl⟩:=hv;have I1:Inv X pins σ H { s with heap:=h',toks:=tk }:=I.turned (λ b o hb e=>kk b o (by simpa using hb) e) f0 f1 f3 f4 f5;refine ⟨_,rfl,J3 (s:={ s with heap:=h',toks:=tk }) (n:="range_iterator") st' rfl rfl (by decide) ⟨.int (lo+i),H,I1,⟨t,?_⟩,⟨rfl,rfl⟩,st',λ b hb=>(hf b hb).1⟩⟩;rw [Int.mul_one]
  done:=by
    intro X hP hw hK hc i pins s σ H E I hf st hg;subst hP hw hK;obtain ⟨f0,f1,f2,f3,f4,f5⟩:=hf it (by simp);exact wpAny_pyNext_range_end (I.ok.hd hc) st (by have:n<=i:=hg;omega) λ h' eb=>⟨rfl,I.turned (t':=s.toks) (λ b o hb e=>eb b o hb e) f0 f1 f3 f4 f5⟩
  self:=λ _ _ _ _ _ st h=>wpAny_pyIter_rangeiter st h
section
variable {X:Cx} {tg:Expr}
def JV (K:PySem.W.Frag) (tl:TE):TI:=λ σ H R=>tl σ H λ x H1=>∃ a,x= .ref a/\(∃ xs,SqL K H1 a xs)/\R (Itl K a) H1
def L5 (K:PySem.W.Frag) (tl:TE):TI:=λ σ H R=>tl σ H λ x H1=>∃ a,x= .ref a/\(∃ xs,SqT K H1 a xs)/\R (Itt K a) H1
theorem J9 {l:Expr} {tl:TE} (hl:PE X l tl):PI X tg l (JV X.K tl):=by
  intro pins s σ H R I h;refine thn (hl pins s σ H _ I h) λ v s1 ⟨x,H1,I1,r1,q1⟩=> ?_;obtain ⟨a,e,⟨xs,hq⟩,q⟩:=q1;subst e;cases r1;obtain ⟨its,rv,p,hz⟩:=I1.list hq;refine wpAny_pyIter_list p.isList ?_;refine ⟨s1.heap.objs.size,[s1.heap.objs.size],_,_,H1,rfl,I1.kept (t':=s1.toks) λ b o e=>Heap.get?_push_of_some _ e,Fl a _,⟨_,Heap.get?_push_size _ rfl,rfl,rfl⟩,λ b hb=> ?_,q⟩;have e:b=s1.heap.objs.size:=by simpa using hb
  subst e;exact I1.fpOk (Nat.le_refl _) (I1.hok.fresh (Nat.le_refl _))
theorem LL {l:Expr} {tl:TE} (hl:PE X l tl):PI X tg l (L5 X.K tl):=by
  intro pins s σ H R I h;refine thn (hl pins s σ H _ I h) λ v s1 ⟨x,H1,I1,r1,q1⟩=> ?_;obtain ⟨a,e,⟨xs,hq⟩,q⟩:=q1;subst e;cases r1;obtain ⟨its,rv,p,hz⟩:=I1.tuple hq;refine wpAny_pyIter_tuple (show s1.heap.IsTuple a its.toArray from p) ?_;refine ⟨s1.heap.objs.size,[s1.heap.objs.size],_,_,H1,rfl,I1.kept (t':=s1.toks) λ b o e=>Heap.get?_push_of_some _ e,EG a _,⟨_,Heap.get?_push_size _ rfl,rfl,rfl⟩,λ b hb=> ?_,q⟩;have e:b=s1.heap.objs.size:=by simpa using hb
  subst e;exact I1.fpOk (Nat.le_refl _) (I1.hok.fresh (Nat.le_refl _))
theorem GA {pins:List (Addr × Obj)} {σ:St} {H:Hp} {s:Shared} {R:It->Hp->Prop} {E:Value->Shared->Prop} {lo hi:Int} {t u v:Tok} {tk:Nat} (I:Inv X pins σ H s) (h1: -(2 ^ 62)<=lo) (h2:lo<2 ^ 62) (h3: -(2 ^ 62)<=hi) (h4:hi<2 ^ 62)
    (q:R (Itr lo (hi - lo).toNat) H):wpAny (model X.prog X.w) X.A (pyIter (.ref s.heap.objs.size)) (PIE X pins σ tg R) E { s with heap:=s.heap.push { cls:= .type "range",data:= .fields #[.int lo t, .int hi u, .int 1 v] },toks:=tk }:=by
  refine wpAny_pyIter_range (IsRange.new ..) (small_one h1 h2 h3 h4) ?_;have I1:Inv X pins σ H { s with heap:=s.heap.push { cls:= .type "range",data:= .fields #[.int lo t, .int hi u, .int 1 v] },toks:=tk }:=I.kept λ b o e=>Heap.get?_push_of_some _ e;refine ⟨(s.heap.push { cls:= .type "range",data:= .fields #[.int lo t, .int hi u, .int 1 v] }).objs.size,[(s.heap.push { cls:= .type "range",data:= .fields #[.int lo t, .int hi u, .int 1 v] }).objs.size],_,_,H,rfl,
    I1.kept (t':=tk) λ b o e=>Heap.get?_push_of_some _ e,Ho _ lo (hi - lo).toNat,?_,λ b hb=> ?_,q⟩
  · have e1:lo+((0:Nat):Int)*1=lo:=by simp
    have e2:(((hi - lo).toNat:Nat):Int) - ((0:Nat):Int)=Builtin.Range.rangeSize lo hi 1:=by rw [rangeSize_one];split <;> omega
    show IsRangeIter _ _ (lo+((0:Nat):Int)*1) ((((hi - lo).toNat:Nat):Int) - ((0:Nat):Int)) 1;rw [e1,e2];exact Heap.get?_push_size _ rfl
  · have e:b=(s.heap.push { cls:= .type "range",data:= .fields #[.int lo t, .int hi u, .int 1 v] }).objs.size:=by simpa using hb
    subst e;exact I1.fpOk (Nat.le_refl _) (I1.hok.fresh (Nat.le_refl _))
def Lv (ta:TA):TI:=λ σ H R=>ta σ H λ vs H1=>∃ j:Int,vs=[.int j]/\ -(2 ^ 62)<=j/\j<2 ^ 62/\R (Itr 0 j.toNat) H1
def Li (ta:TA):TI:=λ σ H R=>ta σ H λ vs H1=>∃ i j:Int,vs=[.int i, .int j]/\(-(2 ^ 62)<=i/\i<2 ^ 62/\ -(2 ^ 62)<=j/\j<2 ^ 62)/\R (Itr i (j - i).toNat) H1
theorem Ds {a:Expr} {ta:TA} {p pos:Pos} (hg:Gl X "range") (hm:X.mg "range"=none) (ha:PA X [a] ta) (hs:starEach [a] X.env=[(false,eval a X.env)]:=by rfl):PI X tg (.Call (.Name "range" p) [a] [] pos) (Lv ta):=by
  intro pins s σ H R I h;refine Call_ (CS I hg hm boot_range (PyProof.Rows.callWith_type1 (thn (ha pos pins s σ H _ I h) λ us s1 ⟨vs,H1,I1,r1,q1⟩=> ?_) hs rfl));obtain ⟨j,e,q1,q2,q⟩:=q1;subst e;cases r1 with
  | cons r rr=>
    cases rr;obtain ⟨t,rfl⟩:=r;exact call_range_1 (GA I1 (by omega) (by omega) q1 q2 (by simpa using q))
theorem Dz {a b:Expr} {ta:TA} {p pos:Pos} (hg:Gl X "range") (hm:X.mg "range"=none) (ha:PA X [a,b] ta) (hs:starEach [a,b] X.env=[(false,eval a X.env),(false,eval b X.env)]:=by rfl) (hs2:starEach [b] X.env=[(false,eval b X.env)]:=by rfl):
    PI X tg (.Call (.Name "range" p) [a,b] [] pos) (Li ta):=by
  intro pins s σ H R I h;refine Call_ (CS I hg hm boot_range (PyProof.Rows.callWith_type1 (thn (ha pos pins s σ H _ I h) λ us s1 ⟨vs,H1,I1,r1,q1⟩=> ?_) (by rw [hs,hs2]) (by rw [hs2];rfl)));obtain ⟨i,j,e,⟨q1,q2,q3,q4⟩,q⟩:=q1;subst e;cases r1 with
  | cons r rr=>
    cases rr with
    | cons r' rr=>
      cases rr;obtain ⟨t,rfl⟩:=r;obtain ⟨t',rfl⟩:=r';exact call_range_2 (GA I1 q1 q2 q3 q4 q)
def Nm (wi:TI) (g:TG) (tb:TS):TS:=λ D σ H=>wi σ H λ J H1=>∃ W:Nat->Nat->St->Hp->Prop,(∃ m,W 0 m σ H1)/\∀ i m σ H,W i m σ H->
  (J.stop i H/\D.nx σ H)\/(J.go i H/\∃ N:St->Hp->Prop,(∀ σ' H',N σ' H'->∃ m',m'<m/\W (i+1) m' σ' H')/\∀ x H',J.yld i H x H'->g x σ H' λ σ2 H2=>tb { D with nx:=N,ct:=N,bk:=D.nx } σ2 H2)
def Eg (fp:List Addr) (h:Heap):List (Addr × Obj):=fp.filterMap λ b=>(h.get? b).map λ o=>(b,o)
theorem BJ {fp:List Addr} {h:Heap} {b:Addr} {o:Obj} (hb:b∈fp) (e:h.get? b=some o):(b,o)∈Eg fp h:=List.mem_filterMap.mpr ⟨b,hb,by rw [e];rfl⟩
theorem Ib {fp:List Addr} {h:Heap} {p:Addr × Obj} (hp:p∈Eg fp h):p.1∈fp/\h.get? p.1=some p.2:=by
  obtain ⟨b,hb,e⟩:=List.mem_filterMap.mp hp;cases q:h.get? b with
  | none=>rw [q] at e;cases e
  | some o=>
    rw [q] at e;have e':(b,o)=p:=Option.some.inj e;subst e';exact ⟨hb,q⟩
theorem Inv.pinned {pins:List (Addr × Obj)} {σ:St} {H:Hp} {s:Shared} {fp:List Addr} (I:Inv X pins σ H s) (hf:∀ b∈fp,Ck X pins H b) (ho:∀ b∈fp,∃ o,s.heap.get? b=some o/\∀ v,o.data≠ .cell v):Inv X (pins++Eg fp s.heap) σ H s:=
  I.pins_of λ p hp=>(List.mem_append.mp hp).elim (λ z=>I.pin p (List.mem_append_right _ z)) λ z=>by
    obtain ⟨hb,e⟩:=Ib z;obtain ⟨f0,f1,f2,_⟩:=hf p.1 hb;obtain ⟨o,e',d⟩:=ho p.1 hb;rw [e] at e';cases e';exact ⟨e,f0,f1,f2,d⟩
theorem Inv.unpinned {pins pl:List (Addr × Obj)} {σ:St} {H:Hp} {s:Shared} (I:Inv X (pins++pl) σ H s):Inv X pins σ H s:=I.pins_of λ p hp=>I.pin p (List.mem_append_right _ (List.mem_append_left _ hp))
theorem Bq {iter:Expr} {body:List Stmt} {wi:TI} {g:TG} {tb:TS} {pos:Pos} (hp:PassesOwn (model X.prog X.w) X.A X.env X.xe) (hc:X.calm=true) (hi:PI X tg iter wi) (hg:PG X tg g) (hb:PSs X body tb)
    (hs:∀ x,foldedSetIterable iter X.env x=pure x:=by intro _;rfl):PS X (.For tg iter body [] pos) (Nm wi g tb):=by
  intro pins s σ H D I h;refine wpAny_For (thn (hi pins s σ H _ I h) λ v s1 h1=>thn h1 λ itv s2 h2=> ?_) hs;obtain ⟨it,fp,tn,J,H2,e,I2,T,st2,f2,W,⟨m0,w0⟩,turn⟩:=h2;subst e;have stat:∀ {H':Hp},(∀ b∈fp,H' b=none)->∀ b∈fp,Ck X pins H' b:=λ hn b hb=>⟨hn b hb,(f2 b hb).2⟩;refine codeAny_forLoop_any (λ n s'=>∃ i σ' H',Inv X pins σ' H' s'/\tn i s'.heap/\(∀ b∈fp,H' b=none)/\W i n σ' H') ?_ m0 ⟨0,σ,H2,I2,st2,λ b hb=>(f2 b hb).1,w0⟩;rintro n s3 ⟨i,σ3,H3,I3,st3,fr3,w3⟩;rcases turn i n σ3 H3 w3 with ⟨stop,qn⟩ | ⟨go,N,hN,step⟩
  · refine wpAny_passesOwn hp (thn (T.done X rfl rfl rfl hc i pins s3 σ3 H3 X.xe I3 (stat fr3) st3 stop) λ r s4 ⟨hr,I4⟩=> ?_);subst hr;exact wpAny_execs_nil ⟨σ3,H3,I4,qn⟩
  · refine wpAny_passesOwn hp (thn (T.item X rfl rfl rfl hc i pins s3 σ3 H3 X.xe I3 (stat fr3) st3 go) λ r s4 ⟨u,hr,h4⟩=> ?_);subst hr;refine wpAny_passesOwn hp (thn h4 λ _ s5 ⟨x,H5,I5,r5,y5,st5,fr5⟩=> ?_);have I5':=I5.pinned (stat fr5) (T.obj _ _ st5);refine wpAny_passesOwn hp (thn (hg _ s5 σ3 H5 x u _ I5' r5 (step x H5 y5)) λ _ s6 ⟨σ6,H6,I6,q6⟩=> ?_);refine wpAny_passesOwn hp (thn (hb _ s6 σ6 H6 _ I6 q6) λ f s7 q7=> ?_);have again:∀ {σ7:St} {H7:Hp},Inv X (pins++Eg fp s5.heap) σ7 H7 s7->N σ7 H7->∃ m,m<n/\∃ i σ' H',Inv X pins σ' H' s7/\tn i s7.heap/\(∀ b∈fp,H' b=none)/\W i m σ' H':=λ {σ7 H7} I7 n7=>by
      obtain ⟨m',hm,w7⟩:=hN σ7 H7 n7;refine ⟨m',hm,i+1,σ7,H7,I7.unpinned,T.keep _ _ _ st5 λ b hb o e=>(I7.pin (b,o) (List.mem_append_right _ (List.mem_append_right _ (BJ hb e)))).1,λ b hb=> ?_,w7⟩;obtain ⟨o,e,d⟩:=T.obj _ _ st5 b hb;exact (I7.pin (b,o) (List.mem_append_right _ (List.mem_append_right _ (BJ hb e)))).2.1
    cases f with
    | next=>obtain ⟨σ7,H7,I7,n7⟩:=q7;exact again I7 n7
    | cont=>obtain ⟨σ7,H7,I7,n7⟩:=q7;exact again I7 n7
    | brk=>obtain ⟨σ7,H7,I7,q7⟩:=q7;exact ⟨σ7,H7,I7.unpinned,q7⟩
    | ret v=>obtain ⟨x7,σ7,H7,I7,r7,q7⟩:=q7;exact ⟨x7,σ7,H7,I7.unpinned,r7,q7⟩
end
abbrev R2:=V->V->Hp->VK->Prop
def OpR (X:Cx) (f:Value->Value->Sem Value) (r:R2):Prop:=
  ∀ (pins:List (Addr × Obj)) (s:Shared) (σ:St) (H:Hp) (x y:V) (v u:Value) (Q:VK),Inv X pins σ H s->RelV x v->RelV y u->r x y H Q->
    wpAny (model X.prog X.w) X.A (f v u) (EP X pins σ Q) X.xe s
def AR (X:Cx) (f:Value) (r:List V->Hp->VK->Prop):Prop:=
  ∀ (pins:List (Addr × Obj)) (s:Shared) (σ:St) (H:Hp) (xs:List V) (us:List Value) (Q:VK),Inv X pins σ H s->Vals xs us->r xs H Q->
    wpAny (model X.prog X.w) X.A (call f us) (EP X pins σ Q) X.xe s
def NW (X:Cx) (r:V->Hp->(Bool->Hp->Prop)->Prop):Prop:=
  ∀ (pins:List (Addr × Obj)) (s:Shared) (σ:St) (H:Hp) (x:V) (v:Value) (Q:Bool->Hp->Prop),Inv X pins σ H s->RelV x v->r x H Q->
    wpAny (model X.prog X.w) X.A (truthy v) (TP X pins σ Q) X.xe s
def tOp (r:R2) (ta tb:TE):TE:=λ σ H Q=>ta σ H λ x H1=>tb σ H1 λ y H2=>r x y H2 Q
def rI (C:Int->Int->Prop) (g:Int->Int->V):R2:=λ x y H Q=>∃ i j,x= .int i/\y= .int j/\C i j/\Q (g i j) H
def rI0 (g:Int->Int->V):R2:=λ x y H Q=>∃ i j,x= .int i/\y= .int j/\Q (g i j) H
section
variable {X:Cx} {a b c:Expr} {ta tb tc:TE} {pos:Pos}
theorem LJ (ha:PE X a ta) (hb:PE X b tb) {pins:List (Addr × Obj)} {s:Shared} {σ:St} {H:Hp} {R:V->V->Hp->Prop} (I:Inv X pins σ H s)
    (h:ta σ H λ x H1=>tb σ H1 λ y H2=>R x y H2) {Q:Value->Shared->Prop} {f:Value->Value->Sem Value}
    (hf:∀ v u s2 x y H2,Inv X pins σ H2 s2->RelV x v->RelV y u->R x y H2->wpAny (model X.prog X.w) X.A (f v u) Q X.xe s2):
    wpAny (model X.prog X.w) X.A (eval a X.env) (λ v s₁=>wpAny (model X.prog X.w) X.A (eval b X.env) (λ u s₂=>wpAny (model X.prog X.w) X.A (f v u) Q X.xe s₂) X.xe s₁) X.xe s:=by
  refine thn (ha pins s σ H _ I h) λ v s1 ⟨x,H1,I1,r1,q1⟩=> ?_;refine thn (hb pins s1 σ H1 _ I1 q1) λ u s2 ⟨y,H2,I2,r2,q2⟩=> ?_;exact hf v u s2 x y H2 I2 r1 r2 q2
theorem Ak {op:Operator} {r:R2} (ho:OpR X (binaryOp op) r) (ha:PE X a ta) (hb:PE X b tb):PE X (.BinOp a op b pos) (tOp r ta tb):=by
  intro pins s σ H Q I h;exact wpAny_BinOp (LJ ha hb I h λ v u s2 x y H2 I2 rx ry q=>ho pins s2 σ H2 x y v u Q I2 rx ry q)
theorem opI {f:Value->Value->Sem Value} {C:Int->Int->Prop} {g:Int->Int->Int}
    (rule:∀ (i j:Int) (t u:Tok) (s:Shared) (Q:Value->Shared->Prop) (E:Value->Shared->Prop),C i j->Q (.int (g i j) s.toks) { s with toks:=s.toks+1 }->wpAny (model X.prog X.w) X.A (f (.int i t) (.int j u)) Q E s):
    OpR X f (rI C λ i j=> .int (g i j)):=by
  intro pins s σ H x y v u Q I rx ry h;obtain ⟨i,j,rfl,rfl,hc,q⟩:=h;obtain ⟨t,rfl⟩:=rx;obtain ⟨t',rfl⟩:=ry;exact rule i j t t' s _ _ hc ⟨.int (g i j),H,I.tok _,⟨_,rfl⟩,q⟩
theorem KW {f:Value->Value->Sem Value} {g:Int->Int->Int}
    (rule:∀ (i j:Int) (t u:Tok) (s:Shared) (Q:Value->Shared->Prop) (E:Value->Shared->Prop),Q (.int (g i j) s.toks) { s with toks:=s.toks+1 }->wpAny (model X.prog X.w) X.A (f (.int i t) (.int j u)) Q E s):
    OpR X f (rI0 λ i j=> .int (g i j)):=by
  intro pins s σ H x y v u Q I rx ry h;obtain ⟨i,j,rfl,rfl,q⟩:=h;obtain ⟨t,rfl⟩:=rx;obtain ⟨t',rfl⟩:=ry;exact rule i j t t' s _ _ ⟨.int (g i j),H,I.tok _,⟨_,rfl⟩,q⟩
theorem Ny {f:Value->Value->Sem Value} {g:Int->Int->Bool}
    (rule:∀ (i j:Int) (t u:Tok) (s:Shared) (Q:Value->Shared->Prop) (E:Value->Shared->Prop),Q (.bool (g i j)) s->wpAny (model X.prog X.w) X.A (f (.int i t) (.int j u)) Q E s):
    OpR X f (rI0 λ i j=> .bl (g i j)):=by
  intro pins s σ H x y v u Q I rx ry h;obtain ⟨i,j,rfl,rfl,q⟩:=h;obtain ⟨t,rfl⟩:=rx;obtain ⟨t',rfl⟩:=ry;exact rule i j t t' s _ _ ⟨.bl (g i j),H,I,rfl,q⟩
def OK (i j:Int):Prop:=0<=j/\j<=1000000/\i.natAbs<2 ^ 64
def CMul (i j:Int):Prop:=(-(2 ^ 64)<i/\i<2 ^ 64)\/(-(2 ^ 64)<j/\j<2 ^ 64)
theorem CMul.ok {i j:Int} (h:CMul i j):IntMulOk i j:=by
  rcases h with ⟨h1,h2⟩ | ⟨h1,h2⟩
  · exact .of_left (intBits_le_64 h1 h2)
  · exact .of_right (intBits_le_64 h1 h2)
theorem Hm (k:Nat):(0:Int)<=2 ^ k:=by
  rw [two_pow_cast];exact Int.natCast_nonneg _
theorem AT:OpR X (binaryOp .Add) (rI0 λ i j=> .int (i+j)):=KW λ _ _ _ _ _ _ _ q=>add_int q
theorem F0:OpR X (binaryOp .Sub) (rI0 λ i j=> .int (i - j)):=KW λ _ _ _ _ _ _ _ q=>sub_int q
theorem Br:OpR X (binaryOp .Mult) (rI CMul λ i j=> .int (i*j)):=opI λ _ _ _ _ _ _ _ hc q=>mul_int q hc.ok
theorem A0:OpR X (binaryOp .Mod) (rI (λ _ j=>0<j) λ i j=> .int (i%j)):=opI λ i j _ _ _ _ _ hc q=>by
  have h1:(0:Int)<j:=hc;exact mod_int' (by omega) (by rw [Int.fmod_eq_emod_of_nonneg i (by omega)];exact q)
theorem FQ:OpR X (binaryOp .LShift) (rI OK λ i j=> .int (i*2 ^ j.toNat)):=opI λ _ _ _ _ _ _ _ hc q=>lshift_int_small hc.1 hc.2.1 hc.2.2 q
theorem LS:OpR X (binaryOp .RShift) (rI (λ _ j=>0<=j) λ i j=> .int (i / 2 ^ j.toNat)):=opI λ i j _ _ _ _ _ hc q=>
  rshift_int hc (by rw [Int.fdiv_eq_ediv_of_nonneg i (Hm _)];exact q)
theorem Je:OpR X (binaryOp .BitAnd) (rI0 λ i j=> .int (Builtin.bitAnd i j)):=KW λ _ _ _ _ _ _ _ q=>and_int q
theorem JI:OpR X (inplaceOp .BitOr) (rI0 λ i j=> .int (Builtin.bitOr i j)):=KW λ _ _ _ _ _ _ _ q=>ior_int q
end
def M8:V->V->Bool
  | .non, .non=>true | .non, .int _=>true | .int _, .non=>true | .non, .bl _=>true | .bl _, .non=>true | .non, .str _=>true | .str _, .non=>true
  | .int _, .int _=>true | .bl _, .bl _=>true | .str _, .str _=>true | .byt _, .byt _=>true
  | .int _, .str _=>true | .str _, .int _=>true | .bl _, .str _=>true | .str _, .bl _=>true
  | _,_=>false
def rEq:R2:=λ x y H Q=>M8 x y=true/\Q (.bl (decide (x=y))) H
def rNe:R2:=λ x y H Q=>M8 x y=true/\Q (.bl (!decide (x=y))) H
theorem Hv {i j:Int}:decide (V.int i=V.int j)=(i == j):=by
  rw [Bool.eq_iff_iff];simp
theorem JB {i j:Bool}:decide (V.bl i=V.bl j)=(i == j):=by
  rw [Bool.eq_iff_iff];simp
theorem HI {i j:Str}:decide (V.str i=V.str j)=(i == j):=by
  rw [Bool.eq_iff_iff];simp
theorem Hw {i j:Array UInt8}:decide (V.byt i=V.byt j)=(i.toList == j.toList):=by
  rw [Bool.eq_iff_iff];cases i;cases j;simp
section
variable {X:Cx} {a b c:Expr} {ta tb tc:TE} {pos:Pos}
theorem Ao {pins:List (Addr × Obj)} {σ:St} {H:Hp} {s:Shared} {Q:VK} {k k':Bool} (I:Inv X pins σ H s) (q:Q (.bl k) H) (e:k=k'):EP X pins σ Q (.bool k') s:=by
  subst e;exact ⟨.bl k,H,I,rfl,q⟩
theorem Fq:OpR X (compareOp .Eq) rEq:=by
  intro pins s σ H x y v u Q I rx ry h;obtain ⟨hs,q⟩:=h;cases x with
  | non=>
    cases rx;cases y with
    | non=>cases ry;exact PySem.EqNone.eq_none_none (Ao I q (by simp))
    | bl j=>cases ry;exact PySem.EqNone.eq_none_bool (Ao I q (by simp))
    | int j=>obtain ⟨t',rfl⟩:=ry;exact PySem.EqNone.eq_none_int (Ao I q (by simp))
    | str j=>obtain ⟨t',rfl⟩:=ry;exact PySem.EqNone.eq_none_str (Ao I q (by simp))
    | _=>exact absurd (show false=true from hs) Bool.false_ne_true
  | bl i=>
    cases rx;cases y with
    | non=>cases ry;exact PySem.EqNone.eq_bool_none (Ao I q (by simp))
    | bl j=>cases ry;exact eq_bool (Ao I q JB)
    | str j=>obtain ⟨t',rfl⟩:=ry;exact PySem.EqMixed.eq_bool_str (Ao I q (by simp))
    | _=>exact absurd (show false=true from hs) Bool.false_ne_true
  | int i=>
    obtain ⟨t,rfl⟩:=rx;cases y with
    | non=>cases ry;exact PySem.EqNone.eq_int_none (Ao I q (by simp))
    | int j=>obtain ⟨t',rfl⟩:=ry;exact eq_int (Ao I q Hv)
    | str j=>obtain ⟨t',rfl⟩:=ry;exact PySem.EqMixed.eq_int_str (Ao I q (by simp))
    | _=>exact absurd (show false=true from hs) Bool.false_ne_true
  | str i=>
    obtain ⟨t,rfl⟩:=rx;cases y with
    | non=>cases ry;exact PySem.EqNone.eq_str_none (Ao I q (by simp))
    | bl j=>cases ry;exact PySem.EqMixed.eq_str_bool (Ao I q (by simp))
    | int j=>obtain ⟨t',rfl⟩:=ry;exact PySem.EqMixed.eq_str_int (Ao I q (by simp))
    | str j=>obtain ⟨t',rfl⟩:=ry;exact eq_str (Ao I q HI)
    | _=>exact absurd (show false=true from hs) Bool.false_ne_true
  | byt i=>
    obtain ⟨t,rfl⟩:=rx;cases y with
    | byt j=>obtain ⟨t',rfl⟩:=ry;exact PySem.W.eq_bytes (Ao I q Hw)
    | _=>exact absurd (show false=true from hs) Bool.false_ne_true
  | _=>cases y <;> exact absurd (show false=true from hs) Bool.false_ne_true
theorem Lx:OpR X (compareOp .NotEq) rNe:=by
  intro pins s σ H x y v u Q I rx ry h;obtain ⟨hs,q⟩:=h;cases x with
  | non=>
    cases rx;cases y with
    | non=>cases ry;exact PySem.EqNone.ne_none_none (Ao I q (by simp))
    | bl j=>cases ry;exact PySem.EqNone.ne_none_bool (Ao I q (by simp))
    | int j=>obtain ⟨t',rfl⟩:=ry;exact PySem.EqNone.ne_none_int (Ao I q (by simp))
    | str j=>obtain ⟨t',rfl⟩:=ry;exact PySem.EqNone.ne_none_str (Ao I q (by simp))
    | _=>exact absurd (show false=true from hs) Bool.false_ne_true
  | bl i=>
    cases rx;cases y with
    | non=>cases ry;exact PySem.EqNone.ne_bool_none (Ao I q (by simp))
    | bl j=>cases ry;exact ne_bool (Ao I q (congrArg not JB))
    | str j=>obtain ⟨t',rfl⟩:=ry;exact PySem.EqMixed.ne_bool_str (Ao I q (by simp))
    | _=>exact absurd (show false=true from hs) Bool.false_ne_true
  | int i=>
    obtain ⟨t,rfl⟩:=rx;cases y with
    | non=>cases ry;exact PySem.EqNone.ne_int_none (Ao I q (by simp))
    | int j=>obtain ⟨t',rfl⟩:=ry;exact ne_int (Ao I q (congrArg not Hv))
    | str j=>obtain ⟨t',rfl⟩:=ry;exact PySem.EqMixed.ne_int_str (Ao I q (by simp))
    | _=>exact absurd (show false=true from hs) Bool.false_ne_true
  | str i=>
    obtain ⟨t,rfl⟩:=rx;cases y with
    | non=>cases ry;exact PySem.EqNone.ne_str_none (Ao I q (by simp))
    | bl j=>cases ry;exact PySem.EqMixed.ne_str_bool (Ao I q (by simp))
    | int j=>obtain ⟨t',rfl⟩:=ry;exact PySem.EqMixed.ne_str_int (Ao I q (by simp))
    | str j=>obtain ⟨t',rfl⟩:=ry;exact ne_str (Ao I q (congrArg not HI))
    | _=>exact absurd (show false=true from hs) Bool.false_ne_true
  | byt i=>
    obtain ⟨t,rfl⟩:=rx;cases y with
    | byt j=>obtain ⟨t',rfl⟩:=ry;exact PySem.W.ne_bytes (Ao I q (congrArg not Hw))
    | _=>exact absurd (show false=true from hs) Bool.false_ne_true
  | _=>cases y <;> exact absurd (show false=true from hs) Bool.false_ne_true
theorem Gb:OpR X (compareOp .Lt) (rI0 λ i j=> .bl (decide (i<j))):=Ny λ _ _ _ _ _ _ _ q=>lt_int q
theorem Ll:OpR X (compareOp .LtE) (rI0 λ i j=> .bl (decide (i<=j))):=Ny λ _ _ _ _ _ _ _ q=>le_int q
theorem MR:OpR X (compareOp .Is) (λ x y H Q=>y= .non/\Q (.bl (decide (x= .non))) H):=by
  intro pins s σ H x y v u Q I rx ry h;obtain ⟨rfl,q⟩:=h;cases ry;refine is_none_gen (Ao I q ?_);cases x <;> first
    | (cases rx;rfl)
    | (obtain ⟨t,rfl⟩:=rx;rfl)
theorem AE (b:Expr) {op:CmpOp} (h:op≠ .In:=by decide) (h2:op≠ .NotIn:=by decide):behindInMarks op b=false:=by
  have e1:(op == CmpOp.In)=false:=by cases op <;> first | rfl | exact absurd rfl h
  have e2:(op == CmpOp.NotIn)=false:=by cases op <;> first | rfl | exact absurd rfl h2
  cases b <;> simp [behindInMarks,e1,e2]
theorem DT {op:CmpOp} {r:R2} (ho:OpR X (compareOp op) r) (ha:PE X a ta) (hb:PE X b tb) (hm:behindInMarks op b=false):PE X (.Compare a [op] [b] pos) (tOp r ta tb):=by
  intro pins s σ H Q I h;exact wpAny_Compare1 (LJ ha hb I h λ v u s2 x y H2 I2 rx ry q=>ho pins s2 σ H2 x y v u Q I2 rx ry q) hm
def Lz (t:TE):TT:=λ σ H Q=>t σ H λ x H'=>∃ k,x= .bl k/\Q k H'
theorem AG {op:CmpOp} {r:R2} (ho:OpR X (compareOp op) r) (ha:PE X a ta) (hb:PE X b tb) (hm:behindInMarks op b=false):PT X (.Compare a [op] [b] pos) (Lz (tOp r ta tb)):=by
  intro pins s σ H Q I h;refine wpAny_isTrue_Compare1 (thn (ha pins s σ H _ I h) λ v s1 ⟨x,H1,I1,r1,q1⟩=>thn (hb pins s1 σ H1 _ I1 q1) λ u s2 ⟨y,H2,I2,r2,q2⟩=>
    thn (ho pins s2 σ H2 x y v u _ I2 r1 r2 q2) λ c s3 ⟨z,H3,I3,r3,k,e,q3⟩=> ?_) hm
  subst e;cases r3;exact wpAny_truthy_bool ⟨H3,I3,q3⟩
def Jv (r r':R2) (ta tb tc:TE):TE:=λ σ H Q=>ta σ H λ x H1=>tb σ H1 λ y H2=>r x y H2 λ z H3=>∃ k,z= .bl k/\
  (if k=true then tc σ H3 λ w' H4=>r' y w' H4 Q else Q (.bl false) H3)
theorem IS {op op':CmpOp} {r r':R2} (ho:OpR X (compareOp op) r) (ho':OpR X (compareOp op') r') (ha:PE X a ta) (hb:PE X b tb) (hc:PE X c tc)
    (hm:lastMarks [op,op'] [b,c]=false:=by with_unfolding_all rfl):PE X (.Compare a [op,op'] [b,c] pos) (Jv r r' ta tb tc):=by
  intro pins s σ H Q I h;refine Compare_chain (thn (ha pins s σ H _ I h) λ v s1 ⟨x,H1,I1,r1,q1⟩=>chain_link (thn (hb pins s1 σ H1 _ I1 q1) λ u s2 ⟨y,H2,I2,r2,q2⟩=>
    thn (ho pins s2 σ H2 x y v u _ I2 r1 r2 q2) λ d s3 ⟨z,H3,I3,r3,k,e,q3⟩=> ?_)) hm
  subst e;cases r3;refine wpAny_truthy_bool ?_;cases k with
  | false=>exact ite_ff ⟨.bl false,H3,I3,rfl,q3⟩
  | true=>exact ite_tt (chain_last (thn (hc pins s3 σ H3 _ I3 q3) λ w' s4 ⟨z',H4,I4,r4,q4⟩=>ho' pins s4 σ H4 y z' u w' Q I4 r2 r4 q4))
def Ph (K:PySem.W.Frag) (x:V) (H:Hp) (k:Bool):Prop:=
  match x with
  | .non=>k=false
  | .bl b=>k=b
  | .int i=>k=(i != 0)
  | .str y=>y.length<=sizeLine/\k=((y.length:Int) != 0)
  | .byt y=>y.size<=sizeLine/\k=((y.size:Int) != 0)
  | .ref p=>(∃ xs,SqL K H p xs/\k= !xs.isEmpty)\/(∃ xs,SqT K H p xs/\k= !xs.isEmpty)\/∃ kvs,H p=some (.dK kvs)/\k= !kvs.isEmpty
  | _=>False
theorem G5 {κ:Type} {kvs:List (κ × V)} {vs:List (κ × Value)} (r:KV kvs vs):(!vs.isEmpty)= !kvs.isEmpty:=by
  cases r <;> rfl
theorem EI {xs:List V} {its:List Value} (r:Vals xs its):(!its.toArray.isEmpty)= !xs.isEmpty:=by
  cases r <;> simp
theorem FR:(sizeLine:Nat)<2 ^ 63:=by rw [sizeLine_eq];decide
theorem Ot:NW X (λ x H Q=>∃ k,Ph X.K x H k/\Q k H):=by
  intro pins s σ H x v Q I rx h;obtain ⟨k,e,q⟩:=h;have hl:=FR;have hs:sizeLine=16777216:=sizeLine_eq;cases x with
  | non=>
    cases rx;have e':k=false:=e;subst e';exact truthy_none ⟨H,I,q⟩
  | bl b=>
    cases rx;have e':k=b:=e;subst e';exact wpAny_truthy_bool ⟨H,I,q⟩
  | int i=>
    obtain ⟨t,rfl⟩:=rx;have e':k=(i != 0):=e;subst e';exact PySem.P.truthy_int ⟨H,I,q⟩
  | str y=>
    obtain ⟨t,rfl⟩:=rx;obtain ⟨hy,e'⟩:y.length<=sizeLine/\k=((y.length:Int) != 0):=e;subst e';exact PySem.P.truthy_str (by omega) ⟨H,I.tok _,q⟩
  | byt y=>
    obtain ⟨t,rfl⟩:=rx;obtain ⟨hy,e'⟩:y.size<=sizeLine/\k=((y.size:Int) != 0):=e;subst e';exact PySem.W.truthy_bytes (by omega) ⟨H,I.tok _,q⟩
  | ref p=>
    cases rx;have e':(∃ xs,SqL X.K H p xs/\k= !xs.isEmpty)\/(∃ xs,SqT X.K H p xs/\k= !xs.isEmpty)\/∃ kvs,H p=some (.dK kvs)/\k= !kvs.isEmpty:=e;rcases e' with ⟨xs,hx,e'⟩ | ⟨xs,hx,e'⟩ | ⟨kvs,hx,e'⟩
    · subst e';obtain ⟨its,r,pl,hz⟩:=I.list hx;have hlen:=r.length;exact wpAny_truthy_list pl.isList (by simp only [List.size_toArray];omega) ⟨H,I.tok _,by rw [EI r];exact q⟩
    · subst e';obtain ⟨its,r,pl,hz⟩:=I.tuple hx;have hlen:=r.length;exact truthy_tuple pl (by simp only [List.size_toArray];omega) ⟨H,I.tok _,by rw [EI r];exact q⟩
    · subst e';obtain ⟨hz,hS,vs,r,m⟩:kvs.length<=sizeLine/\(p == sysModules)=false/\∃ vs,KV kvs vs/\s.heap.DictOf (FV X.prog X.w) p vs:=I.hok p _ hx;have hlen:kvs.length=vs.length:=Paired.length r;exact wpAny_truthy_dict hS m (by omega) ⟨H,I.tok _,by rw [G5 r];exact q⟩
  | _=>exact (show False from e).elim
theorem F8 {x:V} {us:List Value} (r:Vals [x] us):∃ u,us=[u]/\RelV x u:=by
  cases r with
  | cons r1 r2=>cases r2;exact ⟨_,rfl,r1⟩
theorem Gi {x y:V} {us:List Value} (r:Vals [x,y] us):∃ u w',us=[u,w']/\RelV x u/\RelV y w':=by
  cases r with
  | cons r1 r2=>
    cases r2 with
    | cons r3 r4=>cases r4;exact ⟨_,_,rfl,r1,r3⟩
theorem Ig (hc:X.calm=true):AR X (.builtin "max") (λ xs H Q=>∃ i j,xs=[.int i, .int j]/\Q (.int (if j>i then j else i)) H):=by
  intro pins s σ H xs us Q I r h;obtain ⟨i,j,rfl,q⟩:=h;obtain ⟨u,w',rfl,⟨t,rfl⟩,⟨t',rfl⟩⟩:=Gi r;refine max_two_ints (I.ok.hd hc) λ h' tk k=>⟨_,H,I.kept k,?_,q⟩;by_cases hj:j>i
  · rw [if_pos hj,if_pos hj];exact ⟨_,rfl⟩
  · rw [if_neg hj,if_neg hj];exact ⟨_,rfl⟩
theorem IG (hc:X.calm=true):AR X (.builtin "min") (λ xs H Q=>∃ i j,xs=[.int i, .int j]/\Q (.int (if j<i then j else i)) H):=by
  intro pins s σ H xs us Q I r h;obtain ⟨i,j,rfl,q⟩:=h;obtain ⟨u,w',rfl,⟨t,rfl⟩,⟨t',rfl⟩⟩:=Gi r;refine min_two_ints (I.ok.hd hc) λ h' tk k=>⟨_,H,I.kept k,?_,q⟩;by_cases hj:j<i
  · rw [if_pos hj,if_pos hj];exact ⟨_,rfl⟩
  · rw [if_neg hj,if_neg hj];exact ⟨_,rfl⟩
def M7 (K:PySem.W.Frag) (x:V) (H:Hp) (n:Nat):Prop:=
  match x with
  | .str y=>y.length<=sizeLine/\n=y.length
  | .byt y=>y.size<=sizeLine/\n=y.size
  | .ref p=>(∃ xs,SqL K H p xs/\n=xs.length)\/∃ xs,SqT K H p xs/\n=xs.length
  | _=>False
theorem IH:AR X (.builtin "len") (λ xs H Q=>∃ x n,xs=[x]/\M7 X.K x H n/\Q (.int n) H):=by
  intro pins s σ H xs us Q I r h;obtain ⟨x,n,rfl,e,q⟩:=h;obtain ⟨u,rfl,rx⟩:=F8 r;have hl:=FR;have hs:sizeLine=16777216:=sizeLine_eq;cases x with
  | str y=>
    obtain ⟨t,rfl⟩:=rx;obtain ⟨hy,e'⟩:y.length<=sizeLine/\n=y.length:=e;subst e';exact len_str (by omega) ⟨.int _,H,I.tok _,⟨_,rfl⟩,q⟩
  | byt y=>
    obtain ⟨t,rfl⟩:=rx;obtain ⟨hy,e'⟩:y.size<=sizeLine/\n=y.size:=e;subst e';exact PySem.W.len_bytes (by omega) ⟨.int _,H,I.tok _,⟨_,rfl⟩,q⟩
  | ref p=>
    cases rx;have e':(∃ xs,SqL X.K H p xs/\n=xs.length)\/∃ xs,SqT X.K H p xs/\n=xs.length:=e;rcases e' with ⟨xs,hx,e'⟩ | ⟨xs,hx,e'⟩
    · subst e';obtain ⟨its,r',pl,hz⟩:=I.list hx;have hlen:=r'.length;exact Calls.call_len_list pl.isList (by simp only [List.size_toArray];omega) ⟨.int xs.length,H,I.tok _,⟨_,by simp only [List.size_toArray];rw [hlen]⟩,q⟩
    · subst e';obtain ⟨its,r',pl,hz⟩:=I.tuple hx;have hlen:=r'.length;exact len_tuple pl (by simp only [List.size_toArray];omega) ⟨.int xs.length,H,I.tok _,⟨_,by simp only [List.size_toArray];rw [hlen]⟩,q⟩
  | _=>exact (show False from e).elim
end
structure ObjM (h:Heap) (x dx C:Addr) (mA:Str->Option Value):Prop where
  obj:h.get? x=some (PySem.W.instObj C dx)
  ns:h.Ns1 dx mA
  ne:dx≠x
theorem Iq {h:Heap} {dx:Addr} {mA:Str->Option Value} (n:h.Ns1 dx mA):∃ od,h.get? dx=some od/\∀ name,PySem.W.lookIn name od=some (mA name):=by
  obtain ⟨o,es,ep,ho,hd,hk,_,hm⟩:=n;refine ⟨o,ho,λ name=> ?_⟩;have e:=hm name;unfold nsFind findBy at e;rw [<-Array.find?_toList] at e;unfold PySem.W.lookIn;rw [hd];dsimp only;split
  · rename_i y q
    rw [q] at e;exact congrArg some e
  · rename_i q
    rw [q] at e;have a:es.toList.any (·.refKey)=false:=by
      rw [List.any_eq_false];intro y hy;obtain ⟨z,t,hkey⟩:=hk y (Array.mem_toList_iff.mp hy);simp [DictEntry.refKey,hkey]
    have a':¬ es.toList.any (·.refKey)=true:=by rw [a];exact Bool.false_ne_true
    rw [if_neg a'];exact congrArg some e
theorem ObjM.look {h:Heap} {x dx C:Addr} {mA:Str->Option Value} (I:ObjM h x dx C mA):∃ od,PySem.W.InstAt h x (PySem.W.instObj C dx) C (some od)/\∀ name,PySem.W.lookIn name od=some (mA name):=
  let ⟨od,ho,hl⟩:=Iq I.ns
  ⟨od,⟨I.obj,rfl,rfl,ho⟩,hl⟩
section
variable {prog:Program} {w:World} {A:Around} {E:Value->Shared->Prop} {s:Shared} {K:PySem.W.Frag} {x dx C f:Addr} {mA:Str->Option Value} {name:Str} {v:Value}
theorem K1 {expr:Bool} {Q:Value->Shared->Prop} (X:K.In s.heap) (I:ObjM s.heap x dx C mA) (hg:PySem.W.plainGet K C name=true) (hh:PySem.W.hasDictIn K C=true)
    (ha:PySem.W.findIn K (.ref C) name=some none) (hv:mA name=some v) (hv':PySem.W.handedIn v=true) (h:Q v { s with toks:=s.toks+1 }):
    wpAny (model prog w) A (getAttr (.ref x) name expr) Q E s:=by
  obtain ⟨od,J,hl⟩:=I.look;exact PySem.W.get_value X J (PySem.W.plainGet_of hg).1 (PySem.W.findObj_own hh ha rfl (by rw [hl,hv])) hv' h
theorem JN {pl:Sem Bool} {Q:Value × List Value->Shared->Prop} (X:K.In s.heap) (I:ObjM s.heap x dx C mA) (hg:PySem.W.plainGet K C name=true)
    (hf:PySem.W.findIn K (.ref C) name=some (some (.ref f))) (ht:PySem.W.isFn K (.ref f)=true) (hv:mA name=none) (h:Q (.ref f,[.ref x]) s):
    wpAny (model prog w) A (getMethod (.ref x) name pl) Q E s:=by
  obtain ⟨od,J,hl⟩:=I.look;exact PySem.W.method_fn X J (PySem.W.plainGet_of hg).1 (PySem.W.plainGet_of hg).2 hf (beq_iff_eq.mp ht) (by show (PySem.W.lookIn name od).map (·.isSome)=some false;rw [hl,hv];rfl) h
theorem K3 {ns:List Str} {Q:Unit->Shared->Prop} (X:K.In s.heap) (I:ObjM s.heap x dx C mA)
    (hs:PySem.W.findIn K (.ref C) "__setattr__"=some (some (.builtin "object.__setattr__"))) (hp:PySem.W.plainOver K C=true) (ht:PySem.W.takerIn K C name=some none) (hh:PySem.W.hasDictIn K C=true)
    (hw:PySem.Within mA ns) (hsz:ns.length<=sizeLine)
    (h:∀ h',ObjM h' x dx C (λ y=>if y=name then some v else mA y)->Heap.SameBut dx s.heap h'->Q () { s with heap:=h',toks:=s.toks+2 }):
    wpAny (model prog w) A (setAttr (.ref x) name v) Q E s:=by
  obtain ⟨od,J,hl⟩:=I.look;refine PySem.W.set_plain X J hs (PySem.W.osa_open (s:={ s with toks:=s.toks+1 }) (r:=none) X J hp ht λ b=> ?_);obtain ⟨cd,hc,hd'⟩:=PySem.W.any_some hh;have hx:s.heap.get? x=some ⟨.ref C,some dx, .plain, #[]⟩:=I.obj;refine wpAny_bind (wpAny_pure (wpAny_bind (wpAny_bind (wpAny_loadPart hx (wpAny_bind (PySem.W.Looks.here (s:={ s with toks:=s.toks+1 }) (PySem.W.looks_clsIn X hc) ?_))))));rw [hd'];refine wpAny_pure (a:=some dx) (wpAny_bind (wpAny_pure (wpAny_bind ?_)));refine wpAny_nsSet1 (s:={ s with toks:=s.toks+1 }) I.ns λ h' hn2 hs2=> ?_;obtain ⟨oD,esD,epD,hoD,hdD,hcD⟩:=hn2.count (PySem.Within.cons name v hw);refine wpAny_bind (wpAny_lookBehind hoD (by rw [hdD];exact pastItsLine_dict (Nat.le_trans hcD (by rw [List.length_cons];omega))) ?_);exact wpAny_pure (h _ ⟨(hs2.2 _ (Ne.symm I.ne)).trans I.obj,hn2,I.ne⟩ hs2)
theorem JG {R:Result->Shared->Prop} {vs:List Value} {kw:List (Str × Value)} (X:K.In s.heap) (hm:PySem.W.makesIn K C=true)
    (hi:PySem.W.findIn K (.ref C) "__init__"=some (some (.ref f))) (hf:PySem.W.typeIn K (.ref f)=some (.type "function"))
    (h:codeAny (model prog w) (A.under (.builtin "type.__call__" ⟨.ref C::vs,kw⟩)) (.call (.ref f) ⟨.ref (s.heap.objs.size+1)::vs,kw⟩) (PySem.W.InitBack (s.heap.objs.size+1) R)
      { s with heap:=(s.heap.push PySem.W.emptyDict).push (PySem.W.instObj C s.heap.objs.size) }):
    codeAny (model prog w) A (.call (.ref C) ⟨vs,kw⟩) R s:=by
  obtain ⟨hh,g,d,t,os⟩:=s;exact PySem.W.make_core (PySem.W.makes_of X hm) (PySem.W.looks_findIn X hi) (λ self=>PySem.W.bind_fn X self hf) (.inl rfl) h
end
def BL (f:Str) (v:V):List (Str × V)->List (Str × V)
  | []=>[(f,v)]
  | (g,x)::r=>if g=f then (g,v)::r else (g,x)::BL f v r
theorem DG (f g:Str) (v:V):∀ fs:List (Str × V),(BL f v fs).lookup g=if g=f then some v else fs.lookup g
  | []=>by
    show List.lookup g [(f,v)]=_;by_cases h:g=f
    · have hb:(g == f)=true:=beq_iff_eq.mpr h;simp only [List.lookup,hb,if_pos h]
    · have hb:(g == f)=false:=beq_eq_false_iff_ne.mpr h;simp only [List.lookup,hb,if_neg h]
  | (k,x)::r=>by
    have ih:=DG f g v r;rw [show BL f v ((k,x)::r)=(if k=f then (k,v)::r else (k,x)::BL f v r) from rfl];by_cases hk:k=f
    · rw [if_pos hk];by_cases h:g=k
      · have hb:(g == k)=true:=beq_iff_eq.mpr h;simp only [List.lookup,hb,if_pos (h.trans hk)]
      · have hb:(g == k)=false:=beq_eq_false_iff_ne.mpr h;simp only [List.lookup,hb,if_neg (λ e:g=f=>h (e.trans hk.symm))]
    · rw [if_neg hk];by_cases h:g=k
      · have hb:(g == k)=true:=beq_iff_eq.mpr h;simp only [List.lookup,hb,if_neg (λ e:g=f=>hk (h.symm.trans e))]
      · have hb:(g == k)=false:=beq_eq_false_iff_ne.mpr h;simp only [List.lookup,hb];exact ih
theorem Dp (f:Str) (v:V):∀ fs:List (Str × V),f∈(BL f v fs).map (·.1)/\∀ g,g∈fs.map (·.1)->g∈(BL f v fs).map (·.1)
  | []=>⟨by simp [BL],λ g h=>by simp at h⟩
  | (k,x)::r=>by
    obtain ⟨i1,i2⟩:=Dp f v r;rw [show BL f v ((k,x)::r)=(if k=f then (k,v)::r else (k,x)::BL f v r) from rfl];by_cases hk:k=f
    · rw [if_pos hk];subst hk;exact ⟨by simp,λ g h=>by simpa using h⟩
    · rw [if_neg hk];refine ⟨?_,λ g h=> ?_⟩
      · rw [List.map_cons];exact List.mem_cons_of_mem _ i1
      · rw [List.map_cons] at h ⊢;rcases List.mem_cons.mp h with e | e
        · exact List.mem_cons.mpr (.inl e)
        · exact List.mem_cons_of_mem _ (i2 g e)
theorem DD (f:Str) (v:V):∀ fs:List (Str × V),(BL f v fs).length<=fs.length+1
  | []=>by simp [BL]
  | (k,x)::r=>by
    have ih:=DD f v r;rw [show BL f v ((k,x)::r)=(if k=f then (k,v)::r else (k,x)::BL f v r) from rfl];by_cases hk:k=f
    · rw [if_pos hk,List.length_cons,List.length_cons];omega
    · rw [if_neg hk,List.length_cons,List.length_cons];omega
theorem RelO.some_of {v:V} {o:Option Value} (r:RelO (some v) o):∃ u,o=some u/\RelV v u:=by
  cases o with
  | none=>exact (show False from r).elim
  | some u=>exact ⟨u,rfl,r⟩
theorem RelO.none_of {o:Option Value} (r:RelO none o):o=none:=by
  cases o with
  | none=>rfl
  | some u=>exact (show False from r).elim
theorem Iy {v:V} {u:Value} (r:RelV v u):PySem.W.handedIn u=true:=by
  cases v with
  | non=>cases (show u=Value.none from r);rfl
  | bl b=>cases (show u=Value.bool b from r);rfl
  | int i=>obtain ⟨t,e⟩:=(show ∃ t,u=Value.int i t from r);cases e;rfl
  | str x=>obtain ⟨t,e⟩:=(show ∃ t,u=Value.str x t from r);cases e;rfl
  | byt b=>obtain ⟨t,e⟩:=(show ∃ t,u=Value.bytes b t from r);cases e;rfl
  | flt b=>obtain ⟨t,e⟩:=(show ∃ t,u=Value.float b t from r);cases e;rfl
  | ref a=>cases (show u=Value.ref a from r);rfl
  | ty n=>cases (show u=Value.type n from r);rfl
section
variable {P:Program} {w:World} {H H':Hp} {h h':Heap} {a C dx:Addr} {fs fs':List (Str × V)}
theorem DW (hok:HOk P w H h) (e:H a=some (.ins C dx fs)):∃ mA,ObjM h a dx C mA/\(∀ f,RelO (fs.lookup f) (mA f))/\PySem.Within mA (fs.map (·.1))/\fs.length<=1000/\H dx=some (.own a):=by
  obtain ⟨d,z,ne,ob,mA,n,r,q⟩:=(show ObjOk P w H h a (.ins C dx fs) from hok a _ e);exact ⟨mA,⟨ob,n,ne⟩,r,q,z,d⟩
end
structure Cls (K:PySem.W.Frag) (C:Addr):Prop where
  pg:PySem.W.plainGet K C Str.empty=true
  hd:PySem.W.hasDictIn K C=true
  po:PySem.W.plainOver K C=true
  sa:PySem.W.findIn K (.ref C) "__setattr__"=some (some (.builtin "object.__setattr__"))
theorem Cls.get {K:PySem.W.Frag} {C:Addr} (c:Cls K C) (f:Str):PySem.W.plainGet K C f=true:=c.pg
def NoAttr (K:PySem.W.Frag) (C:Addr) (f:Str):Prop:=PySem.W.findIn K (.ref C) f=some none
theorem NoAttr.taker {K:PySem.W.Frag} {C:Addr} {f:Str} (n:NoAttr K C f):PySem.W.takerIn K C f=some none:=by
  unfold PySem.W.takerIn;rw [show PySem.W.findIn K (.ref C) f=some none from n];rfl
structure Con (K:PySem.W.Frag) (C:Addr) (f:Str) (v:V) (u:Value):Prop where
  at_:PySem.W.findIn K (.ref C) f=some (some u)
  rel:RelV v u
  get:PySem.W.specialIn K u "__get__"=some none
  cp:PySem.W.copiedNames.contains f=false
structure Meth (K:PySem.W.Frag) (C:Addr) (m:Str) (f:Addr):Prop where
  at_:PySem.W.findIn K (.ref C) m=some (some (.ref f))
  fn:PySem.W.isFn K (.ref f)=true
  kp:PySem.W.keepIn K (.ref f)=true
section
variable {X:Cx} {pins:List (Addr × Obj)} {σ:St} {H:Hp} {s:Shared} {a C dx:Addr} {fs:List (Str × V)} {f:Str} {v:V} {A:Around} {E:Value->Shared->Prop}
theorem G8 {b:Bool} {Q:Value->Shared->Prop} (I:Inv X pins σ H s) (e:H a=some (.ins C dx fs)) (c:Cls X.K C) (n:NoAttr X.K C f) (l:fs.lookup f=some v)
    (h:∀ u s',Inv X pins σ H s'->RelV v u->Q u s'):wpAny (model X.prog X.w) A (getAttr (.ref a) f b) Q E s:=by
  obtain ⟨mA,O,r,_,_,_⟩:=DW I.hok e;obtain ⟨u,hu,ru⟩:=RelO.some_of (v:=v) (o:=mA f) (by rw [<-l];exact r f);exact K1 I.kIn O (c.get f) c.hd n hu (Iy ru) (h u _ (I.tok _) ru)
theorem CP {m:Str} {g:Addr} {pl:Sem Bool} {Q:Value × List Value->Shared->Prop} (I:Inv X pins σ H s) (e:H a=some (.ins C dx fs)) (c:Cls X.K C) (k:Meth X.K C m g) (l:fs.lookup m=none)
    (h:Q (.ref g,[.ref a]) s):wpAny (model X.prog X.w) A (getMethod (.ref a) m pl) Q E s:=by
  obtain ⟨mA,O,r,_,_,_⟩:=DW I.hok e;have hn:mA m=none:=RelO.none_of (by rw [<-l];exact r m);exact JN I.kIn O (c.get m) k.at_ k.fn hn h
theorem G6 {y:V} {u:Value} {Q:Unit->Shared->Prop} (I:Inv X pins σ H s) (e:H a=some (.ins C dx fs)) (c:Cls X.K C) (n:NoAttr X.K C f) (hl:fs.length<1000) (ry:RelV y u)
    (h:∀ s',Inv X pins σ (upd H a (.ins C dx (BL f y fs))) s'->Q () s'):wpAny (model X.prog X.w) A (setAttr (.ref a) f u) Q E s:=by
  obtain ⟨mA,O,r,wi,_,ho⟩:=DW I.hok e;have hz:(fs.map (·.1)).length<=sizeLine:=by rw [List.length_map,sizeLine_eq];omega
  refine K3 I.kIn O c.sa c.po n.taker c.hd wi hz λ h' O' sb=>h _ ?_;have hd:∃ o,h'.get? dx=some o:=let ⟨o,_,_,e',_⟩:=O'.ns;⟨o,e'⟩;refine I.write (x:=a) (e:=dx) (by rw [e];exact True.intro) (.inr ho) (λ b q hb z=>(sb.2 b hb).trans z) hd ?_;refine ⟨by rw [Aj O.ne];exact ho,?_,O.ne,O'.obj,_,O'.ns,λ g=> ?_,λ g hg=> ?_⟩
  · have:=DD f y fs;omega
  · show RelO ((BL f y fs).lookup g) (if g=f then some u else mA g);rw [DG];by_cases q:g=f
    · rw [if_pos q,if_pos q];exact ry
    · rw [if_neg q,if_neg q];exact r g
  · by_cases q:g=f
    · rw [q];exact (Dp f y fs).1
    · refine (Dp f y fs).2 g (wi g λ z=>hg ?_);show (if g=f then some u else mA g)=none;rw [if_neg q];exact z
theorem Inv.made (I:Inv X pins σ H s):Inv X pins σ (upd (upd H s.heap.objs.size (.own (s.heap.objs.size+1))) (s.heap.objs.size+1) (.ins C s.heap.objs.size []))
    { s with heap:=(s.heap.push PySem.W.emptyDict).push (PySem.W.instObj C s.heap.objs.size) }:=by
  have e1:(s.heap.push PySem.W.emptyDict).get? s.heap.objs.size=some PySem.W.emptyDict:=Heap.get?_push_size s.heap rfl;have e2:((s.heap.push PySem.W.emptyDict).push (PySem.W.instObj C s.heap.objs.size)).get? (s.heap.objs.size+1)=some (PySem.W.instObj C s.heap.objs.size):=by
    have:=Heap.get?_push_size (s.heap.push PySem.W.emptyDict) (o:=PySem.W.instObj C s.heap.objs.size) rfl
    rwa [Heap.size_push] at this
  have e3:(s.heap.push PySem.W.emptyDict).Ns s.heap.objs.size (λ _=>none):=⟨PySem.W.emptyDict, #[],_,e1,rfl,(λ e he=>absurd he (by simp)),λ _=>rfl⟩;have I1:=I.laid (a:=s.heap.objs.size) (o:= .own (s.heap.objs.size+1)) (h':=s.heap.push PySem.W.emptyDict) (t':=s.toks) (λ b u q=>Heap.get?_push_of_some _ q) (Nat.le_refl _) ⟨_,e1⟩;refine I1.laid (a:=s.heap.objs.size+1) (o:= .ins C s.heap.objs.size []) (t':=s.toks) (λ b u q=>Heap.get?_push_of_some _ q) (Nat.le_of_eq (Heap.size_push _ _)) ?_;have ne:s.heap.objs.size≠s.heap.objs.size+1:=Nat.ne_of_lt (Nat.lt_succ_self _);refine ⟨by rw [Aj ne,Ad],Nat.zero_le _,ne,e2,λ _=>none,(Heap.Ns1.of_empty e3).at λ o q=>Heap.get?_push_of_some _ q,λ _=>True.intro,λ y hy=>absurd rfl hy⟩
theorem K5 {prog:Program} {w:World} {env:Env} {e:Expr} {f:Str} {pos:Pos} {s:Shared} {Q:Value->Shared->Prop} (hb:attributeBase e f env (eval e env)=eval e env)
    (h:wpAny (model prog w) A (eval e env) (λ o s₁=>wpAny (model prog w) A (getAttr o f true) Q E s₁) E s):wpAny (model prog w) A (eval (.Attribute e f pos) env) Q E s:=
  Attribute_any_ h (by rw [arm_eval_Attribute,hb])
end
def Mp (K:PySem.W.Frag) (ta:TE) (f:Str):TE:=λ σ H Q=>ta σ H λ x H1=>∃ a C dx fs v,x= .ref a/\H1 a=some (.ins C dx fs)/\Cls K C/\NoAttr K C f/\fs.lookup f=some v/\Q v H1
def Nd (K:PySem.W.Frag) (ta tv:TE) (f:Str):TS:=λ D σ H=>tv σ H λ y H1=>ta σ H1 λ x H2=>∃ a C dx fs,x= .ref a/\H2 a=some (.ins C dx fs)/\Cls K C/\NoAttr K C f/\fs.length<1000/\
  D.nx σ (upd H2 a (.ins C dx (BL f y fs)))
section
variable {X:Cx} {o e value:Expr} {f:Str} {pos pos' tpos:Pos} {ta tv:TE}
theorem L7 (he:PE X e ta) (hb:attributeBase e f X.env (eval e X.env)=eval e X.env):PE X (.Attribute e f pos) (Mp X.K ta f):=by
  intro pins s σ H Q I h;refine K5 hb (thn (he pins s σ H _ I h) λ u s1 ⟨x,H1,I1,rx,a,C,dx,fs,v,ex,ea,c,n,l,q⟩=> ?_);subst ex;obtain rfl:u=Value.ref a:=rx;exact G8 I1 ea c n l λ u' s2 I2 ru=>⟨v,H1,I2,ru,q⟩
theorem JP (ha:PE X o ta) (hv:PE X value tv) (hs:swapsWith value (some (.Attribute o f pos')) pos.line X.env=pure false):PS X (.Assign [.Attribute o f pos'] value pos) (Nd X.K ta tv f):=by
  intro pins s σ H D I h;refine plainObj_wpAny_Assign_Attribute (thn (hv pins s σ H _ I h) λ u s1 ⟨y,H1,I1,ry,q⟩=>thn (ha pins s1 σ H1 _ I1 q) λ ov s2 ⟨x,H2,I2,rx,a,C,dx,fs,ex,ea,c,n,l,q2⟩=> ?_) hs;subst ex;obtain rfl:ov=Value.ref a:=rx;exact G6 I2 ea c n l ry λ s3 I3=>⟨σ,_,I3,q2⟩
theorem Ld {pl:Sem Bool} {m:Str} {apos:Pos} {args:List Expr} {pins:List (Addr × Obj)} {s:Shared} {σ:St} {H:Hp} {Q:Value->Shared->Prop} {te:TE} (he:PE X e te) (I:Inv X pins σ H s)
    (h:te σ H λ x H1=>∃ a C dx fs g,x= .ref a/\H1 a=some (.ins C dx fs)/\Cls X.K C/\Meth X.K C m g/\fs.lookup m=none/\
      ∀ s1,Inv X pins σ H1 s1->wpAny (model X.prog X.w) X.A (callWith pos (.ref g) [.ref a] (backTo pos (starEach args X.env)) (backToKw pos (keywordEach [] X.env))) Q X.xe s1)
    (ht:eval (.Call (.Attribute e m apos) args [] pos) X.env=(do
      let ov <-eval e X.env
      standAt apos.atName
      let (f,first) <-holding [ov] (getMethod ov m pl)
      callWith pos f first (backTo pos (starEach args X.env)) (backToKw pos (keywordEach [] X.env)))):
    wpAny (model X.prog X.w) X.A (eval (.Call (.Attribute e m apos) args [] pos) X.env) Q X.xe s:=by
  refine PySem.W.methodCall_KW (pl:=pl) (thn (he pins s σ H _ I h) λ u s1 ⟨x,H1,I1,rx,a,C,dx,fs,g,ex,ea,c,k,l,q⟩=> ?_) ht;subst ex;obtain rfl:u=Value.ref a:=rx;exact CP I1 ea c k l (q s1 I1)
end
section
variable {X:Cx} {pins:List (Addr × Obj)} {σ:St} {H:Hp} {s:Shared} {A:Around} {E:Value->Shared->Prop} {Q:Value->Shared->Prop} {c:Value} {b:Bool}
inductive TyOf (K:PySem.W.Frag) (H:Hp):V->Value->Prop where
  | non:TyOf K H .non (.type "NoneType")
  | bl (x:Bool):TyOf K H (.bl x) (.type "bool")
  | int (i:Int):TyOf K H (.int i) (.type "int")
  | str (x:Str):TyOf K H (.str x) (.type "str")
  | flt (x:UInt64):TyOf K H (.flt x) (.type "float")
  | lst {a:Addr} {xs:List V} (e:H a=some (.lst xs)):TyOf K H (.ref a) (.type "list")
  | frz {a:Addr} {o:Obj} {xs:List V} (e:H a=some (.frz o (.lst xs))):TyOf K H (.ref a) (.type "list")
  | tup {a:Addr} {xs:List V} (e:H a=some (.tup xs)):TyOf K H (.ref a) (.type "tuple")
  | dK {a:Addr} {kvs:List (Key × V)} (e:H a=some (.dK kvs)):TyOf K H (.ref a) (.type "dict")
  | dT {a:Addr} {kvs:List (List Key × V)} (e:H a=some (.dT kvs)):TyOf K H (.ref a) (.type "dict")
  | ins {a C dx:Addr} {fs:List (Str × V)} (e:H a=some (.ins C dx fs)) (cl:Cls K C) (ha:PySem.W.findIn K (.ref C) "__class__"=some (some (.builtin "object.__class__")))
      (hn:PySem.W.specialIn K (.builtin "object.__class__") "__get__"=some (some (.builtin "getset_descriptor.__get__"))) (htk:PySem.W.takesIn K (.builtin "object.__class__")=some true)
      (hm:PySem.W.mroIn K C (.type "object")=some true):TyOf K H (.ref a) (.ref C)
theorem Dr {x:V} {u t:Value} (I:Inv X pins σ H s) (rx:RelV x u) (ty:TyOf X.K H x t) (e:PySem.W.kitOne X.K t c=some b) (h:∀ tk,Q (.bool b) { s with toks:=tk }):
    wpAny (model X.prog X.w) A (call (.builtin "isinstance") [u,c]) Q E s:=by
  cases ty with
  | non=>cases (show u=Value.none from rx);exact PySem.W.kia_one PySem.W.kitx_none I.kIn True.intro e (λ z=>nomatch z) h
  | bl y=>cases (show u=Value.bool y from rx);exact PySem.W.kia_one PySem.W.kitx_bool I.kIn True.intro e (λ z=>nomatch z) h
  | int i=>obtain ⟨t,q⟩:=(show ∃ t,u=Value.int i t from rx);cases q;exact PySem.W.kia_one PySem.W.kitx_int I.kIn True.intro e (λ z=>nomatch z) h
  | str y=>obtain ⟨t,q⟩:=(show ∃ t,u=Value.str y t from rx);cases q;exact PySem.W.kia_one PySem.W.kitx_str I.kIn True.intro e (λ z=>nomatch z) h
  | flt y=>obtain ⟨t,q⟩:=(show ∃ t,u=Value.float y t from rx);cases q;exact PySem.W.kia_one PySem.W.kitx_float I.kIn True.intro e (λ z=>nomatch z) h
  | @lst a xs ea=>
    cases (show u=Value.ref a from rx);obtain ⟨_,_,n,_,h1⟩:=(show ObjOk X.prog X.w H s.heap a (.lst xs) from I.hok a _ ea);exact PySem.W.kia_one PySem.W.kitx_list I.kIn ⟨_,h1,rfl⟩ e (λ z=>nomatch z) h
  | @frz a ob xs ea=>
    cases (show u=Value.ref a from rx);obtain ⟨_,_,_,n,_,h1⟩:=(show ObjOk X.prog X.w H s.heap a (.frz ob (.lst xs)) from I.hok a _ ea);exact PySem.W.kia_one PySem.W.kitx_list I.kIn ⟨_,h1,rfl⟩ e (λ z=>nomatch z) h
  | @tup a xs ea=>
    cases (show u=Value.ref a from rx);obtain ⟨_,_,_,p⟩:=(show ObjOk X.prog X.w H s.heap a (.tup xs) from I.hok a _ ea);obtain ⟨o,h1,h2,_⟩:=p;exact PySem.W.kia_one PySem.W.kitx_tuple I.kIn ⟨o,h1,h2⟩ e (λ z=>nomatch z) h
  | @dK a kvs ea=>
    cases (show u=Value.ref a from rx);obtain ⟨_,_,vs,_,p⟩:=(show ObjOk X.prog X.w H s.heap a (.dK kvs) from I.hok a _ ea);obtain ⟨o,es,ep,h1,h2,_⟩:=p;exact PySem.W.kia_one PySem.W.kitx_dict I.kIn ⟨o,h1,h2.1⟩ e (λ z=>nomatch z) h
  | @dT a kvs ea=>
    cases (show u=Value.ref a from rx);obtain ⟨_,_,xs,_,o,es,ep,h1,h2,_⟩:=(show ObjOk X.prog X.w H s.heap a (.dT kvs) from I.hok a _ ea);exact PySem.W.kia_one PySem.W.kitx_dict I.kIn ⟨o,h1,h2.1⟩ e (λ z=>nomatch z) h
  | @ins a C dx fs ea cl ha hn htk hm=>
    cases (show u=Value.ref a from rx);obtain ⟨mA,O,_⟩:=DW I.hok ea;obtain ⟨od,J,_⟩:=O.look;exact PySem.W.kia_one (PySem.W.kitx_own (cl.get _) cl.hd ha hn htk hm) I.kIn J e (λ z=>nomatch z) h
end
structure Room (k:Nat) (A:Around):Prop where
  hd:A.handled=none
  dp:A.depth+3*k+5<recursionLimit
  un:A.units+16*k+200<cLine
theorem Room.mono {j k:Nat} {A:Around} (r:Room k A) (h:j<=k):Room j A:=⟨r.hd,by have:=r.dp;omega,by have:=r.un;omega⟩
theorem Room.deeper {k:Nat} {A:Around} (r:Room (k+1) A) (env:Env):Room k (A.deeper env):=
  ⟨r.hd,by have:=r.dp;show A.depth+1+3*k+5<_;omega,by have:=r.un;show A.units+3+16*k+200<_;omega⟩
theorem Hl {A:Around} {C:Addr} {us:List Value} {kw:List (Str × Value)}:(A.under (.builtin "type.__call__" ⟨.ref C::us,kw⟩)).depth=A.depth+1:=by
  first | rfl | simp [Around.under,Code.weight,Code.isCreation,Code.isGuard,Code.isCaller,Code.frames,Code.isFrame,guardIds]
theorem Hr {A:Around} {C:Addr} {us:List Value} {kw:List (Str × Value)}:(A.under (.builtin "type.__call__" ⟨.ref C::us,kw⟩)).units=A.units+1:=by
  first | rfl | simp [Around.under,Code.cUnits,Code.frames,Code.isFrame]
theorem Room.make {k:Nat} {A:Around} (r:Room (k+1) A) (C:Addr) (us:List Value) (kw:List (Str × Value)):Room k (A.under (.builtin "type.__call__" ⟨.ref C::us,kw⟩)):=
  ⟨r.hd,by have:=r.dp;rw [Hl];omega,by have:=r.un;rw [Hr];omega⟩
theorem Room.depth {k:Nat} {A:Around} (r:Room k A):A.depth<recursionLimit:=by have:=r.dp;omega
theorem Room.units {k:Nat} {A:Around} (r:Room k A):A.units+64<cLine:=by have:=r.un;omega
theorem Room.units0 {k:Nat} {A:Around} (r:Room k A):A.units<cLine:=by have:=r.un;omega
def Lb:TA:=λ _ H Q=>Q [] H
def Lr (ta:TE) (tr:TA):TA:=λ σ H Q=>ta σ H λ x H1=>tr σ H1 λ xs H2=>Q (x::xs) H2
section
variable {X:Cx} {e:Expr} {es:List Expr} {te:TE} {t:TA} {pos:Pos}
theorem Ac:PA X [] Lb:=λ _ _ _ _ H Q I h=>Calls.spliced_nil ⟨[],H,I, .nil,h⟩
theorem Aa (ha:PE X e te) (hr:PA X es t) (hs:starEach (e::es) X.env=(false,eval e X.env)::starEach es X.env:=by rfl):PA X (e::es) (Lr te t):=by
  intro pos pins s σ H Q I h;rw [hs];show wpAny _ _ (spliced ((false,eval e X.env)::backTo pos (starEach es X.env))) _ _ s;refine Calls.spliced_cons (thn (ha pins s σ H _ I h) λ u s1 ⟨x,H1,I1,r1,q1⟩=> ?_);exact thn (hr pos pins s1 σ H1 _ I1 q1) λ us s2 ⟨xs,H2,I2,r2,q2⟩=>⟨x::xs,H2,I2, .cons r1 r2,q2⟩
def MY (t:TA):TE:=λ σ H Q=>t σ H λ xs H1=>xs.length<=sizeLine/\∀ p,H1 p=none->Q (.ref p) (upd H1 p (.tup xs))
def Na (t:TA):TE:=λ σ H Q=>t σ H λ xs H1=>xs.length<=sizeLine/\∀ p,H1 p=none->Q (.ref p) (upd H1 p (.lst xs))
theorem AH {x1} (h:PA X es t):PE X (.Tuple es x1 pos) (MY t):=by
  intro pins s σ H Q I hq;refine wpAny_Tuple_spliced (thn (h pos pins s σ H _ I hq) λ us s1 ⟨xs,H1,I1,r,z,q⟩=>⟨by rw [<-r.length];exact z,?_⟩);have hf:H1 s1.heap.objs.size=none:=I1.hok.fresh (Nat.le_refl _);refine ⟨.ref s1.heap.objs.size,upd H1 s1.heap.objs.size (.tup xs),I1.laid (t':=s1.toks) (λ b u e=>Heap.get?_push_of_some _ e) (Nat.le_refl _) ?_,rfl,q _ hf⟩;exact ⟨z,us,r,⟨_,Heap.get?_push_size _ rfl,rfl,_,rfl⟩⟩
theorem Ap (h:PA X es t):PE X (.List es pos) (Na t):=by
  intro pins s σ H Q I hq;refine wpAny_List_spliced (thn (h pos pins s σ H _ I hq) λ us s1 ⟨xs,H1,I1,r,z,q⟩=>⟨by rw [<-r.length];exact z,?_⟩);have hf:H1 s1.heap.objs.size=none:=I1.hok.fresh (Nat.le_refl _);refine ⟨.ref s1.heap.objs.size,upd H1 s1.heap.objs.size (.lst xs),I1.laid (t':=s1.toks) (λ b u e=>Heap.get?_push_of_some _ e) (Nat.le_refl _) ?_,rfl,q _ hf⟩;exact ⟨z,us,0,r,Heap.get?_push_size _ rfl⟩
end
abbrev Sp:=List V->Hp->VK->XK->Prop
abbrev CXT:=List Env->Hp->Shared->XK->Value->Shared->Prop
structure Env0 (P:Program) (w:World) (K:PySem.W.Frag) (mg:Str->Option Value) (base:Heap) (A:Around) (outer:List Env) (s:Shared) (H:Hp):Prop where
  frames:A.frames=some outer
  mod:Mod K mg base
  bs:∀ b o,base.get? b=some o->s.heap.get? b=some o/\H b=none
  bsz:base.objs.size<=s.heap.objs.size
  funs:s.heap.FunFrames base outer
  frf:∀ b∈frs outer,H b=none
  hok:HOk P w H s.heap
  bare:AllBare s.gens
def CE (outer:List Env) (P:Program) (w:World) (H:Hp) (s:Shared) (Q:VK) (u:Value) (s':Shared):Prop:=
  ∃ v H',s'.os=s.os/\AllBare s'.gens/\Un (frs outer) [] H H' s.heap s'.heap/\HOk P w H' s'.heap/\RelV v u/\Q v H'
def CR (CX:CXT) (outer:List Env) (P:Program) (w:World) (H:Hp) (s:Shared) (Q:VK) (E:XK) (r:Result) (s':Shared):Prop:=
  match r with
  | .ok (.ret u)=>CE outer P w H s Q u s'
  | .ok _=>False
  | .error e=>CX outer H s E e s'
structure FnOk (P:Program) (w:World) (K:PySem.W.Frag) (mg:Str->Option Value) (base:Heap) (CX:CXT) (k:Nat) (f:Addr) (fd:FuncData) (ps:List Str) (sp:Sp):Prop where
  len:∀ vs H Q E,sp vs H Q E->vs.length=ps.length
  run:∀ (A:Around) (outer:List Env) (s:Shared) (H:Hp) (args:Args) (us:List Value) (vs:List V) (Q:VK) (E:XK),Room k A->Env0 P w K mg base A outer s H->BindsTo s fd args (ps.zip us)->Vals vs us->sp vs H Q E->
    codeAny (model P w) A (.call (.ref f) args) (CR CX outer P w H s Q E) s
theorem Env0.make {P:Program} {w:World} {K:PySem.W.Frag} {mg:Str->Option Value} {base:Heap} {A:Around} {outer:List Env} {s:Shared} {H:Hp} (e:Env0 P w K mg base A outer s H) (C:Addr) (us:List Value) (kw:List (Str × Value)):
    Env0 P w K mg base (A.under (.builtin "type.__call__" ⟨.ref C::us,kw⟩)) outer s H:=⟨by first | exact e.frames | (simpa [Around.under,Code.envs,Code.isFrame,pushEnvs] using e.frames),e.mod,e.bs,e.bsz,e.funs,e.frf,e.hok,e.bare⟩
section
variable {X:Cx} {pins:List (Addr × Obj)} {σ:St} {H:Hp} {s s':Shared}
theorem Inv.env0 (I:Inv X pins σ H s):Env0 X.prog X.w X.K X.mg X.base X.A X.stack s H:=
  ⟨I.ok.frames,I.ok.mod,I.bs,Nat.le_trans I.ok.bsz I.sz,I.stack,I.stkFree,I.hok,I.bare⟩
theorem Inv.after {Q:VK} {u:Value} (I:Inv X pins σ H s) (h:CE X.stack X.prog X.w H s Q u s'):EP X pins σ Q u s':=by
  obtain ⟨v,H',os,bare,un,hok,r,q⟩:=h;obtain ⟨hh,g,d,t,os'⟩:=s';obtain rfl:os'=s.os:=os;exact ⟨v,H',I.call (h':=hh) (g':=g) (d':=d) (t':=t) (ch:=[]) un hok bare (λ b z=>absurd z (by simp)),r,q⟩
end
def Gs (sp:Sp) (dvs:List V) (E:XK) (t:TA):TE:=λ σ H Q=>t σ H λ vs H1=>sp (vs++dvs) H1 Q E
def Fh (C:Addr) (m:Str) (sp:Sp) (dvs:List V) (E:XK) (ta:TE) (t:TA):TE:=λ σ H Q=>ta σ H λ x H1=>∃ a dx fs,x= .ref a/\H1 a=some (.ins C dx fs)/\fs.lookup m=none/\
  t σ H1 λ vs H2=>sp (x::(vs++dvs)) H2 Q E
def Ft (C:Addr) (sp:Sp) (dvs:List V) (E:XK) (t:TA):TE:=λ σ H Q=>t σ H λ vs H1=>∀ x dx,H1 x=none->H1 dx=none->dx≠x->
  sp (.ref x::(vs++dvs)) (upd (upd H1 dx (.own x)) x (.ins C dx [])) (λ v H2=>v= .non/\Q (.ref x) H2) E
def Binds (K:PySem.W.Frag) (fd:FuncData) (ps:List Str) (ds:List Value):Prop:=
  ∀ (s:Shared) (us:List Value),K.In s.heap->(us++ds).length=ps.length->BindsTo s fd ⟨us,[]⟩ (ps.zip (us++ds))
theorem Binds.all {K:PySem.W.Frag} {fd:FuncData} {ps:List Str} (h:∀ us:List Value,us.length=ps.length->bindArgs fd ⟨us,[]⟩=pure (ps.zip us)):Binds K fd ps []:=λ s us _ hl=>by
  rw [List.append_nil] at hl ⊢;exact .of_eq (h us hl)
def AK (CX:CXT) (X:Cx) (E:XK):Prop:=∀ (pins:List (Addr × Obj)) (σ:St) (H:Hp) (s:Shared) (e:Value) (s':Shared),Inv X pins σ H s->CX X.stack H s E e s'->X.xe e s'
section
variable {X:Cx} {CX:CXT} {k:Nat} {f C:Addr} {fd:FuncData} {ps:List Str} {sp:Sp} {dvs:List V} {ds:List Value} {E:XK} {x m:Str} {p pos apos:Pos} {e o:Expr} {es:List Expr} {ta:TE} {t:TA}
theorem Hf {pins:List (Addr × Obj)} {σ:St} {H:Hp} {s:Shared} {Q:VK} {us:List Value} {vs:List V} (F:FnOk X.prog X.w X.K X.mg X.base CX k f fd ps sp) (hr:Room k X.A) (hb:Binds X.K fd ps ds) (hd:Vals dvs ds) (hx:AK CX X E)
    (I:Inv X pins σ H s) (r:Vals vs us) (h:sp (vs++dvs) H Q E):wpAny (model X.prog X.w) X.A (call (.ref f) us) (EP X pins σ Q) X.xe s:=by
  have r2:Vals (vs++dvs) (us++ds):=r.append hd;have hl:(us++ds).length=ps.length:=by rw [<-r2.length];exact F.len _ _ _ _ h
  refine wpAny_call (codeAny_mono (F.run X.A X.stack s H ⟨us,[]⟩ (us++ds) (vs++dvs) Q E hr I.env0 (hb s us I.kIn hl) r2 h) λ r s' hq=> ?_);cases r with
  | error e=>exact hx pins σ H s e s' I hq
  | ok fl=>
    cases fl with
    | ret u=>exact I.after hq
    | next=>exact False.elim hq
    | brk=>exact False.elim hq
    | cont=>exact False.elim hq
theorem Hy (F:FnOk X.prog X.w X.K X.mg X.base CX k f fd ps sp) (hr:Room k X.A) (hg:Gl X x) (hm:X.mg x=some (.ref f)) (hk:PySem.W.keepIn X.K (.ref f)=true) (hb:Binds X.K fd ps ds) (hd:Vals dvs ds) (hx:AK CX X E)
    (ha:PA X (e::es) t) (hdb:(x == ("__debug__":Str))=false:=by decide) (he:starEach (e::es) X.env=(false,eval e X.env)::starEach es X.env:=by rfl) (hpl:(backTo pos (starEach es X.env)).any (·.1)=false:=by rfl):
    PE X (.Call (.Name x p) (e::es) [] pos) (Gs sp dvs E t):=by
  intro pins s σ H Q I h;refine wpAny_Call_Name_kw (C6 I hg hm ?_ hdb);refine PySem.W.callWith_K (h₀:=X.base) I.ok.mod.kin hk (thn (ha pos pins s σ H _ I h) λ us s1 ⟨vs,H1,I1,r,q⟩=>⟨I1.kIn,?_⟩) he hpl;exact Hf F hr hb hd hx I1 r q
theorem Kf {pl:Sem Bool} (he:PE X o ta) (c:Cls X.K C) (hm:Meth X.K C m f) (F:FnOk X.prog X.w X.K X.mg X.base CX k f fd ps sp) (hr:Room k X.A) (hb:Binds X.K fd ps ds) (hd:Vals dvs ds) (hx:AK CX X E) (ha:PA X (e::es) t)
    (hst:starEach (e::es) X.env=(false,eval e X.env)::starEach es X.env:=by rfl) (hpl:(backTo pos (starEach es X.env)).any (·.1)=false:=by rfl)
    (ht:eval (.Call (.Attribute o m apos) (e::es) [] pos) X.env=(do
      let ov <-eval o X.env
      standAt apos.atName
      let (f,first) <-holding [ov] (getMethod ov m pl)
      callWith pos f first (backTo pos (starEach (e::es) X.env)) (backToKw pos (keywordEach [] X.env))):=by rfl):
    PE X (.Call (.Attribute o m apos) (e::es) [] pos) (Fh C m sp dvs E ta t):=by
  intro pins s σ H Q I h;refine PySem.W.methodCall_KW (pl:=pl) (thn (he pins s σ H _ I h) λ u s1 ⟨x,H1,I1,rx,a,dx,fs,ex,ea,l,q⟩=> ?_) ht;subst ex;obtain rfl:u=Value.ref a:=rx;refine CP I1 ea c hm l ?_;refine PySem.W.callWith_K (first:=[.ref a]) (h₀:=X.base) I.ok.mod.kin hm.kp (thn (ha pos pins s1 σ H1 _ I1 q) λ us s2 ⟨vs,H2,I2,r,q2⟩=>⟨I2.kIn,?_⟩) hst hpl;exact Hf (us:= .ref a::us) (vs:= .ref a::vs) F hr hb hd hx I2 (.cons rfl r) q2
theorem Jj {pl:Sem Bool} (he:PE X o ta) (c:Cls X.K C) (hm:Meth X.K C m f) (F:FnOk X.prog X.w X.K X.mg X.base CX k f fd ps sp) (hr:Room k X.A) (hb:Binds X.K fd ps ds) (hd:Vals dvs ds) (hx:AK CX X E)
    (ht:eval (.Call (.Attribute o m apos) [] [] pos) X.env=(do
      let ov <-eval o X.env
      standAt apos.atName
      let (f,first) <-holding [ov] (getMethod ov m pl)
      callWith pos f first (backTo pos (starEach [] X.env)) (backToKw pos (keywordEach [] X.env))):=by rfl):
    PE X (.Call (.Attribute o m apos) [] [] pos) (Fh C m sp dvs E ta Lb):=by
  intro pins s σ H Q I h;refine PySem.W.methodCall_KW (pl:=pl) (thn (he pins s σ H _ I h) λ u s1 ⟨x,H1,I1,rx,a,dx,fs,ex,ea,l,q⟩=> ?_) ht;subst ex;obtain rfl:u=Value.ref a:=rx;refine CP I1 ea c hm l ?_;exact PySem.W.callWith_K0 (first:=[.ref a]) I1.kIn hm.kp (Hf (us:=[.ref a]) (vs:=[.ref a]) F hr hb hd hx I1 (.cons rfl .nil) q)
structure Mk (K:PySem.W.Frag) (C f:Addr):Prop where
  makes:PySem.W.makesIn K C=true
  init:PySem.W.findIn K (.ref C) "__init__"=some (some (.ref f))
  fn:PySem.W.isFn K (.ref f)=true
  kp:PySem.W.keepIn K (.ref C)=true
theorem Jc {pins:List (Addr × Obj)} {σ:St} {H:Hp} {s:Shared} {Q:VK} {us:List Value} {vs:List V} (M:Mk X.K C f) (F:FnOk X.prog X.w X.K X.mg X.base CX k f fd ps sp) (hr:Room (k+1) X.A) (hb:Binds X.K fd ps ds) (hd:Vals dvs ds)
    (hx:AK CX X E) (I:Inv X pins σ H s) (r:Vals vs us)
    (h:∀ x dx,H x=none->H dx=none->dx≠x->sp (.ref x::(vs++dvs)) (upd (upd H dx (.own x)) x (.ins C dx [])) (λ v H2=>v= .non/\Q (.ref x) H2) E):
    wpAny (model X.prog X.w) X.A (call (.ref C) us) (EP X pins σ Q) X.xe s:=by
  have hq:=h (s.heap.objs.size+1) s.heap.objs.size (I.hok.fresh (Nat.le_succ _)) (I.hok.fresh (Nat.le_refl _)) (Nat.ne_of_lt (Nat.lt_succ_self _));have I2:=Inv.made (C:=C) I;have r2:Vals (V.ref (s.heap.objs.size+1)::(vs++dvs)) (Value.ref (s.heap.objs.size+1)::(us++ds)):= .cons rfl (r.append hd);have hl:(Value.ref (s.heap.objs.size+1)::us++ds).length=ps.length:=by
    have e:=r2.length;rw [F.len _ _ _ _ hq] at e;exact e.symm
  refine wpAny_call (JG (f:=f) I.kIn M.makes M.init (beq_iff_eq.mp M.fn) (codeAny_mono (F.run _ X.stack _ _ ⟨Value.ref (s.heap.objs.size+1)::us,[]⟩ (Value.ref (s.heap.objs.size+1)::(us++ds)) _ _ E (hr.make C us [])
    (I2.env0.make C us []) (hb _ (Value.ref (s.heap.objs.size+1)::us) I2.kIn hl) r2 hq) λ r s' hq'=> ?_))
  cases r with
  | error e=>exact hx pins σ _ _ e s' I2 hq'
  | ok fl=>
    cases fl with
    | ret u=>
      obtain ⟨v,H',I3,rv,ev,q3⟩:=I2.after hq';subst ev;exact ⟨rv,⟨V.ref (s.heap.objs.size+1),H',I3,rfl,q3⟩⟩
    | next=>exact False.elim hq'
    | brk=>exact False.elim hq'
    | cont=>exact False.elim hq'
theorem KG (M:Mk X.K C f) (F:FnOk X.prog X.w X.K X.mg X.base CX k f fd ps sp) (hr:Room (k+1) X.A) (hg:Gl X x) (hm:X.mg x=some (.ref C)) (hb:Binds X.K fd ps ds) (hd:Vals dvs ds) (hx:AK CX X E)
    (ha:PA X (e::es) t) (hdb:(x == ("__debug__":Str))=false:=by decide) (he:starEach (e::es) X.env=(false,eval e X.env)::starEach es X.env:=by rfl) (hpl:(backTo pos (starEach es X.env)).any (·.1)=false:=by rfl):
    PE X (.Call (.Name x p) (e::es) [] pos) (Ft C sp dvs E t):=by
  intro pins s σ H Q I h;refine wpAny_Call_Name_kw (C6 I hg hm ?_ hdb);refine PySem.W.callWith_K (h₀:=X.base) I.ok.mod.kin M.kp (thn (ha pos pins s σ H _ I h) λ us s1 ⟨vs,H1,I1,r,q⟩=>⟨I1.kIn,?_⟩) he hpl;exact Jc M F hr hb hd hx I1 r q
end
section
variable {X:Cx} {CX:CXT} {k:Nat} {f C:Addr} {fd:FuncData} {ps ks:List Str} {sp:Sp} {E:XK} {x m:Str} {p pos apos kpos:Pos} {e o:Expr} {es:List Expr} {kws:List Keyword} {te ta:TE} {t tk:TA} {nm:Option Str}
structure KBinds (K:PySem.W.Frag) (fd:FuncData) (ps ks:List Str) (g:List Value->List Value->List Value) (gV:List V->List V->List V):Prop where
  to:∀ (s:Shared) (us ws:List Value),K.In s.heap->(g us ws).length=ps.length->BindsTo s fd ⟨us,ks.zip ws⟩ (ps.zip (g us ws))
  rel:∀ {vs:List V} {us:List Value} {zs:List V} {ws:List Value},Vals vs us->Vals zs ws->Vals (gV vs zs) (g us ws)
variable {g:List Value->List Value->List Value} {gV:List V->List V->List V}
end
structure FnScope (N P:List Str) (sc:Scope):Prop where
  kind:sc.kind= .function
  co:sc.isCoroutine=false
  gen:sc.isGenerator=false
  nd:N.Nodup
  pre:N.take P.length=P
  par:∀ x∈P,sc.names.lookup x=some .local\/sc.names.lookup x=some .cell
  nofree:∀ y∈sc.names,y.2≠ .free
theorem FA {kindOf:Str->Option NameKind} {x:Str}:∀ {binds:List (Str × Value)} {m:Str->Option Value},(∀ v,(x,v)∉binds)->bindL kindOf binds m x=m x
  | [],_,_=>rfl
  | (n,v)::r,m,h=>by
    unfold bindL;rw [FA λ w hw=>h w (List.mem_cons_of_mem _ hw)];split
    · have:x≠n:=by rintro rfl;exact h v List.mem_cons_self
      simp [this]
    · rfl
theorem Fg {kindOf:Str->Option NameKind} {x:Str}:∀ {binds:List (Str × Value)} {m:Str->Option Value},(∀ v,(x,v)∉binds)->bindC kindOf binds m x=m x
  | [],_,_=>rfl
  | (n,v)::r,m,h=>by
    unfold bindC;rw [Fg λ w hw=>h w (List.mem_cons_of_mem _ hw)];split
    · rfl
    · have:x≠n:=by rintro rfl;exact h v List.mem_cons_self
      simp [this]
theorem Fp {kindOf:Str->Option NameKind} {x:Str} {v:Value}:∀ {P:List Str} {vs:List Value} {i:Nat} {m:Str->Option Value},P.Nodup->P[i]?=some x->vs[i]?=some v->kindOf x=some .local->
    bindL kindOf (P.zip vs) m x=some v
  | [],_,_,_,_,h,_,_=>by simp at h
  | _::_,[],_,_,_,_,h,_=>by simp at h
  | p::P,w::vs,0,m,nd,h1,h2,hk=>by
    simp at h1 h2;subst h1;subst h2;show bindL kindOf ((p,w)::P.zip vs) m p=_;unfold bindL;rw [FA λ v hv=>(List.nodup_cons.mp nd).1 (List.of_mem_zip hv).1,if_pos hk];simp
  | p::P,w::vs,i+1,m,nd,h1,h2,hk=>by
    show bindL kindOf ((p,w)::P.zip vs) m x=_;unfold bindL;exact Fp (i:=i) (List.nodup_cons.mp nd).2 (by simpa using h1) (by simpa using h2) hk
theorem Fo {kindOf:Str->Option NameKind} {x:Str} {v:Value}:∀ {P:List Str} {vs:List Value} {i:Nat} {m:Str->Option Value},P.Nodup->P[i]?=some x->vs[i]?=some v->kindOf x≠some .local->
    bindC kindOf (P.zip vs) m x=some v
  | [],_,_,_,_,h,_,_=>by simp at h
  | _::_,[],_,_,_,_,h,_=>by simp at h
  | p::P,w::vs,0,m,nd,h1,h2,hk=>by
    simp at h1 h2;subst h1;subst h2;show bindC kindOf ((p,w)::P.zip vs) m p=_;unfold bindC;rw [Fg λ v hv=>(List.nodup_cons.mp nd).1 (List.of_mem_zip hv).1,if_neg hk];simp
  | p::P,w::vs,i+1,m,nd,h1,h2,hk=>by
    show bindC kindOf ((p,w)::P.zip vs) m x=_;unfold bindC;exact Fo (i:=i) (List.nodup_cons.mp nd).2 (by simpa using h1) (by simpa using h2) hk
def start (N:List Str) (vs:List V):St:=vs.map some++List.replicate (N.length - vs.length) none
def Bo (CX:CXT) (P:Program) (w:World) (K:PySem.W.Frag) (mg:Str->Option Value) (base:Heap) (N:List Str) (qual:Str) (scope:Scope) (f:Addr) (cd:Value) (A:Around) (outer:List Env) (s:Shared) (H:Hp) (E:XK):Cx where
  prog:=P
  w:=w
  K:=K
  mg:=mg
  base:=base
  A:=A.deeper (envOfC qual scope s.heap.objs.size f cd)
  N:=N
  s₀:=s
  H₀:=H
  env:=envOfC qual scope s.heap.objs.size f cd
  outer:=outer
  stack:=envOfC qual scope s.heap.objs.size f cd::outer
  ex:=[]
  calm:=true
  fn:=λ _=>true
  pn:=[]
  xe:=λ e s'=>wpAny (model P w) (A.deeper (envOfC qual scope s.heap.objs.size f cd)) (leaving (envOfC qual scope s.heap.objs.size f cd) e) (λ _ s''=>CX outer H s E e s'') (λ e' s''=>CX outer H s E e' s'') s'
theorem GB {sc:Scope} {n:Nat} {x:Str} (h:sc.names.lookup x=some .cell):∃ c,(cellsFrom n sc.names []).lookup x=some c:=by
  have q:=PySem.W.cellsFrom_some sc.names n [] (.inl h);exact Option.isSome_iff_exists.mp q
theorem Fu {CX:CXT} {P:Program} {w:World} {K:PySem.W.Frag} {mg:Str->Option Value} {base:Heap} {N ps:List Str} {qual:Str} {scope:Scope} {f:Addr} {cd:Value} {A:Around} {outer:List Env} {s s1:Shared} {H:Hp} {E:XK} {us:List Value} {vs:List V}
    (S:FnScope N ps scope) (hd:A.handled=none) (e0:Env0 P w K mg base A outer s H) (hl:vs.length=ps.length) (r:Vals vs us)
    (x:InCallC s s.heap.objs.size (bindL (envOfC qual scope s.heap.objs.size f cd).kindOf (ps.zip us) λ _=>none) (cellsFrom (s.heap.objs.size+1) scope.names []) (bindC (envOfC qual scope s.heap.objs.size f cd).kindOf (ps.zip us) λ _=>none) s1):
    Inv (Bo CX P w K mg base N qual scope f cd A outer s H E) [] (start N vs) H s1:=by
  have hpl:ps.length<=N.length:=by have:=congrArg List.length S.pre;rw [List.length_take] at this;omega
  obtain ⟨h1,tk,rfl,hk⟩:=x.done;have noA:∀ b:Addr,b∉(Bo CX P w K mg base N qual scope f cd A outer s H E).ex:=λ b z=>absurd (show b∈([]:List Addr) from z) (by simp);refine ⟨⟨e0.mod,S.kind,rfl,rfl,Nat.le_refl _,λ y z c h1 h2=> ?_,λ y hy=> ?_,λ y c _ h=> ?_,λ _=>hd,Around.frames_deeper e0.frames, .inr ⟨rfl,rfl⟩,λ b z=>absurd z (noA b),e0.bs,e0.bsz,λ b _ _=>noA b,λ b z=>absurd z (noA b),e0.funs,e0.frf⟩,
    rfl,e0.bare,Un.kept hk,⟨_,x.toInCall.ns,λ i y v h1 h2 h3=> ?_⟩,λ y c h=>⟨_,x.cell y c h⟩,e0.hok.fresh (Nat.le_refl _),λ y c h=> ?_,λ p hp=>absurd (show p∈([]:List (Addr × Obj)) from hp) (by simp),e0.hok.kept hk,?_⟩
  · exact name_of_addr x.apart (PySem.mem_of_lookup h1) (PySem.mem_of_lookup h2)
  · have hy:scope.names.lookup y=some .cell\/scope.names.lookup y=some .free:=hy;rcases hy with hy | hy
    · exact GB hy
    · exact absurd rfl (S.nofree _ (PySem.mem_of_lookup hy))
  · exact Nat.le_of_lt (x.above y c (PySem.mem_of_lookup h))
  · have hi:i<vs.length:=by
      unfold start at h2;by_cases hi:i<vs.length
      · exact hi
      · rw [List.getElem?_append_right (by simpa using hi)] at h2;rw [List.getElem?_replicate] at h2;split at h2 <;> cases h2
    have ha:vs[i]?=some v:=by
      unfold start at h2;rw [List.getElem?_append_left (by simpa using hi),List.getElem?_map] at h2;cases e:vs[i]? with
      | none=>rw [e] at h2;cases h2
      | some a=>rw [e] at h2;cases h2;rfl
    obtain ⟨u,hu,rv⟩:=r.get ha;have hp:ps[i]?=some y:=by
      rw [<-S.pre,List.getElem?_take_of_lt (by omega)];exact h1
    have ndP:ps.Nodup:=by rw [<-S.pre];exact S.nd.sublist (List.take_sublist _ _)
    refine ⟨u,rv,?_⟩;rcases S.par y (List.mem_of_getElem? hp) with k | k
    · exact .inl ⟨k,Fp ndP hp hu k⟩
    · obtain ⟨c,e⟩:=GB (n:=s.heap.objs.size+1) k;refine .inr ⟨.inl k,c,e,?_⟩;have q:=x.cell y c e;rw [Fo ndP hp hu (by show scope.names.lookup y≠_;rw [k];decide)] at q;exact q
  · exact e0.hok.fresh (Nat.le_of_lt (x.above y c (PySem.mem_of_lookup h)))
  · unfold start;show _=N.length;rw [List.length_append,List.length_map,List.length_replicate];omega
theorem Jg {CX:CXT} {P:Program} {w:World} {K:PySem.W.Frag} {mg:Str->Option Value} {base:Heap} {k:Nat} {f:Addr} {name qual:Str} {params:Arguments} {body:List Stmt} {scope:Scope} {dV kV doc pm cdv ct oc:Value} {an od:Option Addr}
    {osl:Array (Option Value)} {N ps:List Str} {sp:Sp} (lk:K.lookup f=some ⟨oc,od, .func (PySem.W.fnOf name qual params body scope dV kV doc pm an cdv ct),osl⟩) (hcd:PySem.W.codeIn K cdv qual=true) (S:FnScope N ps scope)
    (len:∀ vs H Q E,sp vs H Q E->vs.length=ps.length)
    (hbody:∀ (A:Around) (outer:List Env) (s:Shared) (H:Hp) (vs:List V) (Q:VK) (E:XK),Room k (A.deeper (envOfC qual scope s.heap.objs.size f cdv))->sp vs H Q E->
      ∃ t,PSs (Bo CX P w K mg base N qual scope f cdv A outer s H E) body t/\t { nx:=λ _ H'=>Q .non H',rt:=Q } (start N vs) H):
    FnOk P w K mg base CX (k+1) f (PySem.W.fnOf name qual params body scope dV kV doc pm an cdv ct) ps sp:=by
  refine ⟨len,λ A outer s H args us vs Q E hr e0 hb r hsp=> ?_⟩;have hl:=len _ _ _ _ hsp;have KX:K.In s.heap:=e0.mod.kin.keeps λ b o e=>(e0.bs b o e).1;have lim:s.heap.NoLimit:=e0.mod.nolimit.keeps λ b o e=>(e0.bs b o e).1;have hkind:∀ y∈ps.zip us,scope.names.lookup y.1=some .local\/(scope.names.lookup y.1=some .cell/\((cellsFrom (s.heap.objs.size+1) scope.names []).lookup y.1).isSome=true):=λ ⟨n,v⟩ hy=>by
    rcases S.par n (List.of_mem_zip hy).1 with q | q
    · exact .inl q
    · exact .inr ⟨q,PySem.W.cellsFrom_some _ _ _ (.inl q)⟩
  refine codeAny_call_function hr.depth (KX _ _ lk) rfl S.co S.gen rfl (PySem.W.codeRec_of KX hcd) (hb _ _ _ _ ?_);refine wpAny_newFunctionEnv_cells S.kind hkind λ env he s1 x=> ?_;subst he;refine ⟨lim.keeps x.toInCall.keep,codeAny_func ?_⟩;obtain ⟨t,ht,hq⟩:=hbody A outer s H vs Q E (hr.deeper _) hsp;have I:Inv (Bo CX P w K mg base N qual scope f cdv A outer s H E) [] (start N vs) H s1:=Fu S hr.hd e0 hl r x;refine wpAny_mono (ht [] s1 (start N vs) H _ I hq) (λ fl s' hs=> ?_) λ e s' hs=>hs;have fin:∀ {σ':St} {H':Hp} {v:V} {u:Value},Inv (Bo CX P w K mg base N qual scope f cdv A outer s H E) [] σ' H' s'->RelV v u->Q v H'->CE outer P w H s Q u s':=
    λ {σ' H' v u} J rv q=>⟨v,H',J.os,J.bare,J.base,J.hok,rv,q⟩
  cases fl with
  | ret u=>
    obtain ⟨v,σ',H',J,rv,q⟩:=hs;exact fin J rv q
  | next=>
    obtain ⟨σ',H',J,q⟩:=hs;exact fin (v:=V.non) (u:=Value.none) J rfl q
  | brk=>
    obtain ⟨_,_,_,q⟩:=hs;exact False.elim q
  | cont=>
    obtain ⟨_,_,_,q⟩:=hs;exact False.elim q
section
variable {X:Cx} {x:Str} {p pos:Pos} {e:Expr} {es:List Expr} {t:TA} {id T:String} {r:List V->Hp->VK->Prop}
def tCB (r:List V->Hp->VK->Prop) (t:TA):TE:=λ σ H Q=>t σ H λ vs H1=>r vs H1 Q
theorem Al (hc:AR X (.builtin id) r) (hg:Gl X x) (hm:X.mg x=none) (hv:bootBuiltins x=some (.builtin id)) (ha:PA X (e::es) t) (hn:x≠"__name__":=by decide) (hdb:(x == ("__debug__":Str))=false:=by decide)
    (he:starEach (e::es) X.env=(false,eval e X.env)::starEach es X.env:=by rfl) (hpl:(backTo pos (starEach es X.env)).any (·.1)=false:=by rfl):PE X (.Call (.Name x p) (e::es) [] pos) (tCB r t):=by
  intro pins s σ H Q I h;refine wpAny_Call_Name_kw (CS I hg hm hv ?_ hn hdb);exact PyProof.Rows.callWith_builtin1 (thn (ha pos pins s σ H _ I h) λ us s1 ⟨vs,H1,I1,r1,q1⟩=>hc pins s1 σ H1 vs us Q I1 r1 q1) he hpl
theorem Fk (hc:AR X (.type T) r) (hg:Gl X x) (hm:X.mg x=none) (hv:bootBuiltins x=some (.type T)) (ha:PA X (e::es) t) (hn:x≠"__name__":=by decide) (hdb:(x == ("__debug__":Str))=false:=by decide)
    (he:starEach (e::es) X.env=(false,eval e X.env)::starEach es X.env:=by rfl) (hpl:(backTo pos (starEach es X.env)).any (·.1)=false:=by rfl):PE X (.Call (.Name x p) (e::es) [] pos) (tCB r t):=by
  intro pins s σ H Q I h;refine wpAny_Call_Name_kw (CS I hg hm hv ?_ hn hdb);exact PyProof.Rows.callWith_type1 (thn (ha pos pins s σ H _ I h) λ us s1 ⟨vs,H1,I1,r1,q1⟩=>hc pins s1 σ H1 vs us Q I1 r1 q1) he hpl
end
end L2
namespace HT
open PySem PyProof.Rows
section
open PySem.SeqAt
open PySem.AutoSeq1 (wpAny_loadPart')
open PySem.MeetsSeq PySem.MeetsSeq2 PySem.MeetsSeq3
end
section
variable {prog:Program} {w:World} {A:Around} {E:Value->Shared->Prop} {s:Shared}
def sIx (n d:Nat):Option Int->Nat
  | none=>d
  | some v=>if v<0 then (v+(n:Int)).toNat else min v.toNat n
end
end HT
namespace L2
open PySem PySem.Spec PyProof.Rows
abbrev TO:=St->Hp->(Option Int->Hp->Prop)->Prop
def PO (X:Cx) (e:Option Expr) (t:TO):Prop:=
  ∀ (pins:List (Addr × Obj)) (s:Shared) (σ:St) (H:Hp) (Q:Option Int->Hp->Prop),Inv X pins σ H s->t σ H Q->
    wpAny (model X.prog X.w) X.A (evalPart e X.env) (λ u s'=>∃ o H',Inv X pins σ H' s'/\IsPart u o/\Q o H') X.xe s
def HD:TO:=λ _ H Q=>Q none H
def Lm (t:TE):TO:=λ σ H Q=>t σ H λ x H1=>∃ i,x= .int i/\Q (some i) H1
theorem Hj {ns:List Int}:∀ {us:List Value},Vals (ns.map V.int) us->IntsAre us ns:=by
  induction ns with
  | nil=>intro us r;rw [List.map_nil] at r;cases r;exact .nil
  | cons n ns ih=>
    intro us r;rw [List.map_cons] at r;cases r with
    | cons r1 r2=>
      obtain ⟨t,e⟩:=r1;subst e;exact .cons n t (ih r2)
section
variable {X:Cx} {e:Expr} {te:TE} {lo hi:Option Expr} {tl th:TO} {pos p2:Pos}
theorem J7:PO X none HD:=by
  intro pins s σ H Q I h;rw [evalPart_none];exact wpAny_pure ⟨none,H,I, .none,h⟩
theorem K0 (h:PE X e te):PO X (some e) (Lm te):=by
  intro pins s σ H Q I hw;rw [evalPart_some];refine thn (h pins s σ H _ I hw) λ u s1 ⟨x,H1,I1,r1,q1⟩=> ?_;obtain ⟨i,rfl,q⟩:=q1;obtain ⟨t,rfl⟩:=r1;exact ⟨some i,H1,I1, .int i t,q⟩
def SlR (X:Cx) (r:V->Option Int->Option Int->Hp->VK->Prop):Prop:=
  ∀ (pins:List (Addr × Obj)) (s:Shared) (σ:St) (H:Hp) (x:V) (v vl vu:Value) (lo hi:Option Int) (sl:Addr) (Q:VK),Inv X pins σ H s->RelV x v->s.heap.IsSliceOf sl vl vu .none->IsPart vl lo->IsPart vu hi->r x lo hi H Q->
    ∃ T id,typeLookup (.type T) "__getitem__"=pure (some (.builtin id))/\s.TypeIs v T/\wpAny (model X.prog X.w) X.A (getItem v (.ref sl)) (EP X pins σ Q) X.xe s
def tSl (r:V->Option Int->Option Int->Hp->VK->Prop) (te:TE) (tl th:TO):TE:=λ σ H Q=>te σ H λ x H1=>tl σ H1 λ l H2=>th σ H2 λ u H3=>r x l u H3 Q
theorem Ju {r:V->Option Int->Option Int->Hp->VK->Prop} (hr:SlR X r) (he:PE X e te) (hl:PO X lo tl) (hu:PO X hi th):PE X (.Subscript e (.Slice lo hi none p2) pos) (tSl r te tl th):=by
  intro pins s σ H Q I h;refine Subscript_ (thn (he pins s σ H _ I h) λ v s1 ⟨x,H1,I1,r1,q1⟩=> ?_);refine wpAny_Slice (thn (hl pins s1 σ H1 _ I1 q1) λ vl s2 ⟨l,H2,I2,pl,q2⟩=>thn (hu pins s2 σ H2 _ I2 q2) λ vu s3 ⟨u,H3,I3,pu,q3⟩=> ?_);rw [evalPart_none];refine wpAny_pure ?_;have I4:Inv X pins σ H3 { s3 with heap:=s3.heap.push { cls:= .type "slice",data:= .fields #[vl,vu, .none] } }:=I3.kept (t':=s3.toks) λ b ob q=>Heap.get?_push_of_some _ q;obtain ⟨T,id,hT,ht,hg⟩:=hr pins { s3 with heap:=s3.heap.push { cls:= .type "slice",data:= .fields #[vl,vu, .none] } } σ H3 x v vl vu l u s3.heap.objs.size Q I4 r1 (Heap.IsSliceOf.new ..) pl pu q3;show wpAny (model X.prog X.w) X.A (subscriptTail e (.Slice lo hi none p2) v (.ref s3.heap.objs.size)) (EP X pins σ Q) X.xe { s3 with heap:=s3.heap.push { cls:= .type "slice",data:= .fields #[vl,vu, .none] } };exact tail_any (ops:=[.ref s3.heap.objs.size,v]) ht hT hg (by with_unfolding_all rfl)
def FM (xs:List V) (lo hi:Option Int):List V:=(xs.drop (HT.sIx xs.length 0 lo)).take (HT.sIx xs.length xs.length hi - HT.sIx xs.length 0 lo)
theorem GO (xs:List V) (lo hi:Option Int):(FM xs lo hi).length<=xs.length:=by
  unfold FM;rw [List.length_take,List.length_drop];omega
end
def ixN (n:Nat) (i:Int):Option Nat:=if 0<=i then (if i<n then some i.toNat else none) else if -(n:Int)<=i then some (i+n).toNat else none
def atI {α:Type} (xs:List α) (i:Int):Option α:=(ixN xs.length i).bind λ j=>xs[j]?
theorem Kw {n:Nat} {i:Int} {j:Nat} (h:ixN n i=some j):seqIndex? i n=some j/\j<n/\ -(n:Int)<=i/\i<n:=by
  unfold ixN at h;by_cases h0:0<=i
  · rw [if_pos h0] at h;by_cases h1:i<n
    · rw [if_pos h1] at h;have e:i.toNat=j:=Option.some.inj h;exact ⟨by rw [seqIndex_of h0 h1,e],by omega,by omega,h1⟩
    · rw [if_neg h1] at h;cases h
  · rw [if_neg h0] at h;by_cases h1: -(n:Int)<=i
    · rw [if_pos h1] at h;have e:(i+n).toNat=j:=Option.some.inj h;exact ⟨by rw [seqIndex_neg (by omega) h1,e],by omega,h1,by omega⟩
    · rw [if_neg h1] at h;cases h
theorem HG {α:Type} {xs:List α} {i:Int} {v:α} (h:atI xs i=some v):∃ j,seqIndex? i xs.length=some j/\xs[j]?=some v/\j<xs.length/\ -(xs.length:Int)<=i/\i<xs.length:=by
  unfold atI at h;cases e:ixN xs.length i with
  | none=>rw [e] at h;cases h
  | some j=>
    rw [e] at h;obtain ⟨h1,h2,h3,h4⟩:=Kw e;exact ⟨j,h1,h,h2,h3,h4⟩
theorem AF {α:Type} {xs:List α} {j:Nat} {v:α} (h:xs[j]?=some v):atI xs (j:Int)=some v:=by
  have hj:j<xs.length:=(List.getElem?_eq_some_iff.mp h).1;have e:ixN xs.length (j:Int)=some j:=by
    unfold ixN;rw [if_pos (by omega),if_pos (by omega)];simp
  unfold atI;rw [e];exact h
def KJ (b:Expr):Prop:=∀ o i,subscripted b false o i=operate [o,i] (getItem o i)
def IxR (X:Cx) (r:R2):Prop:=
  ∀ (value slice:Expr) (pins:List (Addr × Obj)) (s:Shared) (σ:St) (H:Hp) (x y:V) (v u:Value) (Q:VK),Inv X pins σ H s->RelV x v->RelV y u->r x y H Q->
    subscripted slice false v u=operate [v,u] (getItem v u)->wpAny (model X.prog X.w) X.A (subscriptTail value slice v u) (EP X pins σ Q) X.xe s
def MtR (X:Cx) (id:String) (r:V->List V->Hp->VK->Prop):Prop:=
  ∀ (pins:List (Addr × Obj)) (s:Shared) (σ:St) (H:Hp) (x:V) (xs:List V) (v:Value) (us:List Value) (Q:VK),Inv X pins σ H s->RelV x v->Vals xs us->r x xs H Q->
    wpAny (model X.prog X.w) X.A (call (.builtin id) (v::us)) (EP X pins σ Q) X.xe s
section
variable {X:Cx} {a b:Expr} {ta tb:TE} {pos:Pos}
theorem A9 {r:R2} (hr:IxR X r) (ha:PE X a ta) (hb:PE X b tb) (hs:KJ b):PE X (.Subscript a b pos) (tOp r ta tb):=by
  intro pins s σ H Q I h;exact Subscript_ (LJ ha hb I h λ v u s2 x y H2 I2 rx ry q=>hr a b pins s2 σ H2 x y v u Q I2 rx ry q (hs _ _))
def LR (K:PySem.W.Frag):R2:=λ x y H Q=>∃ p xs i v,x= .ref p/\y= .int i/\SqL K H p xs/\atI xs i=some v/\Q v H
def MF (K:PySem.W.Frag):R2:=λ x y H Q=>∃ p xs i v,x= .ref p/\y= .int i/\SqT K H p xs/\atI xs i=some v/\Q v H
theorem Kj:IxR X (LR X.K):=by
  intro value slice pins s σ H x y v u Q I rx ry h hs;obtain ⟨p,xs,i,z,rfl,rfl,hq,he,q⟩:=h;cases rx;obtain ⟨t,rfl⟩:=ry;obtain ⟨its,r,pl,hz⟩:=I.list hq;obtain ⟨j,h1,h2,h3,h4,h5⟩:=HG he;obtain ⟨w,ew,rw'⟩:=r.get h2;have hl:=r.length;have hn:=FR;have fin:EP X pins σ Q w s:=⟨z,H,I,rw',q⟩;by_cases h0:0<=i
  · have hj:i.toNat=j:=by
      rw [seqIndex_of h0 h5] at h1;exact Option.some.inj h1
    exact item_listR pl.isList h0 (by omega) (by rw [hj];simpa using ew) fin hs
  · have hj:(i+(its.toArray.size:Int)).toNat=j:=by
      rw [seqIndex_neg (by omega) h4] at h1;rw [List.size_toArray, <-hl];exact Option.some.inj h1
    exact subscriptTail_builtinR (x:=w) pl.isList.typeIs slot_list_getitem.lookup
      (wpAny_getItem_list_neg (Q:=λ r s'=>r=w/\EP X pins σ Q r s') pl.isList (by omega) (by rw [List.size_toArray] <;> omega) (by omega) (by rw [hj];simpa using ew) ⟨rfl,fin⟩) hs
theorem MK:IxR X (MF X.K):=by
  intro value slice pins s σ H x y v u Q I rx ry h hs;obtain ⟨p,xs,i,z,rfl,rfl,hq,he,q⟩:=h;cases rx;obtain ⟨t,rfl⟩:=ry;obtain ⟨its,r,pl,hz⟩:=I.tuple hq;obtain ⟨j,h1,h2,h3,h4,h5⟩:=HG he;obtain ⟨w,ew,rw'⟩:=r.get h2;have hl:=r.length;have hn:=FR;have fin:EP X pins σ Q w s:=⟨z,H,I,rw',q⟩;exact subscriptTail_builtinR (x:=w) pl.typeIs slot_tuple_getitem.lookup
    (getItem_tuple (j:=j) (Q:=λ r s'=>r=w/\EP X pins σ Q r s') pl (by omega) (by omega) (by rw [List.size_toArray, <-hl];exact h1) (by simpa using ew) ⟨rfl,fin⟩) hs
theorem F6 (lo hi:Option Int) (n:Nat):(sliceBounds lo hi none n).1=((HT.sIx n 0 lo:Nat):Int)/\(sliceBounds lo hi none n).2.1=((HT.sIx n n hi:Nat):Int)/\(sliceBounds lo hi none n).2.2=1:=by
  refine ⟨?_,?_,rfl⟩
  · cases lo with
    | none=>simp [sliceBounds,HT.sIx]
    | some i=>
      simp only [sliceBounds,HT.sIx,Option.getD_none,show (1:Int)>0 by decide,if_true];by_cases h:i<0
      · simp only [h,if_true] <;> omega
      · simp only [h,if_false] <;> omega
  · cases hi with
    | none=>simp [sliceBounds,HT.sIx]
    | some i=>
      simp only [sliceBounds,HT.sIx,Option.getD_none,show (1:Int)>0 by decide,if_true];by_cases h:i<0
      · simp only [h,if_true] <;> omega
      · simp only [h,if_false] <;> omega
theorem Fc (its:List Value) (lo hi:Option Int):slicePick its.toArray lo hi none=((its.drop (HT.sIx its.length 0 lo)).take (HT.sIx its.length its.length hi - HT.sIx its.length 0 lo)).toArray:=by
  obtain ⟨h1,h2,h3⟩:=F6 lo hi its.toArray.size;unfold slicePick;rw [h1,h2,h3];simp only [sliceRange_one,pick_run,List.size_toArray] <;> rfl
def L8 (K:PySem.W.Frag):V->Option Int->Option Int->Hp->VK->Prop:=λ x lo hi H Q=>∃ a xs,x= .ref a/\SqL K H a xs/\∀ p,H p=none->Q (.ref p) (upd H p (.lst (FM xs lo hi)))
theorem Kc:SlR X (L8 X.K):=by
  intro pins s σ H x v vl vu lo hi sl Q I rx hs pl pu h;obtain ⟨a,xs,rfl,hx,q⟩:=h;cases rx;obtain ⟨its,r,ht,hz⟩:=I.list hx;have hlen:=r.length;refine ⟨"list",_,slot_list_getitem.lookup,ht.isList.typeIs,?_⟩;refine wpAny_getItem_list_slice ht.isList hs pl pu .none (by simp) ?_ (by rw [List.size_toArray] <;> omega);rw [Fc, <-hlen];refine ⟨.ref s.heap.objs.size,_,I.laid (t':=s.toks) (o:= .lst (FM xs lo hi)) (λ b ob q=>Heap.get?_push_of_some _ q) (Nat.le_refl _) ?_,rfl,q _ (I.hok.fresh (Nat.le_refl _))⟩;exact ⟨Nat.le_trans (GO xs lo hi) hz,_,0,(r.drop (HT.sIx xs.length 0 lo)).take (HT.sIx xs.length xs.length hi - HT.sIx xs.length 0 lo),Heap.get?_push_size _ rfl⟩
def Cp:V->Bool
  | .non=>true
  | .bl _=>true
  | .int _=>true
  | .str _=>true
  | _=>false
def eqV:V->V->Bool
  | .non, .non=>true
  | .bl a, .bl b=>a == b
  | .bl a, .int b=>(if a then 1 else 0) == b
  | .int a, .bl b=>a == (if b then 1 else 0)
  | .int a, .int b=>a == b
  | .str a, .str b=>a == b
  | _,_=>false
theorem LI {A:Around} {s:Shared} {y x:V} {u v:Value} (ry:RelV y u) (rx:RelV x v) (fy:Cp y=true) (fx:Cp x=true):SeqAt.EqAt A s u v (eqV y x):=by
  cases y with
  | non=>
    cases ry;cases x with
    | non=>cases rx;exact SeqAt.EqAt.same _
    | bl b=>cases rx;exact SeqAt.EqAt.none_bool b
    | int b=>obtain ⟨t,rfl⟩:=rx;exact SeqAt.EqAt.none_int b t
    | str b=>obtain ⟨t,rfl⟩:=rx;exact SeqAt.EqAt.none_str b t
    | _=>exact absurd (show false=true from fx) Bool.false_ne_true
  | bl a=>
    cases ry;cases x with
    | non=>cases rx;exact SeqAt.EqAt.bool_none a
    | bl b=>cases rx;exact SeqAt.EqAt.bool_bool a b
    | int b=>obtain ⟨t,rfl⟩:=rx;exact SeqAt.EqAt.bool_int a b t
    | str b=>obtain ⟨t,rfl⟩:=rx;exact SeqAt.EqAt.bool_str a b t
    | _=>exact absurd (show false=true from fx) Bool.false_ne_true
  | int a=>
    obtain ⟨t',rfl⟩:=ry;cases x with
    | non=>cases rx;exact SeqAt.EqAt.int_none a t'
    | bl b=>cases rx;exact SeqAt.EqAt.int_bool a t' b
    | int b=>obtain ⟨t,rfl⟩:=rx;exact SeqAt.EqAt.int_int a t' b t
    | str b=>obtain ⟨t,rfl⟩:=rx;exact SeqAt.EqAt.int_str a t' b t
    | _=>exact absurd (show false=true from fx) Bool.false_ne_true
  | str a=>
    obtain ⟨t',rfl⟩:=ry;cases x with
    | non=>cases rx;exact SeqAt.EqAt.str_none a t'
    | bl b=>cases rx;exact SeqAt.EqAt.str_bool a t' b
    | int b=>obtain ⟨t,rfl⟩:=rx;exact SeqAt.EqAt.str_int a t' b t
    | str b=>obtain ⟨t,rfl⟩:=rx;exact SeqAt.EqAt.str_str a t' b t
    | _=>exact absurd (show false=true from fx) Bool.false_ne_true
  | _=>exact absurd (show false=true from fy) Bool.false_ne_true
theorem FO:AR X (.type "list") (λ xs H Q=>∃ p ys,xs=[.ref p]/\(SqL X.K H p ys\/SqT X.K H p ys)/\∀ l,H l=none->Q (.ref l) (upd H l (.lst ys))):=by
  intro pins s σ H xs us Q I r h;obtain ⟨p,ys,rfl,hq,q⟩:=h;obtain ⟨u,rfl,rx⟩:=F8 r;cases rx;have fin:∀ (its:List Value),Vals ys its->ys.length<=sizeLine->∀ (h':Heap) (c':Nat),(∀ b o',s.heap.get? b=some o'->h'.get? b=some o')->
      h'.get? s.heap.objs.size=some { cls:= .type "list",dict:=none,data:= .seq its.toArray c',slots:= #[] }->EP X pins σ Q (.ref s.heap.objs.size) { s with heap:=h' }:=λ its r' hz h' c' kp e=>
    ⟨.ref s.heap.objs.size,_,I.laid (t':=s.toks) kp (Nat.le_refl _) (show ObjOk X.prog X.w _ h' _ (.lst ys) from ⟨hz,its,c',r',e⟩),rfl,q _ (I.hok.fresh (Nat.le_refl _))⟩
  rcases hq with hq | hq
  · obtain ⟨its,r',pl,hz⟩:=I.list hq;have hlen:=r'.length;obtain ⟨o,ho,hc,n,hd⟩:=pl.isList;exact call_list_seq p (.inl rfl) ho hc hd (λ h' c' kp e=>fin its r' hz h' c' kp e) (by simp only [List.size_toArray] <;> omega)
  · obtain ⟨its,r',pl,hz⟩:=I.tuple hq;have hlen:=r'.length;obtain ⟨o,ho,hc,n,hd⟩:=pl;exact call_list_seq p (.inr rfl) ho hc hd (λ h' c' kp e=>fin its r' hz h' c' kp e) (by simp only [List.size_toArray] <;> omega)
theorem EW:AR X (.type "tuple") (λ xs H Q=>∃ p ys,xs=[.ref p]/\((SqL X.K H p ys/\∀ l,H l=none->Q (.ref l) (upd H l (.tup ys)))\/(SqT X.K H p ys/\Q (.ref p) H))):=by
  intro pins s σ H xs us Q I r h;obtain ⟨p,ys,rfl,h⟩:=h;obtain ⟨u,rfl,rx⟩:=F8 r;cases rx;rcases h with ⟨hq,q⟩ | ⟨hq,q⟩
  · obtain ⟨its,r',pl,hz⟩:=I.list hq;have hlen:=r'.length;refine call_tuple_list pl.isList (λ h' kp=> ?_) (by simp only [List.size_toArray] <;> omega);have I1:Inv X pins σ H { s with heap:=h' }:=I.kept (t':=s.toks) kp;have I2:Inv X pins σ (upd H h'.objs.size (.tup ys)) { s with heap:=h'.push { cls:= .type "tuple",data:= .seq its.toArray } }:=
      I1.laid (t':=s.toks) (λ b o e=>Heap.get?_push_of_some _ e) (Nat.le_refl _) (show ObjOk X.prog X.w _ _ _ (.tup ys) from ⟨hz,its,r',IsTup.new _ _⟩)
    exact ⟨.ref h'.objs.size,_,I2,rfl,q _ (I1.hok.fresh (Nat.le_refl _))⟩
  · obtain ⟨its,r',pl,hz⟩:=I.tuple hq;exact call_tuple_same pl ⟨.ref p,H,I,rfl,q⟩
def tyV (K:PySem.W.Frag) (T:String) (x:V) (H:Hp):Prop:=match x with
  | .str _=>T="str"
  | .int _=>T="int"
  | .ref p=>(T="list"/\∃ xs,SqL K H p xs)\/(T="tuple"/\∃ o,K.lookup p=some o/\o.cls= .type "tuple"/\o.dict=none)\/
      (T="dict"/\((∃ kvs,H p=some (.dK kvs))\/∃ kvs,H p=some (.dT kvs)))\/(T="set"/\∃ S n,H p=some (.set S n))
  | _=>False
theorem IK {pins:List (Addr × Obj)} {σ:St} {H:Hp} {s:Shared} {T:String} {x:V} {v:Value} (I:Inv X pins σ H s) (r:RelV x v) (ty:tyV X.K T x H):
    s.TypeIs v T/\∀ a,v= .ref a->∃ ob,s.heap.get? a=some ob/\ob.dict=none:=by
  cases x with
  | str z=>
    obtain ⟨t,rfl⟩:=r;cases (show T="str" from ty);exact ⟨typeIs_str s z t,λ _ e=>nomatch e⟩
  | int i=>
    obtain ⟨t,rfl⟩:=r;cases (show T="int" from ty);exact ⟨typeIs_int s i t,λ _ e=>nomatch e⟩
  | ref p=>
    cases r;rcases ty with ⟨rfl,xs,hq⟩ | ⟨rfl,o,hk,hc,hd⟩ | ⟨rfl,hk⟩ | ⟨rfl,S,n,hk⟩
    · obtain ⟨its,_,pl,_⟩:=I.list hq;refine ⟨pl.isList.typeIs,λ a e=> ?_⟩;cases e;obtain ⟨o,n,e,c,hd,_⟩:=pl;exact ⟨o,e,hd⟩
    · refine ⟨⟨o,I.kIn p o hk,hc⟩,λ a e=> ?_⟩;cases e;exact ⟨o,I.kIn _ o hk,hd⟩
    · have z:∃ o,s.heap.get? p=some o/\o.ExactDict:=by
        rcases hk with ⟨kvs,hk⟩ | ⟨kvs,hk⟩
        · obtain ⟨_,_,_,_,o,_,_,e,ex,_⟩:=I.hok p _ hk;exact ⟨o,e,ex⟩
        · obtain ⟨_,_,_,_,o,_,_,e,ex,_⟩:=I.hok p _ hk;exact ⟨o,e,ex⟩
      obtain ⟨o,e,ex⟩:=z;refine ⟨⟨o,e,ex.1⟩,λ a e2=> ?_⟩;cases e2;exact ⟨o,e,ex.2.1⟩
    · obtain ⟨o,_,_,_,e,ex,_⟩:=I.hok p _ hk;refine ⟨⟨o,e,ex.1⟩,λ a e2=> ?_⟩;cases e2;exact ⟨o,e,ex.2.1⟩
  | _=>exact False.elim ty
def Mm (K:PySem.W.Frag) (T:String) (r:V->List V->Hp->VK->Prop) (to:TE):TE:=λ σ H Q=>to σ H λ x H1=>tyV K T x H1/\r x [] H1 Q
def tBM (K:PySem.W.Frag) (T:String) (r:V->List V->Hp->VK->Prop) (to:TE) (t:TA):TE:=λ σ H Q=>to σ H λ x H1=>tyV K T x H1/\t σ H1 λ xs H2=>r x xs H2 Q
variable {o e:Expr} {es:List Expr} {to:TE} {t:TA} {name:Str} {apos cpos:Pos} {T id:String} {r:V->List V->Hp->VK->Prop}
theorem L4 (pa:PlainAttrs T) (slot:Slot T name id) (hty:typeOf (.builtin id)=pure (.type "method_descriptor")) (hm:MtR X id r) (ho:PE X o to)
    (hbase:attributeBase o name X.env (eval o X.env)=eval o X.env:=by rfl) (hline:(apos.endLine == cpos.line)=true:=by rfl):PE X (.Call (.Attribute o name apos) [] [] cpos) (Mm X.K T r to):=by
  intro pins s σ H Q I h;refine wpAny_Call_method0_late hbase hline (thn (ho pins s σ H _ I h) λ v s1 ⟨x,H1,I1,r1,ty,q1⟩=> ?_);obtain ⟨h1,h2⟩:=IK I1 r1 ty;exact ⟨T,id,pa,slot,hty,h1,h2,Calls.callWith_builtin rfl (PySem.evalArgs_none (hm pins s1 σ H1 x [] v [] Q I1 r1 .nil q1))⟩
theorem M6 (pa:PlainAttrs T) (slot:Slot T name id) (hty:typeOf (.builtin id)=pure (.type "method_descriptor")) (hm:MtR X id r) (ho:PE X o to) (ha:PA X (e::es) t)
    (hbase:attributeBase o name X.env (eval o X.env)=eval o X.env:=by rfl)
    (hfew:((backTo cpos (starEach (e::es) X.env)).all (λ x=> !x.1)&&(backToKw cpos (keywordEach [] X.env)).all (λ x=>x.1.isSome)
      && decide ((e::es).length+([]:List Keyword).length+(if ([]:List Keyword).isEmpty then 0 else 1)<30))=true:=by rfl)
    (hline:(apos.endLine == cpos.line)=true:=by rfl) (hs:starEach (e::es) X.env=(false,eval e X.env)::starEach es X.env:=by rfl) (hplain:(backTo cpos (starEach es X.env)).any (·.1)=false:=by rfl):
    PE X (.Call (.Attribute o name apos) (e::es) [] cpos) (tBM X.K T r to t):=by
  intro pins s σ H Q I h;refine wpAny_Call_method_late hbase hfew hline rfl (thn (ho pins s σ H _ I h) λ v s1 ⟨x,H1,I1,r1,ty,q1⟩=> ?_);obtain ⟨h1,h2⟩:=IK I1 r1 ty;refine ⟨T,id,pa,slot,hty,h1,h2,?_⟩;have hA:=ha cpos pins s1 σ H1 _ I1 q1;rw [hs] at hA ⊢;refine Calls.callWith_builtin (by show (false||(backTo cpos (starEach es X.env)).any (·.1))=false;rw [hplain] <;> rfl) (Calls.evalArgs_plain ?_);exact thn hA λ us s2 ⟨vs,H2,I2,r2,q2⟩=>hm pins s2 σ H2 x vs v us Q I2 r1 r2 q2
end
def MtM (X:Cx) (id:String) (r:V->List V->Hp->VK->Prop):Prop:=
  ∀ (pins:List (Addr × Obj)) (s:Shared) (σ:St) (H:Hp) (x:V) (xs:List V) (v:Value) (us:List Value) (Q:VK),Inv X pins σ H s->RelV x v->Vals xs us->r x xs H Q->
    wpAny (model X.prog X.w) X.A (call (.builtin id) (v::us)) (EP X pins σ Q) X.xe s
theorem Vals.one:∀ {x:V} {us:List Value},Vals [x] us->∃ u,us=[u]/\RelV x u
  | _,_, .cons r .nil=>⟨_,rfl,r⟩
theorem Vals.zero:∀ {us:List Value},Vals [] us->us=[]
  | _, .nil=>rfl
theorem Vals.rep {xs:List V} {us:List Value} (h:Vals xs us):∀ k:Nat,Vals (List.replicate k xs).flatten (List.replicate k us).flatten
  | 0=> .nil
  | k+1=>by
    rw [List.replicate_succ,List.replicate_succ,List.flatten_cons,List.flatten_cons];exact Vals.append h (Vals.rep h k)
theorem Fi (its:List Value):∀ (k:Nat) (acc:List Value),
    List.foldl (λ x1 x2=>x1++x2) acc.toArray (List.replicate k its.toArray)=(acc++(List.replicate k its).flatten).toArray
  | 0,acc=>by simp
  | k+1,acc=>by
    have e:acc.toArray++its.toArray=(acc++its).toArray:=by simp
    have e2:(acc++its)++(List.replicate k its).flatten=acc++(List.replicate (k+1) its).flatten:=by
      rw [List.replicate_succ,List.flatten_cons,List.append_assoc]
    rw [<-e2, <-Fi its k (acc++its), <-e,List.replicate_succ,List.foldl_cons]
section
variable {X:Cx} {pins:List (Addr × Obj)} {σ:St} {H:Hp} {s:Shared} {l b:Addr} {xs ys zs:List V}
theorem Inv.lset {its its':List Value} {n:Nat} {f:Array Value->Array Value} {t':Nat} (I:Inv X pins σ H s) (hH:H l=some (.lst xs))
    (e:s.heap.get? l=some { cls:= .type "list",data:= .seq its.toArray n }) (hf:f its.toArray=its'.toArray) (hv:Vals ys its') (hz:ys.length<=sizeLine):
    Inv X pins σ (upd H l (.lst ys)) { s with heap:=s.heap.update l (Obj.mapSeq f),toks:=t' }:=by
  have q:=PySem.IsL.update e f;rw [hf] at q;refine I.write (x:=l) (e:=l) (by rw [hH];exact trivial) (.inl rfl) (λ b' u hb hu=>(Heap.get?_update_other s.heap (Obj.mapSeq f) (Ne.symm hb)).trans hu) ⟨_,q⟩ ?_;exact ⟨hz,its',_,hv,q⟩
theorem Inv.lnew {its:List Value} {t':Nat} (I:Inv X pins σ H s) (hv:Vals ys its) (hz:ys.length<=sizeLine):
    Inv X pins σ (upd H s.heap.objs.size (.lst ys)) { s with heap:=s.heap.push { cls:= .type "list",data:= .seq its.toArray },toks:=t' }:=
  I.laid (λ _ _ q=>Heap.get?_push_of_some _ q) (Nat.le_refl _) ⟨hz,its,0,hv,Heap.get?_push_size _ rfl⟩
theorem Inv.fresh (I:Inv X pins σ H s):H s.heap.objs.size=none:=I.hok.fresh (Nat.le_refl _)
theorem Inv.lstM (I:Inv X pins σ H s) (hH:H l=some (.lst xs)):xs.length<=sizeLine/\∃ (its:List Value) (n:Nat),Vals xs its/\xs.length=its.length/\s.heap.get? l=some { cls:= .type "list",data:= .seq its.toArray n }:=by
  obtain ⟨z,its,n,r,e⟩:=I.hok l _ hH;exact ⟨z,its,n,r,r.length,e⟩
theorem GM {n:Nat} (h:n<=sizeLine):Builtin.List.listTooLong n=false:=by
  unfold Builtin.List.listTooLong;exact decide_eq_false (by omega)
end
section
variable {X:Cx}
def rAppend:V->List V->Hp->VK->Prop:=λ x vs H Q=>∃ l xs y,x= .ref l/\vs=[y]/\H l=some (.lst xs)/\xs.length<sizeLine/\Q .non (upd H l (.lst (xs++[y])))
theorem Fm:MtM X "list.append" rAppend:=by
  intro pins s σ H x vs v us Q I rx rv h;obtain ⟨l,xs,y,rfl,rfl,hH,hz,q⟩:=h;cases rx;obtain ⟨u,rfl,ru⟩:=rv.one;obtain ⟨z,its,n,r,hl,e⟩:=I.lstM hH;refine call_meets F.slot_list_append ⟨_,e,rfl⟩ F.entry_list_append (F.args_list_append_2 _ _) (PySem.list_append l its.toArray n u (by rw [List.size_toArray];omega)) ⟨e,?_⟩;refine ⟨.non,_,I.lset (its':=its++[u]) hH e (by simp) (r.append (.cons ru .nil)) ?_,rfl,q⟩;rw [List.length_append,List.length_singleton];omega
def rExtend:V->List V->Hp->VK->Prop:=λ x vs H Q=>∃ l b xs zs,x= .ref l/\vs=[.ref b]/\H l=some (.lst xs)/\H b=some (.lst zs)/\xs.length+zs.length<=sizeLine/\Q .non (upd H l (.lst (xs++zs)))
theorem Il:MtM X "list.extend" rExtend:=by
  intro pins s σ H x vs v us Q I rx rv h;obtain ⟨l,b,xs,zs,rfl,rfl,hH,hB,hz,q⟩:=h;cases rx;obtain ⟨u,rfl,ru⟩:=rv.one;cases ru;obtain ⟨z,its,n,r,hl,e⟩:=I.lstM hH;obtain ⟨z2,its2,n2,r2,hl2,e2⟩:=I.lstM hB;have hsz:its.toArray.size+its2.toArray.size<=sizeLine:=by rw [List.size_toArray,List.size_toArray];omega
  have hlong:¬ (!its.toArray.isEmpty&&Builtin.List.listTooLong (its.toArray.size+its2.toArray.size))=true:=by
    rw [GM hsz,Bool.and_false];exact Bool.false_ne_true
  refine call_meets F.slot_list_extend ⟨_,e,rfl⟩ F.entry_list_extend (F.args_list_extend_2 _ _)
    (AutoSeq1.list_extend_list_list_0 l its.toArray n b its2.toArray n2 hlong (by rw [List.size_toArray];omega) (by omega)) ⟨e,e2,?_⟩
  refine ⟨.non,_,I.lset (its':=its++its2) hH e (by simp) (r.append r2) ?_,rfl,q⟩;rw [List.length_append];omega
def Ni:R2:=λ x y H Q=>∃ l k xs,x= .ref l/\y= .int k/\H l=some (.lst xs)/\ -(2 ^ 63)<=k/\k<2 ^ 63/\xs.length*k.toNat<=sizeLine/\
  ∀ p,H p=none->Q (.ref p) (upd H p (.lst (List.replicate k.toNat xs).flatten))
theorem J5 {α:Type} (xs:List α) (k:Nat):(List.replicate k xs).flatten.length=k*xs.length:=by
  induction k with
  | zero=>simp
  | succ k ih=>rw [List.replicate_succ,List.flatten_cons,List.length_append,ih,Nat.succ_mul,Nat.add_comm]
theorem FX:OpR X (binaryOp .Mult) Ni:=by
  intro pins s σ H x y v u Q I rx ry h;obtain ⟨l,k,xs,rfl,rfl,hH,h1,h2,hz,q⟩:=h;cases rx;obtain ⟨t,rfl⟩:=ry;obtain ⟨z,its,n,r,hl,e⟩:=I.lstM hH;have hlen:its.toArray.size*k.toNat<=sizeLine:=by rw [List.size_toArray, <-hl];exact hz
  have hcap:¬ its.toArray.size*k.toNat>(2 ^ 63 - 1) / 8:=by
    have:(sizeLine:Nat)<=(2 ^ 63 - 1) / 8:=by decide
    omega
  have hfit:¬ (!Builtin.List.listFitsIndex k)=true:=by
    rw [fitsIndex_both h1 h2];exact Bool.false_ne_true
  have hlong:¬ Builtin.List.listTooLong (its.toArray.size*k.toNat)=true:=by
    rw [GM hlen];exact Bool.false_ne_true
  have hnew:List.foldl (λ x1 x2=>x1++x2) #[] (List.replicate (if its.toArray.isEmpty=true then 0 else k.toNat) its.toArray)=(List.replicate k.toNat its).flatten.toArray:=by
    have f0:∀ m:Nat,List.foldl (λ x1 x2=>x1++x2) #[] (List.replicate m its.toArray)=(List.replicate m its).flatten.toArray:=λ m=>by
      have:=Fi its m [];rw [List.nil_append] at this;exact this
    rw [f0];cases its with
    | nil=>simp
    | cons a r'=>rw [if_neg (by simp)]
  refine wpAny_binaryOp_repeat_ref (T:="list") (U:="int") (by decide) ⟨_,e,rfl⟩ (λ s'=>typeIs_int s' k t) noFill_list_mul F.fills_int_mul F.slot_int_rmul repeat_list F.slot_int_index.lookup
    (call_meets F.slot_int_rmul (typeIs_int s k t) F.entry_int_rmul (F.args_int_rmul_2 _ _) (int___rmul___int_list k t l its.toArray n)
      ⟨e,rfl,⟨_,e,rfl⟩,call_meets F.slot_list_mul ⟨_,e,rfl⟩ F.entry_list_mul (F.args_list_mul_2 _ _) (AutoListH.list___mul___list_int_3 l its.toArray n k t hfit hcap hlong) ⟨e,?_⟩⟩)
  rw [hnew];exact ⟨.ref _,_,I.lnew (t':=s.toks) (r.rep k.toNat) (by rw [J5,Nat.mul_comm];exact hz),rfl,q _ I.fresh⟩
end
section
variable {prog:Program} {w:World} {A:Around} {E:Value->Shared->Prop} {s:Shared}
end
section
variable {X:Cx}
end
end L2
namespace Att
open PySem PySem.W PySem.Calls PyProof.Rows
theorem DO {P:Params} {h:Heap}:∀ (ns:List Int) (vs:List Value),WellAll P h vs (ns.map WData.int)->IntsAre vs ns:=by
  intro ns
  induction ns with
  | nil=>
    intro vs w;rw [List.map_nil] at w;cases w;exact .nil
  | cons n ns ih=>
    intro vs w;rw [List.map_cons] at w;cases w with
    | cons a b=>
      cases a;exact .cons _ _ (ih _ b)
theorem Ij {l:OpenLaw} {n:Nat} (hn:l.most=some n) {P:Params} {h:Heap} {args:List WData} {vals:List Value}
    (hpre:l.row.toRowW.claim.pre args=true) (hwl:WellAll P h vals args):
    ∃ a vs ns,vals=[Value.ref a]/\args=[WData.list (ns.map WData.int)]/\h.get? a=some { cls:= .type "list",data:= .seq vs.toArray }/\IntsAre vs ns/\ns.length<=n:=by
  have hsh:WShape.hasAll [] args [.list .int]=true:=(pre_splitW hpre).1;have hc:l.pre.holds [] { args:=args }=true:=(pre_splitW hpre).2;obtain ⟨d,r,rfl,h1,h2⟩:=hasAllW_cons hsh;obtain rfl:=hasAllW_nil h2;obtain ⟨xs,rfl,h3⟩:=hasW_list h1;obtain ⟨ns,rfl⟩:=items_int h3;have hlen:ns.length<=n:=by
    unfold OpenLaw.pre at hc;have h4:(WTm.not (.lt (.lit (.int (n:Int))) (.len (.arg 0)))).holds [] { args:=[.list (ns.map .int)] }=true:=by
      have h4:=(holds_andW hc).1;rw [hn] at h4;exact h4
    have h5:=condW_of h4 (w_not (w_lt w_lit (w_len_list (w_arg rfl))));rw [List.length_map] at h5;refine Nat.le_of_not_lt λ q=> ?_;have q':(n:Int)<((ns.length:Nat):Int):=by omega
    first
      | (rw [decide_eq_true q'] at h5;exact absurd h5 (by decide))
      | (simp at h5;omega)
  cases hwl with
  | cons w1 w2=>
    cases w2;cases w1 with
    | list ho hall=>exact ⟨_,_,ns,rfl,rfl,ho,DO ns _ hall,hlen⟩
theorem Im (l:OpenLaw) (args:List WData):l.row.toRowW.claim.post args (.bool true) args=true:=
  postW_of (r:=l.row.toRowW) (X:=(true == true))
    (show WShape.has [] (.bool true) .bool=true by first | rfl | decide | simp [WShape.has,WShape.arms,WShape.armsAll])
    (show (WTm.eq .res (.lit (.bool true))).value [] { args:=args,res:=some (.bool true),after:=args }=some (.bool (true == true)) from w_eq_bool (w_res rfl) w_lit) rfl
theorem attach_call {l:OpenLaw} {n:Nat} {q:Program} {loose:List Str} {XP:(Str->Option Value)->Heap->Prop} {YP:World->Heap->Prop} {d:DefRec}
    (hn:l.most=some n) (hdf:d.params.defaults=[])
    (call:∀ (w:World) (s₀ s₁:Shared) (mg mb:Str->Option Value) (fa:Addr) (o:Obj) (pm cd doc:Value) (a:Addr) (vs:List Value) (ns:List Int),
      Ground q loose [] XP w s₀ mg mb s₁.heap->YP w s₁.heap->
      s₁.heap.get? fa=some o->o.data= .func (docDef d.name d.params d.body d.scope pm cd doc)->s₁.heap.CodeRec cd d.name->mg d.name=some (.ref fa)->
      s₁.heap.get? a=some { cls:= .type "list",data:= .seq vs.toArray }->IntsAre vs ns->ns.length<=n->s₁.gens= #[]->
      codeAny (model l.prog w) callerA (.call (.ref fa) ⟨[.ref a],[]⟩) (λ r s'=>r= .ok (.ret (.bool true))/\OldK s₁.heap s'.heap/\s'.os=s₁.os/\AllBare s'.gens) s₁):
    WalkO q loose XP YP l.row.toRowW d [] (λ f vs=>PySem.call f vs):=by
  intro w s₀ s₁ mg mb G Y fa o pm cd doc dV kV ho hd hcd hD hmg hg args vals as hpre hlay hrd hwl hlo;obtain rfl:dV= .none:=Dflts.none hD hdf;obtain rfl:kV= .none:=Dflts.noKw hD;obtain ⟨a,vs,ns,rfl,rfl,hobj,hints,hlen⟩:=Ij hn hpre hwl;refine enter_call (codeAny_mono (call w s₀ s₁ mg mb fa o pm cd doc a vs ns G Y ho (fd_plain hd) hcd hmg hobj hints hlen hg) λ r s' hq=> ?_);obtain ⟨rfl,h2,h3,h4⟩:=hq;exact ⟨.inl ⟨.bool true, .bool true,[],rfl,λ _=>rfl, .bool true,Im l _,λ _=>⟨List.Pairwise.nil,λ _ hm=>(nomatch hm)⟩⟩,h2,h3,h4⟩
section
variable {prog:Program} {w:World} {A:Around} {E:Value->Shared->Prop} {s:Shared} {K:Frag}
end
end Att
namespace L2
open PySem PySem.Spec PyProof.Rows
theorem Fn:∀ {vs:List Value} {ns:List Int},IntsAre vs ns->Vals (ns.map V.int) vs
  | _,_, .nil=> .nil
  | _,_, .cons n t h=> .cons ⟨t,rfl⟩ (Fn h)
abbrev CX0:CXT:=λ _ _ _ _ _ _=>False
abbrev E0:XK:=λ _ _ _=>False
theorem JW {X:Cx}:AK CX0 X E0:=λ _ _ _ _ _ _ _ h=>h.elim
structure Fun (K:PySem.W.Frag) (x qual:Str) (st:Stmt) (f:Addr) (fd:FuncData):Prop where
  ex:∃ (oc:Value) (od:Option Addr) (kV doc pm:Value) (an:Option Addr) (cdv ct:Value) (osl:Array (Option Value)),
    fd=PySem.W.fnOf x qual (DV st) (Bk st) (Ah st) .none kV doc pm an cdv ct/\K.lookup f=some ⟨oc,od, .func fd,osl⟩/\PySem.W.codeIn K cdv qual=true
  kp:PySem.W.keepIn K (.ref f)=true
section
variable {P:Program} {w:World} {K:PySem.W.Frag} {mg:Str->Option Value} {base:Heap}
theorem Fun.ok {x qual:Str} {st:Stmt} {f:Addr} {fd:FuncData} {N ps:List Str} {k:Nat} {sp:Sp} (F:Fun K x qual st f fd) (S:FnScope N ps (Ah st)) (len:∀ vs H Q E,sp vs H Q E->vs.length=ps.length)
    (hbody:∀ (cdv:Value) (A:Around) (outer:List Env) (s:Shared) (H:Hp) (vs:List V) (Q:VK) (E:XK),Room k (A.deeper (envOfC qual (Ah st) s.heap.objs.size f cdv))->sp vs H Q E->
      ∃ t,PSs (Bo CX0 P w K mg base N qual (Ah st) f cdv A outer s H E).nox (Bk st) t/\t { nx:=λ _ H'=>Q .non H',rt:=Q } (start N vs) H):FnOk P w K mg base CX0 (k+1) f fd ps sp:=by
  obtain ⟨oc,od,kV,doc,pm,an,cdv,ct,osl,rfl,lk,hcd⟩:=F.ex;refine Jg lk hcd S len λ A outer s H vs Q E hr hsp=> ?_;obtain ⟨t,h,q⟩:=hbody cdv A outer s H vs Q E hr hsp;exact ⟨t,h.nox,q⟩
theorem fun_mk {x qual:Str} {st:Stmt} {f:Addr} {oc:Value} {od an:Option Addr} {osl:Array (Option Value)} {kV doc pm cdv ct:Value} (l:K.lookup f=some ⟨oc,od, .func (PySem.W.fnOf x qual (DV st) (Bk st) (Ah st) .none kV doc pm an cdv ct),osl⟩)
    (c:PySem.W.codeIn K cdv qual=true) (k:PySem.W.keepIn K (.ref f)=true):Fun K x qual st f (PySem.W.fnOf x qual (DV st) (Bk st) (Ah st) .none kV doc pm an cdv ct):=⟨⟨oc,od,kV,doc,pm,an,cdv,ct,osl,rfl,l,c⟩,k⟩
end
section
variable {X:Cx}
theorem pv (i:Nat) {x:Str} {pos:Pos} (hN:X.N[i]?=some x:=by rfl) (hv:Vis X.env.scope x:=by first | exact Or.inl rfl | exact Or.inr (Or.inl rfl) | exact Or.inr (Or.inr rfl)) (hd:(x == ("__debug__":Str))=false:=by decide)
    (hcd:(x == ("__classdict__":Str))=false:=by decide):PE X (.Name x pos) (LK i):=Mw hN hv hd hcd
end
theorem EA {A B:Prop} (h:B):if false=true then A else B:=by
  rw [if_neg Bool.false_ne_true];exact h
theorem FZ {A B:Prop} (h:A):if true=true then A else B:=by
  rw [if_pos rfl];exact h
def Same (H H':Hp):Prop:=∀ b o,H b=some o->H' b=some o
theorem Same.refl (H:Hp):Same H H:=λ _ _ h=>h
theorem Same.trans {H H1 H2:Hp} (a:Same H H1) (b:Same H1 H2):Same H H2:=λ c o h=>b c o (a c o h)
theorem Same.free {H H':Hp} (e:Same H H') {l:Addr} (h:H' l=Option.none):H l=Option.none:=by
  cases q:H l with
  | none=>rfl
  | some o=>
    rw [e l o q] at h;cases h
theorem Same.seq {K:PySem.W.Frag} {H H':Hp} {a:Addr} {xs:List V} (e:Same H H') (h:SqL K H a xs):SqL K H' a xs:=by
  rcases h with (h | ⟨o,h⟩) | h
  · exact .inl (.inl (e _ _ h))
  · exact .inl (.inr ⟨o,e _ _ h⟩)
  · exact .inr h
section
variable {κ:Type} [DecidableEq κ]
theorem KV.length {kvs:List (κ × V)} {vs:List (κ × Value)} (r:KV kvs vs):kvs.length=vs.length:=Paired.length r
end
section
variable {P:Program} {w:World} {H:Hp} {h:Heap} {a:Addr}
end
section
variable {X:Cx} {pins:List (Addr × Obj)} {σ:St} {H:Hp} {s:Shared} {a:Addr} {y v:V} {u r:Value} {o:Option V} {A:Around} {E:Value->Shared->Prop}
end
section
variable {X:Cx} {pins:List (Addr × Obj)} {σ:St} {H:Hp} {s:Shared} {a:Addr} {kvs:List (Key × V)} {k:Key} {u:Value} {A:Around} {E:Value->Shared->Prop}
end
section
variable {X:Cx} {o i e value:Expr} {pos pos' tpos:Pos} {td ty tv:TE}
end
section
variable {X:Cx} {pos:Pos}
end
section
variable {X:Cx} {pins:List (Addr × Obj)} {σ:St} {H:Hp} {s:Shared} {a:Addr} {y d:V} {u r:Value} {o:Option V} {A:Around} {E:Value->Shared->Prop}
end
section
variable {X:Cx} {o e f:Expr} {apos cpos:Pos} {td ty tx:TE}
end
section
variable {X:Cx} {pins:List (Addr × Obj)} {σ:St} {H:Hp} {s:Shared} {a:Addr} {kvs:List (Key × V)} {A:Around} {E:Value->Shared->Prop}
end
section
variable {X:Cx} {pins:List (Addr × Obj)} {σ:St} {H:Hp} {s:Shared} {a:Addr} {y:V} {u:Value} {A:Around} {E:Value->Shared->Prop}
end
section
variable {P:Program} {w:World} {K:PySem.W.Frag} {mg:Str->Option Value} {base:Heap}
end
section
variable {X:Cx}
end
section
variable {κ:Type} [DecidableEq κ]
end
def Au (cells:List (Str × Addr)):List (Str × NameKind)->List (Str × Addr)->List (Str × Addr)
  | [],acc=>acc
  | (n,k)::r,acc=>Au cells r (if k= .free then (match cells.lookup n with | some a=>(n,a)::acc | none=>acc) else acc)
theorem CG {env:Env}:∀ (names:List (Str × NameKind)) (acc:List (Str × Addr)),(∀ y∈names,y.2= .free->∃ c,env.cells.lookup y.1=some c)->
    (forIn names acc λ (x:Str × NameKind) (r:List (Str × Addr))=>
      (if (x.2 == NameKind.free)=true then (do let a <-cellOf env x.1;pure (ForInStep.yield ((x.1,a)::r))) else pure (ForInStep.yield r):Sem (ForInStep (List (Str × Addr)))))=(pure (Au env.cells names acc):Sem (List (Str × Addr)))
  | [],acc,_=>rfl
  | (n,k)::rest,acc,h=>by
    rw [List.forIn_cons];have ih:=λ acc'=>CG (env:=env) rest acc' λ y hy=>h y (List.mem_cons_of_mem _ hy);by_cases hk:k= .free
    · subst hk;obtain ⟨c,hc⟩:=h (n, .free) List.mem_cons_self rfl;have hc:env.cells.lookup n=some c:=hc;have e:cellOf env n=pure c:=by unfold cellOf;rw [hc]
      simp only [beq_self_eq_true,if_true,e,pure_bind,Au,hc];exact ih _
    · have hb:(k == NameKind.free)=false:=by simpa using hk
      simp only [hb,Bool.false_eq_true,if_false,pure_bind,Au,if_neg hk];exact ih _
theorem Bp {env:Env} {scope:Scope} (h:∀ y∈scope.names,y.2= .free->∃ c,env.cells.lookup y.1=some c):closureFor scope env=pure (Au env.cells scope.names []):=by
  have e:=CG (env:=env) scope.names [] h;unfold closureFor;simp only [bind_pure_comp,bind_pure,map_pure] at*;exact e
theorem CT {cells:List (Str × Addr)}:∀ (names:List (Str × NameKind)) (acc:List (Str × Addr)),(∀ x c,acc.lookup x=some c->cells.lookup x=some c)->∀ x c,(Au cells names acc).lookup x=some c->cells.lookup x=some c
  | [],acc,h,x,c,e=>h x c e
  | (n,k)::r,acc,h,x,c,e=>by
    refine CT r _ ?_ x c e;intro y d q;split at q
    · split at q
      · rename_i a ha
        rw [List.lookup_cons] at q;split at q
        · rename_i hy
          cases q;rw [eq_of_beq hy];exact ha
        · exact h y d q
      · exact h y d q
    · exact h y d q
theorem BQ {cells:List (Str × Addr)}:∀ (names:List (Str × NameKind)) (acc:List (Str × Addr)) (x:Str),(((x,NameKind.free)∈names/\∃ c,cells.lookup x=some c)\/∃ c,acc.lookup x=some c)->∃ c,(Au cells names acc).lookup x=some c
  | [],acc,x,h=>by
    rcases h with ⟨h,_⟩ | h
    · cases h
    · exact h
  | (n,k)::r,acc,x,h=>by
    refine BQ r _ x ?_;have up:(∃ c,acc.lookup x=some c)->∃ c,(if k= .free then (match cells.lookup n with | some a=>(n,a)::acc | none=>acc) else acc).lookup x=some c:=by
      rintro ⟨c,hc⟩;split
      · split
        · rename_i a ha
          rw [List.lookup_cons];split
          · exact ⟨_,rfl⟩
          · exact ⟨c,hc⟩
        · exact ⟨c,hc⟩
      · exact ⟨c,hc⟩
    rcases h with ⟨h,c,hc⟩ | h
    · rcases List.mem_cons.mp h with e | e
      · cases e;right;refine ⟨c,?_⟩;rw [if_pos rfl,hc,List.lookup_cons,beq_self_eq_true]
      · exact .inl ⟨e,c,hc⟩
    · exact .inr (up h)
theorem EC (env:Env) (x:Str):∀ names:List (Str × NameKind),
    (names.map λ (n,k)=>if (k == NameKind.free&&env.scope.kind == .function&&env.kindOf n == some .cell) then (n,NameKind.cell) else (n,k)).lookup x=
      (names.lookup x).map λ k=>if (k == NameKind.free&&env.scope.kind == .function&&env.kindOf x == some .cell)=true then NameKind.cell else k
  | []=>rfl
  | (n,k)::r=>by
    have ih:=EC env x r;show List.lookup x ((if (k == NameKind.free&&env.scope.kind == .function&&env.kindOf n == some .cell)=true then (n,NameKind.cell) else (n,k))::_)=_;cases hx:x == n with
    | true=>
      have e:x=n:=eq_of_beq hx;subst e;by_cases hc:(k == NameKind.free&&env.scope.kind == .function&&env.kindOf x == some .cell)=true
      · rw [if_pos hc,List.lookup_cons,List.lookup_cons,beq_self_eq_true];simp only [Option.map_some,if_pos hc]
      · rw [if_neg hc,List.lookup_cons,List.lookup_cons,beq_self_eq_true];simp only [Option.map_some,if_neg hc]
    | false=>
      have e:(List.lookup x ((n,k)::r))=List.lookup x r:=by rw [List.lookup_cons,hx]
      rw [e, <-ih];split <;> rw [List.lookup_cons,hx]
structure BlkScope (X:Cx) (scope:Scope) (own:List Str) (fr:List (Str × Nat)):Prop where
  kind:scope.kind= .function
  nocell:∀ y∈scope.names,y.2≠ .cell
  loc:∀ y∈scope.names,y.2= .local->scope.names.lookup y.1=some .local
  free:∀ y∈scope.names,y.2= .free->(X.env.scope.names.lookup y.1=some .cell\/X.env.scope.names.lookup y.1=some .free)
  fr:∀ p∈fr,X.N[p.2]?=some p.1/\(p.1,NameKind.free)∈scope.names
  only:∀ x,(x,NameKind.free)∈scope.names->scope.names.lookup x=some .free
def AD (X:Cx) (scope:Scope) (own:List Str) (fr:List (Str × Nat)) (C:Addr) (ex:List Addr) (s:Shared) (H:Hp):Cx where
  prog:=X.prog
  w:=X.w
  K:=X.K
  mg:=X.mg
  base:=X.base
  A:=X.A
  N:=own++fr.map (·.1)
  s₀:=s
  H₀:=H
  env:=compEnvC scope (Au X.env.cells scope.names []) C X.env
  outer:=X.stack
  stack:=X.stack
  ex:=ex
  fn:=λ _=>false
  calm:=X.calm
  pn:=[]
  xe:=λ _ _=>False
def CY (own:List Str) (fr:List (Str × Nat)) (σ:St):St:=own.map (λ _=>none)++fr.map (λ p=>(σ[p.2]?).getD none)
section
variable {X:Cx} {pins:List (Addr × Obj)} {σ:St} {H:Hp} {s:Shared} {scope:Scope} {own:List Str} {fr:List (Str × Nat)} {fp:List Addr}
theorem BlkScope.cells (S:BlkScope X scope own fr) (ok:X.Ok):∀ y∈scope.names,y.2= .free->∃ c,X.env.cells.lookup y.1=some c:=λ y hy e=>ok.has y.1 (S.free y hy e)
theorem Inv.block {h':Heap} {t':Nat} {m:Str->Option Value} (I:Inv X pins σ H s) (S:BlkScope X scope own fr) (hf:∀ b∈fp,Ck X pins H b) (hlt:∀ b∈fp,b<s.heap.objs.size)
    (hns:h'.Ns s.heap.objs.size m) (k:∀ b o,s.heap.get? b=some o->h'.get? b=some o):
    Inv (AD X scope own fr s.heap.objs.size fp s H) [] (CY own fr σ) H { s with heap:=h',toks:=t' }:=by
  have cs:∀ x c,(Au X.env.cells scope.names []).lookup x=some c->X.env.cells.lookup x=some c:=CT _ _ (λ _ _ e=>by simp at e);have ck:∀ c v,s.heap.IsCell c v->h'.IsCell c v:=λ c v ⟨o,ho,hd⟩=>⟨o,k _ _ ho,hd⟩;have kf:∀ x,(x,NameKind.free)∈scope.names->∃ c,X.env.cells.lookup x=some c/\(Au X.env.cells scope.names []).lookup x=some c:=λ x hx=>by
    obtain ⟨c0,e0⟩:=S.cells I.ok (x, .free) hx rfl;obtain ⟨c,e⟩:=BQ (cells:=X.env.cells) scope.names [] x (.inl ⟨hx,c0,e0⟩);exact ⟨c,cs _ _ e,e⟩
  have rel:∀ x,(compEnvC scope (Au X.env.cells scope.names []) s.heap.objs.size X.env).kindOf x=(scope.names.lookup x).map λ k=>if (k == NameKind.free&&X.env.scope.kind == .function&&X.env.kindOf x == some .cell)=true then NameKind.cell else k:=λ x=>EC X.env x scope.names
  have nc:∀ x,scope.names.lookup x≠some .cell:=λ x e=>S.nocell _ (PySem.mem_of_lookup e) rfl;refine ⟨⟨I.ok.mod,S.kind,I.ok.glob,I.ok.blt,Nat.le_refl _,λ x y c e1 e2=>I.ok.inj x y c (cs _ _ e1) (cs _ _ e2),λ x hx=> ?_,λ x c e _=>(nomatch e),I.ok.hd,I.ok.frames, .inl rfl,
    λ b hb=>⟨Nat.ne_of_lt (hlt b hb),λ x c e=>(hf b hb).2.2.2.2.1 x c (cs _ _ e)⟩,I.bs,Nat.le_trans I.ok.bsz I.sz,λ b o e hb=> ?_,λ b hb z=>(List.mem_cons.mp (I.stkSub b z)).elim (hf b hb).2.1 (hf b hb).2.2.1,I.stack,I.stkFree⟩,
    rfl,I.bare,Un.kept k,⟨m,hns,λ i x v e1 e2 e3=> ?_⟩,λ x c e=> ?_,I.hok.fresh (Nat.le_refl _),λ x c e=>I.freeC x c (cs _ _ e),λ p hp=>absurd (show p∈([]:List (Addr × Obj)) from hp) (by simp),I.hok.kept k,?_⟩
  · have hx:(compEnvC scope (Au X.env.cells scope.names []) s.heap.objs.size X.env).kindOf x=some .cell\/(compEnvC scope (Au X.env.cells scope.names []) s.heap.objs.size X.env).kindOf x=some .free:=hx;rw [rel x] at hx;have q:scope.names.lookup x=some .free:=by
      cases e:scope.names.lookup x with
      | none=>rw [e] at hx;simp at hx
      | some kk=>
        rw [e] at hx;simp only [Option.map_some,Option.some.injEq] at hx;by_cases hk:kk= .free
        · rw [hk]
        · have hb:(kk == NameKind.free)=false:=by simpa using hk
          simp only [hb,Bool.false_and,Bool.false_eq_true,if_false] at hx;rcases hx with hx | hx
          · rw [hx] at e;exact absurd e (nc x)
          · exact absurd hx hk
    obtain ⟨c,_,e⟩:=kf x (PySem.mem_of_lookup q);exact ⟨c,e⟩
  · rcases (hf b hb).2.2.2.1 with z | z
    · exact I.ok.noex b o e z
    · exact absurd (Nat.lt_of_lt_of_le (Heap.lt_size (I.ok.bs b o e).1) z) (Nat.lt_irrefl _)
  · have e1:(own++fr.map (·.1))[i]?=some x:=e1;have e2:(CY own fr σ)[i]?=some (some v):=e2;unfold CY at e2;by_cases hi:i<own.length
    · rw [List.getElem?_append_left (by simpa using hi),List.getElem?_map] at e2;rw [List.getElem?_eq_getElem hi] at e2;simp at e2
    · rw [List.getElem?_append_right (by simpa using hi),List.getElem?_map,List.length_map] at e2;rw [List.getElem?_append_right (by omega),List.getElem?_map] at e1;cases ep:fr[i - own.length]? with
      | none=>rw [ep] at e1;simp at e1
      | some p=>
        rw [ep] at e1 e2;simp only [Option.map_some,Option.some.injEq] at e1 e2;subst e1;obtain ⟨h1,h2⟩:=S.fr p (List.mem_of_getElem? ep);have e4:σ[p.2]?=some (some v):=by
          cases q:σ[p.2]? with
          | none=>rw [q] at e2;simp at e2
          | some z=>rw [q] at e2;simp at e2;rw [e2]
        have kx:=S.free _ h2 rfl;obtain ⟨m0,hn0,hl0⟩:=I.loc;obtain ⟨u,r,l⟩:=hl0 p.2 p.1 v h1 e4 (kx.elim (λ z=> .inr (.inl z)) λ z=> .inr (.inr z));refine ⟨u,r,?_⟩;rcases l with ⟨z,_⟩ | ⟨_,c,hc,hcell⟩
        · have z:X.env.scope.names.lookup p.1=some .local:=z;rcases kx with y | y <;> (rw [y] at z;cases z)
        · obtain ⟨c',q1,q2⟩:=kf p.1 h2;rw [hc] at q1;cases q1;refine .inr ⟨?_,c,q2,ck _ _ hcell⟩;show (compEnvC scope (Au X.env.cells scope.names []) s.heap.objs.size X.env).kindOf p.1=some .cell\/(compEnvC scope (Au X.env.cells scope.names []) s.heap.objs.size X.env).kindOf p.1=some .free;have e3:(compEnvC scope (Au X.env.cells scope.names []) s.heap.objs.size X.env).kindOf p.1=some .local\/(compEnvC scope (Au X.env.cells scope.names []) s.heap.objs.size X.env).kindOf p.1=some .cell\/(compEnvC scope (Au X.env.cells scope.names []) s.heap.objs.size X.env).kindOf p.1=some .free:=e3;rcases e3 with e3 | e3
          · exfalso;rw [rel] at e3;cases e:scope.names.lookup p.1 with
            | none=>rw [e] at e3;cases e3
            | some kk=>
              rw [e] at e3;simp only [Option.map_some,Option.some.injEq] at e3;by_cases hk:kk= .free
              · subst hk;split at e3 <;> cases e3
              · have hb:(kk == NameKind.free)=false:=by simpa using hk
                simp only [hb,Bool.false_and,Bool.false_eq_true,if_false] at e3;subst e3;have:=S.only p.1 h2;rw [this] at e;cases e
          · exact e3
  · obtain ⟨v,z⟩:=I.cell x c (cs _ _ e);exact ⟨v,ck _ _ z⟩
  · unfold CY;show _=(own++fr.map (·.1)).length;simp
end
theorem Gm {prog:Program} {w:World} {A:Around} {R:Result->Shared->Prop} {s:Shared} {elt target iter:Expr} {ifs:List Expr} {scope:Scope} {pos:Pos} {it acc:Value} {env:Env} (I:Nat->Shared->Prop)
    (turn:∀ n s,I n s->wpAny (model prog w) A (pyNext it) (λ r s₁=>match r with
      | none=>R (.ok .next) s₁
      | some v=>wpAny (model prog w) A (letOwnedTupleGo target it v) (λ _ s₁'=>wpAny (model prog w) A (assign target env v) (λ _ s₂=>
          wpAny (model prog w) A (forIn ifs true λ c r=>if r=true then do let ok <-isTrue c env (eval c env);pure (ForInStep.yield ok) else pure (ForInStep.yield r)) (λ ok s₃=>
            if ok=true then wpAny (model prog w) A (eval elt env) (λ x s₄=>
              wpAny (model prog w) A (call (.builtin "list.append") [acc,x]) (λ _ s₅=>∃ m,m<n/\I m s₅) (λ _ _=>False) s₄) (λ _ _=>False) s₃
            else ∃ m,m<n/\I m s₃) (λ _ _=>False) s₂) (λ _ _=>False) s₁') (λ _ _=>False) s₁) (λ _ _=>False) s)
    (n:Nat) (h:I n s):codeAny (model prog w) A (.compLoop (.ListComp elt [⟨target,iter,ifs,0⟩] scope pos) 0 it acc env) R s:=by
  refine codeAny_loop rfl I (λ n s hI=> ?_) n h;show wpAny _ A ((compTurn (.ListComp elt [⟨target,iter,ifs,0⟩] scope pos) 0 it acc env).onRaise (λ x=>do noteFrame x env;theTreesLotGoes x)) _ _ s;refine wpAny_noted ?_;rw [compTurn_list];refine wpAny_bind (wpAny_standAt (wpAny_bind (wpAny_mono (turn n s hI) (λ r s₁ h₁=> ?_) λ _ _ f=>f.elim)));cases r with
  | none=>exact wpAny_pure h₁
  | some v=>
    refine wpAny_bind (wpAny_mono h₁ (λ _ s₁' h₁'=>wpAny_bind (wpAny_mono h₁' (λ _ s₂ h₂=>wpAny_bind (wpAny_mono h₂ (λ ok s₃ h₃=> ?_) λ _ _ f=>f.elim)) λ _ _ f=>f.elim)) λ _ _ f=>f.elim);cases ok with
    | false=>exact wpAny_pure ⟨rfl,h₃⟩
    | true=>
      exact wpAny_bind (wpAny_bind (wpAny_mono h₃ (λ x s₄ h₄=>wpAny_bind (wpAny_mono h₄ (λ _ s₅ h₅=>wpAny_pure (wpAny_pure ⟨rfl,h₅⟩)) λ _ _ f=>f.elim)) λ _ _ f=>f.elim))
section
variable {X:Cx}
def PTs (X:Cx) (ifs:List Expr) (tc:TT):Prop:=
  ∀ (pins:List (Addr × Obj)) (s:Shared) (σ:St) (H:Hp) (Q:Bool->Hp->Prop),Inv X pins σ H s->tc σ H Q->
    wpAny (model X.prog X.w) X.A (forIn ifs true λ c r=>if r=true then do let ok <-isTrue c X.env (eval c X.env);pure (ForInStep.yield ok) else pure (ForInStep.yield r)) (TP X pins σ Q) X.xe s
def IB:TT:=λ _ H Q=>Q true H
theorem AM:PTs X [] IB:=λ _ _ _ H _ I h=>wpAny_tests_nil ⟨H,I,h⟩
theorem F7 {c:Expr} {tc:TT} (h:PT X c tc):PTs X [c] tc:=λ pins s σ H Q I q=>wpAny_tests_one (h pins s σ H Q I q)
def Kp (σ0 σ:St):Prop:=σ.length=σ0.length/\∀ (i:Nat) (v:V),σ0[i]?=some (some v)->σ[i]?=some (some v)
theorem Kp.refl (σ:St):Kp σ σ:=⟨rfl,λ _ _ h=>h⟩
theorem Kp.set {σ0 σ:St} {i:Nat} {v:V} (k:Kp σ0 σ) (h:σ0[i]?=some none):Kp σ0 (σ.set i (some v)):=by
  refine ⟨by rw [List.length_set];exact k.1,λ j u e=> ?_⟩;by_cases hj:i=j
  · subst hj;rw [h] at e;cases e
  · rw [List.getElem?_set_ne hj];exact k.2 j u e
def Da (J:It) (σ0:St) (g:TG) (tc:TT) (te:TE) (Q:VK) (H1:Hp) (D:Addr):Prop:=
  ∃ W:Nat->Nat->List V->Hp->Prop,(∃ m,W 0 m [] (upd H1 D (.lst [])))/\∀ i m ys H,W i m ys H->
    (J.stop i H/\Q (.ref D) H)\/(J.go i H/\∃ N:List V->Hp->Prop,(∀ ys' H',N ys' H'->∃ m',m'<m/\W (i+1) m' ys' H')/\∀ x H',J.yld i H x H'->g x σ0 H' λ σ2 H2=>Kp σ0 σ2/\tc σ2 H2 λ b H3=>
      if b=true then te σ2 H3 λ y H4=>H4 D=some (.lst ys)/\ys.length<sizeLine/\N (ys++[y]) (upd H4 D (.lst (ys++[y]))) else N ys H3)
def Ek (wi:TI) (own:List Str) (fr:List (Str × Nat)) (g:TG) (tc:TT) (te:TE):TE:=λ σ H Q=>wi σ H λ J H1=>∀ D,H1 D=none->Da J (CY own fr σ) g tc te Q H1 D
theorem Gv {elt tg iter:Expr} {ifs:List Expr} {scope:Scope} {pos:Pos} {own:List Str} {fr:List (Str × Nat)} {g:TG} {tc:TT} {te:TE} (hc:X.calm=true) (S:BlkScope X scope own fr)
    (hg:∀ C ex s H,PG (AD X scope own fr C ex s H) tg g) (ht:∀ C ex s H,PTs (AD X scope own fr C ex s H) ifs tc) (he:∀ C ex s H,PE (AD X scope own fr C ex s H) elt te)
    {pins:List (Addr × Obj)} {σ:St} {H:Hp} {s:Shared} {it:Addr} {fp:List Addr} {tn:Nat->Heap->Prop} {J:It} {E:Value->Shared->Prop}
    (I:Inv X pins σ H s) (T:Turn X.prog X.w X.K tg J fp it tn) (st:tn 0 s.heap) (hf:∀ b∈fp,Ck X pins H b) {Q:VK}
    (h:∀ D,H D=none->Da J (CY own fr σ) g tc te Q H D)
    {RR:Value->Addr->Result->Shared->Prop}
    (hR:∀ D C H' s',Inv X pins σ H' s'->(∃ m,s'.heap.Ns C m)->Ck X pins H' C->Q (.ref D) H'->RR (.ref D) C (.ok .next) s'):
    wpAny (model X.prog X.w) X.A (newList []) (λ acc s₃=>wpAny (model X.prog X.w) X.A (newFunctionEnv scope X.env.globals (Au X.env.cells scope.names []) [] X.env.qual none .none (some X.env)) (λ cenv s₄=>
      codeAny (model X.prog X.w) X.A (.compStart (.ListComp elt [⟨tg,iter,ifs,0⟩] scope pos) 0 (.ref it) acc { cenv with scope:=relabel scope X.env }) (RR acc cenv.locals) s₄) E s₃) E s:=by
  have hDn:H s.heap.objs.size=none:=I.fresh;obtain ⟨W,⟨m0,w0⟩,turn⟩:=h s.heap.objs.size hDn;have I3:Inv X pins σ (upd H s.heap.objs.size (.lst [])) { s with heap:=s.heap.push { cls:= .type "list",data:= .seq ([]:List Value).toArray },toks:=s.toks }:=I.lnew .nil (Nat.zero_le _);refine wpAny_newObj_type ?_;generalize hs3:({ s with heap:=s.heap.push { cls:= .type "list",data:= .seq ([]:List Value).toArray } }:Shared)=s3 at I3 ⊢;have I3:Inv X pins σ (upd H s.heap.objs.size (.lst [])) s3:=I3;have old3:∀ b o,s.heap.get? b=some o->s3.heap.get? b=some o:=λ b o e=>by rw [<-hs3];exact Heap.get?_push_of_some _ e
  have hobj:∀ b∈fp,∃ o,s.heap.get? b=some o/\∀ v,o.data≠ .cell v:=T.obj 0 _ st;have hne:∀ b∈fp,b≠s.heap.objs.size:=λ b hb=>by obtain ⟨o,e,_⟩:=hobj b hb;exact Nat.ne_of_lt (Heap.lt_size e)
  have hf3:∀ b∈fp,Ck X pins (upd H s.heap.objs.size (.lst [])) b:=λ b hb=>⟨by rw [Aj (hne b hb)];exact (hf b hb).1,(hf b hb).2⟩;have hlt3:∀ b∈fp,b<s3.heap.objs.size:=λ b hb=>by obtain ⟨o,e,_⟩:=hobj b hb;exact Heap.lt_size (old3 b o e)
  refine wpAny_newFunctionEnv S.nocell (by intro y hy;simp at hy) (λ h₁ hns hsb=> ?_) S.kind;have keep:∀ b o,s3.heap.get? b=some o->h₁.get? b=some o:=λ b o e=>hsb.extBut b o (Nat.ne_of_lt (Heap.lt_size e)) (Heap.get?_push_of_some _ e);have J0:=I3.block (t':=s3.toks+([]:List (Str × Value)).length) S hf3 hlt3 hns keep;have st3:tn 0 h₁:=T.keep 0 _ _ st λ b hb o e=>keep b o (old3 b o e);have loop:codeAny (model X.prog X.w) X.A (.compLoop (.ListComp elt [⟨tg,iter,ifs,0⟩] scope pos) 0 (.ref it) (.ref s.heap.objs.size) (compEnvC scope (Au X.env.cells scope.names []) s3.heap.objs.size X.env))
      (RR (.ref s.heap.objs.size) s3.heap.objs.size) { s3 with heap:=h₁,toks:=s3.toks+([]:List (Str × Value)).length }:=by
    have stat:∀ {H':Hp},(∀ b∈fp,H' b=none)->∀ b∈fp,Ck (AD X scope own fr s3.heap.objs.size fp s3 (upd H s.heap.objs.size (.lst []))) [] H' b:=λ {H'} hn b hb=>
      ⟨hn b hb,Nat.ne_of_lt (hlt3 b hb),J0.ok.exfs b hb, .inl hb,(J0.ok.exf b hb).2,λ p hp=>absurd (show p∈([]:List (Addr × Obj)) from hp) (by simp)⟩
    refine Gm (λ n s'=>∃ i ys H',Inv (AD X scope own fr s3.heap.objs.size fp s3 (upd H s.heap.objs.size (.lst []))) [] (CY own fr σ) H' s'/\tn i s'.heap/\(∀ b∈fp,H' b=none)/\W i n ys H') ?_ m0
      ⟨0,[],_,J0,st3,λ b hb=>(hf3 b hb).1,w0⟩
    rintro n s4 ⟨i,ys,H4,I4,st4,fr4,w4⟩;rcases turn i n ys H4 w4 with ⟨stop,q⟩ | ⟨go,N,hN,step⟩
    · refine thn (T.done (AD X scope own fr s3.heap.objs.size fp s3 (upd H s.heap.objs.size (.lst []))) rfl rfl rfl hc i [] s4 _ H4 (λ _ _=>False) I4 (stat fr4) st4 stop) λ r s5 ⟨hr,I5⟩=> ?_;subst hr;obtain ⟨m,hn,_⟩:=id I5.loc;exact hR _ _ H4 s5 (I3.call' I5.os I5.base I5.hok I5.bare λ b hb=>⟨(hf3 b hb).2.2.2.1,(hf3 b hb).2.1,(hf3 b hb).2.2.2.2.1,(hf3 b hb).2.2.2.2.2⟩) ⟨m,hn⟩ (I3.fpOk (Nat.le_refl _) I5.free) q
    · refine thn (T.item (AD X scope own fr s3.heap.objs.size fp s3 (upd H s.heap.objs.size (.lst []))) rfl rfl rfl hc i [] s4 _ H4 (λ _ _=>False) I4 (stat fr4) st4 go) λ r s5 ⟨u,hr,h5⟩=> ?_;subst hr;refine thn h5 λ _ s6 ⟨x,H6,I6,r6,y6,st6,fr6⟩=> ?_;have I6':=I6.pinned (stat fr6) (T.obj _ _ st6);refine thn (hg _ _ _ _ _ s6 _ H6 x u _ I6' r6 (step x H6 y6)) λ _ s7 ⟨σ7,H7,I7,kp,q7⟩=> ?_;refine thn (ht _ _ _ _ _ s7 σ7 H7 _ I7 q7) λ b s8 ⟨H8,I8,q8⟩=> ?_;have again:∀ {s9:Shared} {H9:Hp} {ys':List V},Inv (AD X scope own fr s3.heap.objs.size fp s3 (upd H s.heap.objs.size (.lst []))) ([]++Eg fp s6.heap) σ7 H9 s9->N ys' H9->
          ∃ m,m<n/\∃ i ys H',Inv (AD X scope own fr s3.heap.objs.size fp s3 (upd H s.heap.objs.size (.lst []))) [] (CY own fr σ) H' s9/\tn i s9.heap/\(∀ b∈fp,H' b=none)/\W i m ys H':=λ {s9 H9 ys'} I9 n9=>by
        obtain ⟨m',hm,w9⟩:=hN ys' H9 n9;refine ⟨m',hm,i+1,ys',H9,I9.unpinned.weak kp.1.symm kp.2,T.keep _ _ _ st6 λ b hb o e=>(I9.pin (b,o) (List.mem_append_right _ (List.mem_append_right _ (BJ hb e)))).1,λ b hb=> ?_,w9⟩;obtain ⟨o,e,d⟩:=T.obj _ _ st6 b hb;exact (I9.pin (b,o) (List.mem_append_right _ (List.mem_append_right _ (BJ hb e)))).2.1
      cases b with
      | false=>
        rw [if_neg Bool.false_ne_true] at q8 ⊢;exact again I8 q8
      | true=>
        rw [if_pos rfl] at q8 ⊢;refine thn (he _ _ _ _ _ s8 σ7 H8 _ I8 q8) λ xv s9 ⟨y,H9,I9,r9,hD,hl,n9⟩=> ?_;refine thn (Fm _ s9 σ7 H9 (.ref s.heap.objs.size) [y] (.ref s.heap.objs.size) [xv] (λ _ H'=>H'=upd H9 s.heap.objs.size (.lst (ys++[y]))) I9 rfl (.cons r9 .nil) ⟨_,ys,y,rfl,rfl,hD,hl,rfl⟩) λ _ s10 ⟨_,H10,I10,_,q10⟩=> ?_;subst q10;exact again I10 n9
  exact codeAny_compStart_list loop (T.self _ 0 _ _ _ st3 loop)
theorem FG {elt tg iter:Expr} {ifs:List Expr} {scope:Scope} {pos:Pos} {own:List Str} {fr:List (Str × Nat)} {wi:TI} {g:TG} {tc:TT} {te:TE} (hc:X.calm=true) (S:BlkScope X scope own fr) (hi:PI X tg iter wi)
    (hg:∀ C ex s H,PG (AD X scope own fr C ex s H) tg g) (ht:∀ C ex s H,PTs (AD X scope own fr C ex s H) ifs tc) (he:∀ C ex s H,PE (AD X scope own fr C ex s H) elt te)
    (hs:∀ x,foldedSetIterable iter X.env x=pure x:=by intro _;rfl):PE X (.ListComp elt [⟨tg,iter,ifs,0⟩] scope pos) (Ek wi own fr g tc te):=by
  intro pins s σ H Q I h;rw [eval_ListComp];refine wpAny_comprehension_free (use:=none) rfl hs (Bp (S.cells I.ok)) S.kind S.loc (thn (hi pins s σ H _ I h) λ xv s₁ h₁=>thn h₁ λ itv s₂ h₂=> ?_);obtain ⟨it,fp,tn,J,H2,rfl,I2,T,st2,f2,h2⟩:=h₂;refine Gv (RR:=λ acc C=>compPost (model X.prog X.w) X.A X.xe none (EP X pins σ Q) acc C) hc S hg ht he I2 T st2 f2 h2 ?_;rintro D C H' s' I' ⟨m,hn⟩ f q;exact ⟨m,hn,λ h' sb=>⟨.ref D,H',I'.turned (t':=s'.toks) (it:=C) (λ b o hb e=>(sb.2 b hb).trans e) f.1 f.2.1 f.2.2.2.1 f.2.2.2.2.1 f.2.2.2.2.2,rfl,q⟩⟩
theorem Kg {i:Nat} {x:Str} {px spos:Pos} {elt tg iter:Expr} {ifs:List Expr} {scope:Scope} {pos:Pos} {own:List Str} {fr:List (Str × Nat)} {wi:TI} {g:TG} {tc:TT} {te:TE} (hN:X.N.Nodup) (hix:X.N[i]?=some x) (hx:Loc X.env.scope x)
    (hc:X.calm=true) (S:BlkScope X scope own fr) (hi:PI X tg iter wi)
    (hg:∀ C ex s H,PG (AD X scope own fr C ex s H) tg g) (ht:∀ C ex s H,PTs (AD X scope own fr C ex s H) ifs tc) (he:∀ C ex s H,PE (AD X scope own fr C ex s H) elt te)
    (hsw:swapsWith (.ListComp elt [⟨tg,iter,ifs,0⟩] scope pos) (some (.Name x px)) spos.line X.env=pure true:=by rfl)
    (hf:X.fn x=true\/X.env.scope.names.lookup x=some .local:=by first | exact .inl rfl | exact .inr rfl | assumption)
    (hs:∀ x,foldedSetIterable iter X.env x=pure x:=by intro _;rfl):PS X (.Assign [.Name x px] (.ListComp elt [⟨tg,iter,ifs,0⟩] scope pos) spos) (Ka (Ek wi own fr g tc te) (AB i)):=by
  intro pins s σ H D I h;rw [exec_Assign_Name_used _ _ _ _ hsw];refine wpAny_bind (wpAny_standAt (wpAny_bind ?_));show wpAny _ X.A (do let _ <-comprehension (.ListComp elt [⟨tg,iter,ifs,0⟩] scope pos) scope X.env _ (newList []) false (eval iter X.env) (some (assign (.Name x px) X.env))) _ _ s;refine wpAny_bind (wpAny_mono (wpAny_comprehension_free (use:=some (assign (.Name x px) X.env)) (Q:=λ _ s'=>SP X pins D .next s') rfl hs (Bp (S.cells I.ok)) S.kind S.loc
    (thn (hi pins s σ H _ I h) λ xv s₁ h₁=>thn h₁ λ itv s₂ h₂=> ?_)) (λ _ s' hq=>wpAny_pure (wpAny_pure hq)) λ _ _ e=>e)
  obtain ⟨it,fp,tn,J,H2,rfl,I2,T,st2,f2,h2⟩:=h₂;refine Gv (Q:=λ x H1=>AB i x σ H1 D.nx) (RR:=λ acc C=>compPost (model X.prog X.w) X.A X.xe (some (assign (.Name x px) X.env)) (λ _ s'=>SP X pins D .next s') acc C) hc S hg ht he I2 T st2 f2 h2 ?_;rintro Dl C H' s' I' ⟨m,hn⟩ f q;obtain ⟨o,es,ep,ho,hd,r⟩:=hn;have pinC:∀ v,o.data≠ .cell v:=λ v z=>by rw [hd] at z;cases z
  have I'':Inv X (pins++[(C,o)]) σ H' s':=I'.pins_of λ p hp=>(List.mem_append.mp hp).elim (λ z=>I'.pin p (List.mem_append_right _ z)) λ z=>by
    have e:p=(C,o):=by simpa using z
    subst e;exact ⟨ho,f.1,f.2.1,f.2.2.1,pinC⟩
  show wpAny _ X.A (assign (.Name x px) X.env (.ref Dl)) _ _ s';refine wpAny_assign_Name (BC I'' hN hix hx (v:= .ref Dl) rfl (λ s2 I2=> ?_) hf);have pc:=(I2.pin (C,o) (List.mem_append_right _ (List.mem_append_right _ (by simp)))).1;refine ⟨m,⟨o,es,ep,pc,hd,r⟩,λ h' sb=>⟨_,H',?_,q⟩⟩;exact (I2.unpinned (pl:=[(C,o)])).turned (t':=s2.toks) (it:=C) (λ b o hb e=>(sb.2 b hb).trans e) f.1 f.2.1 f.2.2.2.1 f.2.2.2.2.1 f.2.2.2.2.2
end
section
variable {X:Cx} {tg:Expr}
end
section
variable {X:Cx}
theorem DF:∀ {ns:List Int} {l:List (Int × Tok)},Vals (ns.map V.int) (l.map λ p=>Value.int p.1 p.2)->l.map (·.1)=ns
  | [],[],_=>rfl
  | n::ns,p::l,r=>by
    cases r with
    | cons r1 r2=>
      obtain ⟨t,e⟩:=r1;injection e with e1 e2;rw [List.map_cons,DF r2,e1]
  | [],_::_,r=>by cases r
  | _::_,[],r=>by cases r
theorem JY (hc:X.calm=true):AR X (.builtin "sum") (λ xs H Q=>∃ (p:Addr) (ns:List Int),xs=[.ref p]/\SqL X.K H p (ns.map V.int)/\Q (.int ns.sum) H):=by
  intro pins s σ H xs us Q I r h;obtain ⟨p,ns,rfl,hq,q⟩:=h;obtain ⟨u,rfl,rx⟩:=F8 r;cases rx;obtain ⟨its,rv,pl,_⟩:=I.list hq;obtain ⟨ps,e⟩:=(IntsAre.allInts (Hj rv)).items;have e':its=ps.toList.map λ p=>Value.int p.1 p.2:=by
    have:=congrArg Array.toList e;simpa [intItems] using this
  have hl:=pl.isList;rw [e] at hl;refine sum_intListG (I.ok.hd hc) hl λ h' tk t' hk=> ?_;have es:preSum (numAt ps) ps.size=ns.sum:=by
    rw [preSum_eq,List.take_of_length_le (by simp),DF (ns:=ns) (l:=ps.toList) (by rw [<-e'];exact rv)]
  rw [es];exact ⟨.int ns.sum,H,I.kept hk,⟨t',rfl⟩,q⟩
theorem Ii (bs:List Bool):(List.range bs.length).all (λ i=>bs.getD i true)=bs.all id:=by
  rw [Bool.eq_iff_iff,List.all_eq_true,List.all_eq_true];constructor
  · intro h b hb;obtain ⟨i,hi,rfl⟩:=List.getElem_of_mem hb;have:=h i (by simpa using hi);rw [List.getD_eq_getElem?_getD,List.getElem?_eq_getElem hi] at this;exact this
  · intro h i hi;have hi:i<bs.length:=by simpa using hi
    rw [List.getD_eq_getElem?_getD,List.getElem?_eq_getElem hi];exact h _ (List.getElem_mem hi)
theorem JH (hc:X.calm=true):AR X (.builtin "all") (λ xs H Q=>∃ (p:Addr) (bs:List Bool),xs=[.ref p]/\SqL X.K H p (bs.map V.bl)/\Q (.bl (bs.all id)) H):=by
  intro pins s σ H xs us Q I r h;obtain ⟨p,bs,rfl,hq,q⟩:=h;obtain ⟨u,rfl,rx⟩:=F8 r;cases rx;obtain ⟨its,rv,pl,_⟩:=I.list hq;have hl:=rv.length;rw [List.length_map] at hl;obtain ⟨o,ho,_⟩:=id pl.isList;have hne:p≠s.heap.objs.size:=Nat.ne_of_lt (Heap.lt_size ho);refine call_all_walk (wpAny_pyIter_list pl.isList ?_);refine ⟨s.heap.objs.size,_,_,_,_,_,λ i=>bs.getD i true,rfl,Walks.list (A:=X.A.in1) (I.ok.hd hc) _ p hne its.toArray,⟨⟨_,Heap.get?_push_size _ rfl,rfl,rfl⟩,pl.isList.at λ o e=>Heap.get?_push_of_some _ e⟩,?_,λ h' tk hk=> ?_⟩
  · intro i v s' Q' E' hv hQ';have hv:its[i]?=some v:=by simpa using hv
    have hi:i<bs.length:=by rw [hl];exact (List.getElem?_eq_some_iff.mp hv).1
    obtain ⟨u,hu,ru⟩:=rv.get (i:=i) (x:= .bl (bs.getD i true)) (by rw [List.getElem?_map,List.getD_eq_getElem?_getD,List.getElem?_eq_getElem hi];rfl);rw [hu] at hv;cases hv;cases ru;exact wpAny_truthy_bool hQ'
  · have e:its.toArray.size=bs.length:=by rw [List.size_toArray];exact hl.symm
    rw [e,Ii];exact ⟨.bl _,H,I.kept λ b o e=>hk b o (λ z=>by simp at z;exact absurd (Heap.lt_size e) (by rw [z];exact Nat.lt_irrefl _)) (Heap.get?_push_of_some _ e),rfl,q⟩
theorem Gn:AR X (.builtin "isinstance") (λ xs H Q=>∃ x n t b,xs=[x, .ty n]/\TyOf X.K H x t/\PySem.W.kitOne X.K t (.type n)=some b/\Q (.bl b) H):=by
  intro pins s σ H xs us Q I r h;obtain ⟨x,n,t,b,rfl,ty,e,q⟩:=h;obtain ⟨u,c,rfl,rx,rc⟩:=Gi r;cases rc;exact Dr I rx ty e λ tk=>⟨.bl b,H,I.tok tk,rfl,q⟩
def Jb (K:PySem.W.Frag):R2:=λ x y H Q=>∃ l b xs zs,x= .ref l/\y= .ref b/\SqL K H l xs/\SqL K H b zs/\xs.length+zs.length<=sizeLine/\∀ p,H p=none->Q (.ref p) (upd H p (.lst (xs++zs)))
theorem KQ:OpR X (binaryOp .Add) (Jb X.K):=by
  intro pins s σ H x y v u Q I rx ry h;obtain ⟨l,b,xs,zs,rfl,rfl,hH,hB,hz,q⟩:=h;cases rx;cases ry;obtain ⟨its,r,pl,_⟩:=I.list hH;obtain ⟨its2,r2,pl2,_⟩:=I.list hB;have h1:=r.length;have h2:=r2.length;obtain ⟨⟨cls,dd,data,sl⟩,n,ho,hc,hdd,hd⟩:=pl;obtain ⟨⟨cls2,dd2,data2,sl2⟩,n2,ho2,hc2,hdd2,hd2⟩:=pl2;simp only at hc hdd hd hc2 hdd2 hd2;subst hc hdd hd hc2 hdd2 hd2;refine concat_meets ⟨_,ho,rfl⟩ ⟨_,ho2,rfl⟩ noFill_list_add seq_list_add PySem.F.slot_list_add PySem.F.entry_list_add (PySem.F.args_list_add_2 _ _) (list_addW l b its.toArray its2.toArray n n2 none none sl sl2 (by rw [List.size_toArray,List.size_toArray];omega)) ⟨ho,ho2,?_⟩;have e:its.toArray++its2.toArray=(its++its2).toArray:=by simp
  rw [e];exact ⟨.ref _,_,I.lnew (t':=s.toks) (r.append r2) (by rw [List.length_append];omega),rfl,q _ I.fresh⟩
def DM (xs ys:List V):Bool:=xs.length == ys.length&&(List.range xs.length).all λ i=>eqV (xs.getD i .non) (ys.getD i .non)
theorem Fy {xs:List V} (h:xs.all Cp=true) {i:Nat} (hi:i<xs.length):Cp (xs.getD i .non)=true:=by
  rw [List.getD_eq_getElem?_getD,List.getElem?_eq_getElem hi];exact (List.all_eq_true.mp h) _ (List.getElem_mem hi)
def Ku (K:PySem.W.Frag) (neg:Bool):R2:=λ x y H Q=>∃ p q xs ys,x= .ref p/\y= .ref q/\SqL K H p xs/\SqL K H q ys/\xs.all Cp=true/\ys.all Cp=true/\Q (.bl (if neg then !DM xs ys else DM xs ys)) H
theorem EB {A:Around} {s:Shared} {xs ys:List V} {its its2:List Value} (r:Vals xs its) (r2:Vals ys its2) (fx:xs.all Cp=true) (fy:ys.all Cp=true):
    ∀ j (h1:j<its.toArray.size) (h2:j<its2.toArray.size),SeqAt.EqAt A s its.toArray[j] its2.toArray[j] (eqV (xs.getD j .non) (ys.getD j .non)):=λ j h1 h2=>by
  have l1:=r.length;have l2:=r2.length;have h1':j<its.length:=by simpa using h1
  have h2':j<its2.length:=by simpa using h2
  have g1:xs[j]?=some (xs.getD j .non):=by rw [List.getD_eq_getElem?_getD,List.getElem?_eq_getElem (by omega)];rfl
  have g2:ys[j]?=some (ys.getD j .non):=by rw [List.getD_eq_getElem?_getD,List.getElem?_eq_getElem (by omega)];rfl
  obtain ⟨u,e1,ru⟩:=r.get g1;obtain ⟨u2,e2,ru2⟩:=r2.get g2;have q1:its.toArray[j]=u:=by rw [List.getElem?_eq_getElem h1'] at e1;simpa using Option.some.inj e1
  have q2:its2.toArray[j]=u2:=by rw [List.getElem?_eq_getElem h2'] at e2;simpa using Option.some.inj e2
  rw [q1,q2];exact LI ru ru2 (Fy fx (by omega)) (Fy fy (by omega))
theorem NO (hu:X.A.units<cLine):OpR X (compareOp .Eq) (Ku X.K false):=by
  intro pins s σ H x y v u Q I rx ry h;obtain ⟨p,q,xs,ys,rfl,rfl,h1,h2,fx,fy,hq⟩:=h;cases rx;cases ry;obtain ⟨its,r,pl,_⟩:=I.list h1;obtain ⟨its2,r2,pl2,_⟩:=I.list h2;have l1:=r.length;have l2:=r2.length;by_cases hl:xs.length=ys.length
  · refine SeqAt.eq_listAt pl.isList pl2.isList (by simp;omega) hu (EB r r2 fx fy) ⟨.bl _,H,I,rfl,?_⟩;have e:DM xs ys=(List.range its.toArray.size).all λ i=>eqV (xs.getD i .non) (ys.getD i .non):=by
      unfold DM;rw [hl,beq_self_eq_true,Bool.true_and,List.size_toArray, <-l1,hl]
    rw [<-e];exact hq
  · refine SeqAt.eq_list_lengthsAt pl.isList pl2.isList (by simp;omega) hu ⟨.bl _,H,I,rfl,?_⟩;have e:DM xs ys=false:=by unfold DM;rw [beq_eq_false_iff_ne.mpr hl,Bool.false_and]
    rw [<-e];exact hq
theorem Mu (hu:X.A.units<cLine):OpR X (compareOp .NotEq) (Ku X.K true):=by
  intro pins s σ H x y v u Q I rx ry h;obtain ⟨p,q,xs,ys,rfl,rfl,h1,h2,fx,fy,hq⟩:=h;cases rx;cases ry;obtain ⟨its,r,pl,_⟩:=I.list h1;obtain ⟨its2,r2,pl2,_⟩:=I.list h2;have l1:=r.length;have l2:=r2.length;by_cases hl:xs.length=ys.length
  · refine SeqAt.RcNeAt.lists pl.isList pl2.isList (by simp;omega) hu (EB r r2 fx fy) _ _ _ _ ⟨.bl _,H,I,rfl,?_⟩;have e:DM xs ys=(List.range its.toArray.size).all λ i=>eqV (xs.getD i .non) (ys.getD i .non):=by
      unfold DM;rw [hl,beq_self_eq_true,Bool.true_and,List.size_toArray, <-l1,hl]
    rw [<-e];exact hq
  · refine SeqAt.RcNeAt.lists_lengths pl.isList pl2.isList (by simp;omega) hu _ _ _ _ ⟨.bl _,H,I,rfl,?_⟩;have e:DM xs ys=false:=by unfold DM;rw [beq_eq_false_iff_ne.mpr hl,Bool.false_and]
    rw [e] at hq;exact hq
end
def AS (P:Program) (w:World) (K:PySem.W.Frag) (mg:Str->Option Value) (base:Heap) (x:Str) (k:Nat) (ps:List Str) (sp:Sp):Prop:=
  ∃ f fd,mg x=some (.ref f)/\PySem.W.keepIn K (.ref f)=true/\FnOk P w K mg base CX0 k f fd ps sp/\Binds K fd ps []
section
variable {X:Cx} {x:Str} {k:Nat} {ps:List Str} {sp:Sp} {e:Expr} {es:List Expr} {t:TA} {p pos:Pos}
theorem Am (h:AS X.prog X.w X.K X.mg X.base x k ps sp) (hr:Room k X.A) (ha:PA X (e::es) t) (hg:Gl X x:=by rfl) (hdb:(x == ("__debug__":Str))=false:=by decide)
    (he:starEach (e::es) X.env=(false,eval e X.env)::starEach es X.env:=by rfl) (hpl:(backTo pos (starEach es X.env)).any (·.1)=false:=by rfl):
    PE X (.Call (.Name x p) (e::es) [] pos) (Gs sp [] E0 t):=by
  obtain ⟨f,fd,hm,hk,F,hb⟩:=h;exact Hy F hr hg hm hk hb .nil JW ha hdb he hpl
end
structure DefAt (K:PySem.W.Frag) (mg:Str->Option Value) (x:Str) (st:Stmt) (ps:List Str) (f:Addr) (fd:FuncData):Prop where
  fn:Fun K x x st f fd
  at':mg x=some (.ref f)
  bi:Binds K fd ps []
theorem DefAt.call {P:Program} {w:World} {K:PySem.W.Frag} {mg:Str->Option Value} {base:Heap} {x:Str} {st:Stmt} {ps:List Str} {f:Addr} {fd:FuncData} {k:Nat} {sp:Sp} (d:DefAt K mg x st ps f fd)
    (F:FnOk P w K mg base CX0 k f fd ps sp):AS P w K mg base x k ps sp:=⟨f,fd,d.at',d.fn.kp,F,d.bi⟩
def Jy:V->Bool | .int _=>true | _=>false
def LB:V->Bool | .bl _=>true | _=>false
def Ty (K:PySem.W.Frag) (H:Hp) (x:V):Prop:=∃ n,TyOf K H x (.type n)
def Pg (n T:String):Option Bool:=if (Value.type n == Value.type T)=true then some true else if PySem.W.kitMeta T=true then (fastBuiltinMro n).map (·.contains (.type T)) else none
section
variable {K:PySem.W.Frag} {H:Hp} {x:V} {n:String}
theorem kb {n T:String} {b:Bool} (h:Pg n T=some b):PySem.W.kitOne K (.type n) (.type T)=some b:=h
theorem Kq (h:TyOf K H x (.type n)):PySem.W.kitOne K (.type n) (.type "int")=some (Jy x||LB x):=by
  cases h <;> first
    | exact (show PySem.W.kitOne K _ _=some true from kb (by decide +kernel))
    | exact (show PySem.W.kitOne K _ _=some false from kb (by decide +kernel))
theorem JX (h:TyOf K H x (.type n)):PySem.W.kitOne K (.type n) (.type "bool")=some (LB x):=by
  cases h <;> first
    | exact (show PySem.W.kitOne K _ _=some true from kb (by decide +kernel))
    | exact (show PySem.W.kitOne K _ _=some false from kb (by decide +kernel))
end
section
variable {X:Cx}
def Own (mg:Str->Option Value) (names:List Str):Prop:=∀ x∈names,mg x=none
theorem FC:bootBuiltins "all"=some (.builtin "all"):=by decide +kernel
theorem Ht {x:Str} {T:String} {pos:Pos} (hg:Gl X x) (hm:X.mg x=none) (hv:bootBuiltins x=some (.type T)) (hn:x≠"__name__":=by decide) (hd:(x == ("__debug__":Str))=false:=by decide):PE X (.Name x pos) (tC (.ty T)):=
  Kd hg hm hv (show RelV (.ty T) (.type T) from rfl) hn hd
end
def DP (N:List Str) (scope:Scope):List (Str × Nat):=scope.names.filterMap λ y=>if y.2= .free then (N.findIdx? λ n=>decide (n=y.1)).map λ i=>(y.1,i) else none
def CH (sc:Scope) (N:List Str) (scope:Scope) (own:List Str) (fr:List (Str × Nat)):Bool:=
  decide (scope.kind= .function)&&
  (scope.names.all λ y=>decide (y.2≠ .cell)&&(decide (y.2≠ .local)||decide (scope.names.lookup y.1=some .local))&&
    (decide (y.2≠ .free)||((decide (sc.names.lookup y.1=some .cell)||decide (sc.names.lookup y.1=some .free))&&decide (scope.names.lookup y.1=some .free))))&&
  (fr.all λ p=>decide (N[p.2]?=some p.1)&&decide ((p.1,NameKind.free)∈scope.names))&&
  (own.all λ x=>decide (scope.names.lookup x=some .local))&&decide ((own++fr.map (·.1)).Nodup)
section
variable {X:Cx} {scope:Scope} {own:List Str} {fr:List (Str × Nat)}
theorem BlkScope.of (h:CH X.env.scope X.N scope own fr=true):BlkScope X scope own fr:=by
  unfold CH at h;simp only [Bool.and_eq_true,List.all_eq_true,decide_eq_true_iff,Bool.or_eq_true] at h;obtain ⟨⟨⟨⟨h1,h2⟩,h3⟩,h4⟩,h5⟩:=h;exact ⟨h1,λ y hy=>(h2 y hy).1.1,λ y hy e=>(h2 y hy).1.2.resolve_left (λ z=>z e),λ y hy e=>((h2 y hy).2.resolve_left (λ z=>z e)).1,λ p hp=>h3 p hp,λ x hx=>((h2 _ hx).2.resolve_left (λ z=>z rfl)).2⟩
theorem Ia (h:CH X.env.scope X.N scope own fr=true):(∀ x∈own,scope.names.lookup x=some .local)/\(own++fr.map (·.1)).Nodup:=by
  unfold CH at h;simp only [Bool.and_eq_true,List.all_eq_true,decide_eq_true_iff,Bool.or_eq_true] at h;exact ⟨h.1.2,h.2⟩
theorem Ew {i:Nat} {x:Str} {px:Pos} (h:CH X.env.scope X.N scope own fr=true) (hi:own[i]?=some x) (C:Addr) (ex:List Addr) (s:Shared) (H:Hp):PG (AD X scope own fr C ex s H) (.Name x px) (AB i):=by
  obtain ⟨h1,h2⟩:=Ia h;have hl:(relabel scope X.env).names.lookup x=some .local:=lookup_relabel_local (h1 x (List.mem_of_getElem? hi));have hlt:=(List.getElem?_eq_some_iff.mp hi).1;refine AU h2 ?_ (.inl hl) (.inr hl);show (own++fr.map (·.1))[i]?=some x;rw [List.getElem?_append_left hlt];exact hi
theorem AN {elt iter:Expr} {x:Str} {px:Pos} {ifs:List Expr} {pos:Pos} {wi:TI} {tc:TT} {te:TE} (hi:PI X (.Name x px) iter wi)
    (ht:∀ C ex s H,PTs (AD X scope [x] (DP X.N scope) C ex s H) ifs tc) (he:∀ C ex s H,PE (AD X scope [x] (DP X.N scope) C ex s H) elt te)
    (hb:CH X.env.scope X.N scope [x] (DP X.N scope)=true:=by with_unfolding_all rfl) (hc:X.calm=true:=by rfl)
    (hs:∀ x,foldedSetIterable iter X.env x=pure x:=by intro _;rfl):PE X (.ListComp elt [⟨.Name x px,iter,ifs,0⟩] scope pos) (Ek wi [x] (DP X.N scope) (AB 0) tc te):=
  FG hc (.of hb) hi (λ C ex s H=>Ew hb rfl C ex s H) ht he hs
theorem GF {i:Nat} {y x:Str} {py px spos:Pos} {elt iter:Expr} {ifs:List Expr} {pos:Pos} {wi:TI} {tc:TT} {te:TE} (hN:X.N.Nodup) (hix:X.N[i]?=some y) (hx:Loc X.env.scope y) (hi:PI X (.Name x px) iter wi)
    (ht:∀ C ex s H,PTs (AD X scope [x] (DP X.N scope) C ex s H) ifs tc) (he:∀ C ex s H,PE (AD X scope [x] (DP X.N scope) C ex s H) elt te)
    (hb:CH X.env.scope X.N scope [x] (DP X.N scope)=true:=by with_unfolding_all rfl) (hc:X.calm=true:=by rfl)
    (hsw:swapsWith (.ListComp elt [⟨.Name x px,iter,ifs,0⟩] scope pos) (some (.Name y py)) spos.line X.env=pure true:=by rfl)
    (hf:X.fn y=true\/X.env.scope.names.lookup y=some .local:=by first | exact .inl rfl | exact .inr rfl | assumption)
    (hs:∀ x,foldedSetIterable iter X.env x=pure x:=by intro _;rfl):
    PS X (.Assign [.Name y py] (.ListComp elt [⟨.Name x px,iter,ifs,0⟩] scope pos) spos) (Ka (Ek wi [x] (DP X.N scope) (AB 0) tc te) (AB i)):=
  Kg hN hix hx hc (.of hb) hi (λ C ex s H=>Ew hb rfl C ex s H) ht he hsw hf hs
end
def Mg (K:PySem.W.Frag):List V->Hp->VK->Prop:=λ xs H Q=>∃ x n,xs=[x]/\M7 K x H n/\Q (.int n) H
def Nh (K:PySem.W.Frag):List V->Hp->VK->Prop:=λ xs H Q=>∃ (p:Addr) (ns:List Int),xs=[.ref p]/\SqL K H p (ns.map V.int)/\Q (.int ns.sum) H
def Ng (K:PySem.W.Frag):List V->Hp->VK->Prop:=λ xs H Q=>∃ (p:Addr) (bs:List Bool),xs=[.ref p]/\SqL K H p (bs.map V.bl)/\Q (.bl (bs.all id)) H
def Lg (K:PySem.W.Frag):List V->Hp->VK->Prop:=λ xs H Q=>∃ x n t b,xs=[x, .ty n]/\TyOf K H x t/\PySem.W.kitOne K t (.type n)=some b/\Q (.bl b) H
def HJ (K:PySem.W.Frag):List V->Hp->VK->Prop:=λ xs H Q=>∃ p ys,xs=[.ref p]/\(SqL K H p ys\/SqT K H p ys)/\∀ l,H l=none->Q (.ref l) (upd H l (.lst ys))
def Gz (K:PySem.W.Frag):List V->Hp->VK->Prop:=λ xs H Q=>∃ p ys,xs=[.ref p]/\((SqL K H p ys/\∀ l,H l=none->Q (.ref l) (upd H l (.tup ys)))\/(SqT K H p ys/\Q (.ref p) H))
section
variable {X:Cx} {K:PySem.W.Frag}
theorem CF (hK:X.K=K:=by rfl):AR X (.builtin "len") (Mg K):=by subst hK;exact IH
theorem MZ (hK:X.K=K:=by rfl) (hc:X.calm=true:=by rfl):AR X (.builtin "sum") (Nh K):=by subst hK;exact JY hc
theorem Lu (hK:X.K=K:=by rfl) (hc:X.calm=true:=by rfl):AR X (.builtin "all") (Ng K):=by subst hK;exact JH hc
theorem GS (hK:X.K=K:=by rfl):AR X (.builtin "isinstance") (Lg K):=by subst hK;exact Gn
theorem Me (hK:X.K=K:=by rfl):AR X (.type "list") (HJ K):=by subst hK;exact FO
theorem J6 (hK:X.K=K:=by rfl):AR X (.type "tuple") (Gz K):=by subst hK;exact EW
theorem BV (hK:X.K=K:=by rfl):IxR X (LR K):=by subst hK;exact Kj
theorem HH (hK:X.K=K:=by rfl):IxR X (MF K):=by subst hK;exact MK
theorem Es (hK:X.K=K:=by rfl):OpR X (binaryOp .Add) (Jb K):=by subst hK;exact KQ
theorem JD (hu:X.A.units<cLine) (hK:X.K=K:=by rfl):OpR X (compareOp .NotEq) (Ku K true):=by subst hK;exact Mu hu
theorem ND (hK:X.K=K:=by rfl):SlR X (L8 K):=by subst hK;exact Kc
theorem B9 {tg l:Expr} {tl:TE} (hl:PE X l tl) (hK:X.K=K:=by rfl):PI X tg l (JV K tl):=by subst hK;exact J9 hl
theorem GD {tg l:Expr} {tl:TE} (hl:PE X l tl) (hK:X.K=K:=by rfl):PI X tg l (L5 K tl):=by subst hK;exact LL hl
end
section
variable {X:Cx} {pins:List (Addr × Obj)} {σ:St} {H:Hp} {s:Shared} {h':Heap}
theorem Inv.turnedL {t':Nat} (ch:List Addr) (I:Inv X pins σ H s) (hf:∀ b∈ch,Ck X pins H b) (k:∀ b o,b∉ch->s.heap.get? b=some o->h'.get? b=some o):Inv X pins σ H { s with heap:=h',toks:=t' }:=by
  have nit:∀ b u,H b=some u->b∉ch:=λ b u e z=>by rw [(hf b z).1] at e;cases e
  refine I.step (g':=s.gens) (d':=s.drawn) (ch:=ch) (λ b hb=> ?_) (λ b o _ _ hc e _=>k b o hc e) (λ b o _ _ hc e _=>⟨o.slots,k b o hc e⟩) (λ _ _ _ _ n=>n)
    (λ b o hc e=>⟨o,k b o hc e⟩) (λ _ _ e=>e) (λ _ _ _ e=>e) (λ b ps e=>⟨#[],by rw [e];simp⟩) (λ m hm=> ?_) (λ b u e=> ?_) I.bare
  · obtain ⟨f0,f1,f2,f3,f4,f5⟩:=hf b hb;exact ⟨f3,f1,f4,f5⟩
  · obtain ⟨o,es,ep,ho,r⟩:=hm;exact ⟨o,es,ep,k _ o (λ z=>(hf _ z).2.1 rfl) ho,r⟩
  · refine (I.hok b u e).stay (λ c v hc q=>k c v ?_ q) (λ _ q=>q) λ _ _ q=>q;rcases hc with z | z
    · rw [z];exact nit b u e
    · exact nit c _ z
end
def Ite (K:PySem.W.Frag) (a:Addr):It:=
  ⟨λ i H=>∃ xs x,SqL K H a xs/\xs[i]?=some x,λ i H v H'=>∃ p x,H p=none/\v= .ref p/\H'=upd H p (.tup [.int i,x])/\∀ xs,SqL K H a xs->xs[i]?=some x,λ i H=>∃ xs,SqL K H a xs/\xs.length<=i⟩
theorem IV {X:Cx} {pins:List (Addr × Obj)} {H:Hp} {b p:Addr} {o:HO} (h:Ck X pins H b) (n:b≠p):Ck X pins (upd H p o) b:=⟨by rw [Aj n];exact h.1,h.2⟩
theorem IF {P:Program} {w:World} {K:PySem.W.Frag} {elts:List Expr} {k:Nat} {pos:Pos} (a e it:Addr) (hne:e≠it):
    Turn P w K (.Tuple elts k pos) (Ite K a) [e,it] e (λ i h=>(∃ old,IsEnum h e it i old)/\h.IsListIter it a i) where
  mem:=by simp
  obj:=λ i h st b hb=>by
    obtain ⟨⟨old,he⟩,o,eo,c,d⟩:=st;rcases List.mem_cons.mp hb with z | z
    · subst z;exact ⟨_,he,λ v z=>by cases (show Data.fields _=Data.cell v from z)⟩
    · have z:b=it:=by simpa using z
      subst z;exact ⟨o,eo,λ v z=>by rw [d] at z;cases z⟩
  keep:=λ i h h' st kp=>by
    obtain ⟨⟨old,he⟩,hi⟩:=st;exact ⟨⟨old,kp e (by simp) _ he⟩,hi.at λ o z=>kp it (by simp) o z⟩
  item:=by
    intro X hP hw hK hc i pins s σ H E I hf st hg;subst hP hw hK;obtain ⟨xs,x,hq,hx⟩:=hg;obtain ⟨its,rv,p,hz⟩:=I.list hq;obtain ⟨u,hu,ru⟩:=rv.get hx;obtain ⟨⟨old,he⟩,hi⟩:=st;have hel:e<s.heap.objs.size:=Heap.lt_size he;have hil:it<s.heap.objs.size:=by obtain ⟨_,z,_⟩:=hi;exact Heap.lt_size z
    refine wpAny_pyNext_enum_item he hi p.isList (x:=u) (by simpa using hu) hne λ h' ho hi' hT hsz hk=> ?_;have I0:=I.laid (h':=s.heap.push { cls:= .type "tuple",data:= .seq #[.int i s.toks,u] }) (a:=s.heap.objs.size) (o:= .tup [.int i,x]) (t':=s.toks+1) (λ _ _ q=>Heap.get?_push_of_some _ q) (Nat.le_refl _)
      ⟨(by show 2<=sizeLine;decide),[.int i s.toks,u], .cons ⟨_,rfl⟩ (.cons ru .nil),⟨_,Heap.get?_push_size _ rfl,rfl,_,rfl⟩⟩
    have f0:∀ b∈[e,it],Ck X pins (upd H s.heap.objs.size (.tup [.int i,x])) b:=λ b hb=>IV (hf b hb) (by
      rcases List.mem_cons.mp hb with z | z
      · rw [z];exact Nat.ne_of_lt hel
      · rw [show b=it by simpa using z];exact Nat.ne_of_lt hil)
    have I1:=Inv.turnedL (t':=s.toks+1) (h':=h') [e,it] I0 f0 (λ b o hb z=>by
      have hb1:b≠e:=λ q=>hb (by simp [q]);have hb2:b≠it:=λ q=>hb (by simp [q]);rcases Heap.get?_push_cases (show (s.heap.push { cls:= .type "tuple",data:= .seq #[.int i s.toks,u] }).get? b=some o from z) with ⟨q1,q2⟩ | q
      · rw [q1,q2];exact hT
      · exact hk b o hb1 hb2 q)
    refine ⟨.ref s.heap.objs.size,rfl,wpAny_letOwnedTupleGo_enum (s:={ s with heap:=h',toks:=s.toks+1 }) ho λ h2 he2 sb=> ?_⟩;refine ⟨.ref s.heap.objs.size,_,Inv.turnedL (t':=s.toks+1) (h':=h2) [e,it] I1 f0 (λ b o hb z=>(sb.2 b λ q=>hb (by simp [q])).trans z),rfl,⟨_,x,I.fresh,rfl,rfl,λ ys hy=>by rw [I.list_inj hy hq];exact hx⟩,⟨⟨u,by simpa using he2⟩,hi'.at λ o z=>(sb.2 it hne.symm).trans z⟩,λ b hb=>(f0 b hb).1⟩
  done:=by
    intro X hP hw hK hc i pins s σ H E I hf st hg;subst hP hw hK;obtain ⟨xs,hq,hx⟩:=hg;obtain ⟨its,rv,p,hz⟩:=I.list hq;obtain ⟨⟨old,he⟩,hi⟩:=st;have hl:=rv.length;exact wpAny_pyNext_enum_end (I.ok.hd hc) he hi p.isList (by simp;omega) λ h' eb=>⟨rfl,I.turnedL (t':=s.toks) [e,it] hf λ b o hb z=>eb b o (λ q=>hb (by simp [q])) z⟩
  self:=λ _ _ _ _ _ st h=>by
    obtain ⟨⟨old,he⟩,_⟩:=st;exact wpAny_pyIter_enum he h
section
variable {X:Cx} {elts:List Expr} {k:Nat} {tpos:Pos} {K:PySem.W.Frag}
def Ls (K:PySem.W.Frag) (ta:TA):TI:=λ σ H R=>ta σ H λ vs H1=>∃ a,vs=[.ref a]/\(∃ xs,SqL K H1 a xs)/\R (Ite K a) H1
theorem Fs:bootBuiltins "enumerate"=some (.type "enumerate"):=by decide +kernel
theorem Kn {l:Expr} {ta:TA} {p pos:Pos} (hg:Gl X "enumerate") (hm:X.mg "enumerate"=none) (ha:PA X [l] ta) (hK:X.K=K:=by rfl) (hs:starEach [l] X.env=[(false,eval l X.env)]:=by rfl):PI X (.Tuple elts k tpos) (.Call (.Name "enumerate" p) [l] [] pos) (Ls K ta):=by
  subst hK;intro pins s σ H R I h;refine Call_ (CS I hg hm Fs (PyProof.Rows.callWith_type1 (thn (ha pos pins s σ H _ I h) λ us s1 ⟨vs,H1,I1,r1,q1⟩=> ?_) hs rfl));obtain ⟨a,e,⟨xs,hq⟩,q⟩:=q1;subst e;cases r1 with
  | cons r rr=>
    cases rr;cases r;obtain ⟨its,rv,pl,hz⟩:=I1.list hq;refine call_enumerate_list pl.isList λ h' he hi hsz hk=> ?_;refine wpAny_pyIter_enum he ?_;have I2:=I1.kept (t':=s1.toks) hk;refine ⟨s1.heap.objs.size+1,[s1.heap.objs.size+1,s1.heap.objs.size],_,_,H1,rfl,I2,IF a _ _ (Nat.succ_ne_self _),⟨⟨_,he⟩,hi⟩,λ b hb=> ?_,q⟩;have hb':s1.heap.objs.size<=b:=by
      rcases List.mem_cons.mp hb with z | z
      · rw [z];exact Nat.le_succ _
      · have z:b=s1.heap.objs.size:=by simpa using z
        rw [z];exact Nat.le_refl _
    exact I1.fpOk hb' (I1.hok.fresh hb')
end
section
variable {X:Cx} {elts:List Expr} {k:Nat} {tpos:Pos} {K:PySem.W.Frag}
end
def BU (tp:Bool) (h:Heap) (it l:Addr) (i:Nat):Prop:=if tp=true then h.IsTupleIter it l i else h.IsListIter it l i
def DJ (tp:Bool) (h:Heap) (l:Addr) (xs:Array Value):Prop:=if tp=true then h.IsTuple l xs else h.IsList l xs
theorem CW {tp:Bool} {h h':Heap} {it l:Addr} {i:Nat} (x:BU tp h it l i) (k:∀ o,h.get? it=some o->h'.get? it=some o):BU tp h' it l i:=by
  cases tp with
  | false=>obtain ⟨o,e,r⟩:=(show h.IsListIter it l i from x);exact (show h'.IsListIter it l i from ⟨o,k o e,r⟩)
  | true=>obtain ⟨o,e,r⟩:=(show h.IsTupleIter it l i from x);exact (show h'.IsTupleIter it l i from ⟨o,k o e,r⟩)
theorem GN {tp:Bool} {h h':Heap} {l:Addr} {xs:Array Value} (x:DJ tp h l xs) (k:∀ o,h.get? l=some o->h'.get? l=some o):DJ tp h' l xs:=by
  cases tp with
  | false=>obtain ⟨o,e,r⟩:=(show h.IsList l xs from x);exact (show h'.IsList l xs from ⟨o,k o e,r⟩)
  | true=>obtain ⟨o,e,r⟩:=(show h.IsTuple l xs from x);exact (show h'.IsTuple l xs from ⟨o,k o e,r⟩)
theorem Cg {tp:Bool} {h:Heap} {it l:Addr} {i:Nat} (x:BU tp h it l i):∃ o,h.get? it=some o/\o.data= .fields #[.ref l, .int i 0]:=by
  cases tp with
  | false=>obtain ⟨o,e,_,d⟩:=(show h.IsListIter it l i from x);exact ⟨o,e,d⟩
  | true=>obtain ⟨o,e,_,d⟩:=(show h.IsTupleIter it l i from x);exact ⟨o,e,d⟩
theorem Fz {tp:Bool} {h:Heap} {l:Addr} {xs:Array Value} (x:DJ tp h l xs):∃ o n,h.get? l=some o/\o.data= .seq xs n:=by
  cases tp with
  | false=>obtain ⟨o,e,_,n,d⟩:=(show h.IsList l xs from x);exact ⟨o,n,e,d⟩
  | true=>obtain ⟨o,e,_,n,d⟩:=(show h.IsTuple l xs from x);exact ⟨o,n,e,d⟩
section
variable {prog:Program} {w:World} {A:Around} {E:Value->Shared->Prop} {s:Shared}
theorem IW {tp:Bool} {it l:Addr} {i:Nat} {xs:Array Value} {x:Value} {Q:Value->Shared->Prop} (ht:BU tp s.heap it l i) (hq:DJ tp s.heap l xs) (hx:xs[i]?=some x)
    (k:∀ h',BU tp h' it l (i+1)->Heap.SameBut it s.heap h'->Q x { s with heap:=h' }):wpAny (model prog w) A (Builtin.SmallTypes.nextOf (.ref it)) Q E s:=by
  cases tp with
  | false=>exact wpAny_nextOf_list_item (show s.heap.IsListIter it l i from ht) (show s.heap.IsList l xs from hq) hx k
  | true=>
    have ht:s.heap.IsTupleIter it l i:=ht;obtain ⟨ob,eb,cb,db⟩:=id ht;obtain ⟨ol,el,_,nl,dl⟩:=(show s.heap.IsTuple l xs from hq);unfold Builtin.SmallTypes.nextOf;refine wpAny_bind (wpAny_callSpecial?_slot (name:=Str.ofString "__next__") ht.typeIs F.slot_tuple_iterator_next (wpAny_call_entry F.slot_tuple_iterator_next ht.typeIs F.entry_tuple_iterator_next ?_ (F.args_tuple_iterator_next_1 _)));show wpAny _ _ (field (.ref it) 0 >>= _) _ _ s;refine wpAny_bind (wpAny_field eb db (x:= .ref l) rfl ?_);show wpAny _ _ (if (Value.ref l == Value.none)=true then _ else _) _ _ s;rw [if_neg (show ¬ ((Value.ref l == Value.none)=true) from Bool.false_ne_true)];show wpAny _ _ (field (.ref it) 1 >>= _) _ _ s;refine wpAny_bind (wpAny_field eb db (x:= .int i 0) rfl ?_);show wpAny _ _ (seqItems? (.ref l) >>= _) _ _ s;refine wpAny_bind (wpAny_seqItems el dl ?_);simp only [Int.toNat_natCast,hx];refine wpAny_bind (wpAny_setField eb db (by simp) (wpAny_pure ⟨x,rfl,wpAny_pure (k _ ?_ (Heap.SameBut.update ..))⟩));exact (show Heap.IsTupleIter _ it l (i+1) from ⟨_,Heap.get?_update_self _ eb (Obj.isFreed_of_fields (Obj.data_mapFields db _)),(Obj.cls_mapFields ..).trans cb,by rw [Obj.data_mapFields db];simp [rawInt]⟩)
theorem HK {tp:Bool} {it l:Addr} {i:Nat} {xs:Array Value} {Q:Value->Shared->Prop} (hh:A.handled=none) (ht:BU tp s.heap it l i) (hq:DJ tp s.heap l xs) (hx:xs[i]?=none)
    (k:∀ h' e,Heap.ExtBut it s.heap h'->(∃ o,h'.get? e=some o/\o.cls= .type "StopIteration")->E (.ref e) { s with heap:=h' }):wpAny (model prog w) A (Builtin.SmallTypes.nextOf (.ref it)) Q E s:=by
  cases tp with
  | false=>exact wpAny_nextOf_list_end hh (show s.heap.IsListIter it l i from ht) (show s.heap.IsList l xs from hq) hx k
  | true=>
    have ht:s.heap.IsTupleIter it l i:=ht;obtain ⟨ob,eb,cb,db⟩:=id ht;obtain ⟨ol,el,_,nl,dl⟩:=(show s.heap.IsTuple l xs from hq);unfold Builtin.SmallTypes.nextOf;refine wpAny_bind (wpAny_callSpecial?_slot (name:=Str.ofString "__next__") ht.typeIs F.slot_tuple_iterator_next (wpAny_call_entry F.slot_tuple_iterator_next ht.typeIs F.entry_tuple_iterator_next ?_ (F.args_tuple_iterator_next_1 _)));show wpAny _ _ (field (.ref it) 0 >>= _) _ _ s;refine wpAny_bind (wpAny_field eb db (x:= .ref l) rfl ?_);show wpAny _ _ (if (Value.ref l == Value.none)=true then _ else _) _ _ s;rw [if_neg (show ¬ ((Value.ref l == Value.none)=true) from Bool.false_ne_true)];show wpAny _ _ (field (.ref it) 1 >>= _) _ _ s;refine wpAny_bind (wpAny_field eb db (x:= .int i 0) rfl ?_);show wpAny _ _ (seqItems? (.ref l) >>= _) _ _ s;refine wpAny_bind (wpAny_seqItems el dl ?_);simp only [Int.toNat_natCast,hx];refine wpAny_bind (wpAny_rule (wpAny_bind (wpAny_setField eb db (by simp) ?_)));show wpAny _ _ (newExc (.type "StopIteration") [] >>= _) _ _ _;refine wpAny_bind ?_;simp only [newExc,newTuple];refine wpAny_bind (wpAny_newObj_type ?_ (by size_fits));refine wpAny_bind (m:=firstArgMember _ _) (wpAny_of_eq (a:=Value.none) (by first | rfl | (simp only [firstArgMember];rfl)) ?_);refine wpAny_newObj_type ?_ (by size_fits);simp only [raiseNew];refine wpAny_bind (wpAny_handled ?_)
    first | rw [show A.in1.handled=none from hh] | rw [hh]
    exact wpAny_bind (wpAny_pure (wpAny_throw (k _ _ (((Heap.SameBut.update ..).extBut.push _).push _) ⟨_,Heap.get?_push_size _ rfl,rfl⟩)))
end
section
variable {prog:Program} {w:World} {A:Around} {E:Value->Shared->Prop} {s:Shared}
structure ZipSt (t1 t2:Bool) (h:Heap) (z TI TO i1 i2 l1 l2:Addr) (k:Nat):Prop where
  hz:IsZip h z TI TO .none
  hTI:IsPair h TI (.ref i1) (.ref i2)
  hTO:∃ c d,IsPair h TO c d
  h1:BU t1 h i1 l1 k
  h2:BU t2 h i2 l2 k
def JC (tp:Bool):String:=if tp=true then "tuple_iterator" else "list_iterator"
theorem Jw {tp:Bool} {l:Addr} {xs:Array Value} {Q:Value->Shared->Prop} (hq:DJ tp s.heap l xs) (k:Q (.ref s.heap.objs.size) { s with heap:=s.heap.push { cls:= .type (JC tp),data:= .fields #[.ref l, .int 0 0] } }):
    wpAny (model prog w) A (pyIter (.ref l)) Q E s:=by
  cases tp with
  | false=>exact wpAny_pyIter_list (show s.heap.IsList l xs from hq) k
  | true=>exact wpAny_pyIter_tuple (show s.heap.IsTuple l xs from hq) k
theorem Ic {tp:Bool} {h:Heap} {l:Addr}:BU tp (h.push { cls:= .type (JC tp),data:= .fields #[.ref l, .int 0 0] }) h.objs.size l 0:=by
  cases tp with
  | false=>exact (show Heap.IsListIter _ _ l 0 from ⟨_,Heap.get?_push_size _ rfl,rfl,rfl⟩)
  | true=>exact (show Heap.IsTupleIter _ _ l 0 from ⟨_,Heap.get?_push_size _ rfl,rfl,rfl⟩)
end
def SqS (tp:Bool) (K:PySem.W.Frag) (H:Hp) (a:Addr) (xs:List V):Prop:=if tp=true then SqT K H a xs else SqL K H a xs
theorem FS {X:Cx} {pins:List (Addr × Obj)} {σ:St} {H:Hp} {s:Shared} {tp:Bool} {a:Addr} {xs:List V} (I:Inv X pins σ H s) (h:SqS tp X.K H a xs):∃ its:List Value,Vals xs its/\DJ tp s.heap a its.toArray:=by
  cases tp with
  | false=>
    obtain ⟨its,r,p,_⟩:=I.list (show SqL X.K H a xs from h);exact ⟨its,r,(show s.heap.IsList a its.toArray from p.isList)⟩
  | true=>
    obtain ⟨its,r,p,_⟩:=I.tuple (show SqT X.K H a xs from h);exact ⟨its,r,(show s.heap.IsTuple a its.toArray from p)⟩
theorem KU {X:Cx} {pins:List (Addr × Obj)} {σ:St} {H:Hp} {s:Shared} {tp:Bool} {a:Addr} {xs ys:List V} (I:Inv X pins σ H s) (h:SqS tp X.K H a xs) (h2:SqS tp X.K H a ys):xs=ys:=by
  cases tp with
  | false=>exact I.list_inj h h2
  | true=>exact I.tuple_inj h h2
section
variable {X:Cx} {elts:List Expr} {k:Nat} {tpos:Pos} {K:PySem.W.Frag}
end
section
variable {X:Cx} {K:PySem.W.Frag}
theorem EE:bootBuiltins "list"=some (.type "list"):=by decide +kernel
theorem Gg:bootBuiltins "tuple"=some (.type "tuple"):=by decide +kernel
theorem HN:bootBuiltins "min"=some (.builtin "min"):=by decide +kernel
theorem Ih:bootBuiltins "max"=some (.builtin "max"):=by decide +kernel
variable {scope:Scope} {fr:List (Str × Nat)}
theorem Kh {x y:Str} {px py pt:Pos} {k:Nat} (h:CH X.env.scope X.N scope [x,y] fr=true) (hc:X.calm=true) (C:Addr) (ex:List Addr) (s:Shared) (H:Hp) (hK:X.K=K:=by rfl):
    PG (AD X scope [x,y] fr C ex s H) (.Tuple [.Name x px, .Name y py] k pt) (G4 K 2 (Bx (AB 0) (Bx (AB 1) Hn))):=by
  subst hK;exact Md (X:=AD X scope [x,y] fr C ex s H) hc (GJ (Ew h rfl C ex s H) (GJ (Ew h rfl C ex s H) KY))
theorem Ez {elt iter:Expr} {x y:Str} {px py pt:Pos} {k:Nat} {ifs:List Expr} {pos:Pos} {wi:TI} {tc:TT} {te:TE} (hi:PI X (.Tuple [.Name x px, .Name y py] k pt) iter wi)
    (ht:∀ C ex s H,PTs (AD X scope [x,y] (DP X.N scope) C ex s H) ifs tc) (he:∀ C ex s H,PE (AD X scope [x,y] (DP X.N scope) C ex s H) elt te) (hK:X.K=K:=by rfl)
    (hb:CH X.env.scope X.N scope [x,y] (DP X.N scope)=true:=by with_unfolding_all rfl) (hc:X.calm=true:=by rfl)
    (hs:∀ x,foldedSetIterable iter X.env x=pure x:=by intro _;rfl):PE X (.ListComp elt [⟨.Tuple [.Name x px, .Name y py] k pt,iter,ifs,0⟩] scope pos) (Ek wi [x,y] (DP X.N scope) (G4 K 2 (Bx (AB 0) (Bx (AB 1) Hn))) tc te):=
  FG hc (.of hb) hi (λ C ex s H=>Kh hb hc C ex s H hK) ht he hs
end
section
variable {K:PySem.W.Frag} {D:Addr} {σ0:St} {tc:TT} {te:TE} {Q:VK} {H:Hp}
end
inductive Dt where
  | non | bl (b:Bool) | int (i:Int) | str (z:Str) | lst (xs:List Dt) | tup (xs:List Dt)
inductive Rp (H:Hp) (F:Addr->Prop):Nat->V->Dt->Prop where
  | non {n:Nat}:Rp H F n .non .non
  | bl {n:Nat} (b:Bool):Rp H F n (.bl b) (.bl b)
  | int {n:Nat} (i:Int):Rp H F n (.int i) (.int i)
  | str {n:Nat} (z:Str):Rp H F n (.str z) (.str z)
  | lst {n:Nat} {a:Addr} {vs:List V} {ds:List Dt} (h:H a=some (.lst vs)) (f:F a) (b:vs.length<=100000) (l:vs.length=ds.length) (e:∀ (i:Nat) (v:V) (d:Dt),vs[i]?=some v->ds[i]?=some d->Rp H F n v d):Rp H F (n+1) (.ref a) (.lst ds)
  | tup {n:Nat} {a:Addr} {vs:List V} {ds:List Dt} (h:H a=some (.tup vs)) (b:vs.length<=100000) (l:vs.length=ds.length) (e:∀ (i:Nat) (v:V) (d:Dt),vs[i]?=some v->ds[i]?=some d->Rp H F n v d):Rp H F (n+1) (.ref a) (.tup ds)
theorem Rp.mono {H H':Hp} {F F':Addr->Prop} {n:Nat} {v:V} {d:Dt} (r:Rp H F n v d) (k:∀ a o,H a=some o->(∀ xs,o= .lst xs->F a)->H' a=some o) (f:∀ a,F a->F' a):Rp H' F' n v d:=by
  induction r with
  | non=>exact .non
  | bl b=>exact .bl b
  | int i=>exact .int i
  | str z=>exact .str z
  | lst h p b l e ih=>exact .lst (k _ _ h λ _ _=>p) (f _ p) b l λ i v d h1 h2=>ih i v d h1 h2
  | tup h b l e ih=>exact .tup (k _ _ h λ xs q=>by cases q) b l λ i v d h1 h2=>ih i v d h1 h2
theorem Rp.same {H H':Hp} {F:Addr->Prop} {n:Nat} {v:V} {d:Dt} (r:Rp H F n v d) (s:Same H H'):Rp H' F n v d:=r.mono (λ a o h _=>s a o h) λ _ h=>h
theorem Rp.imp {H:Hp} {F F':Addr->Prop} {n:Nat} {v:V} {d:Dt} (r:Rp H F n v d) (f:∀ a,F a->F' a):Rp H F' n v d:=r.mono (λ a o h _=>h) f
abbrev FT:Addr->Prop:=λ _=>True
abbrev FN (H:Hp):Addr->Prop:=λ a=>H a=none
theorem Rp.any {H:Hp} {F:Addr->Prop} {n:Nat} {v:V} {d:Dt} (r:Rp H F n v d):Rp H FT n v d:=r.imp λ _ _=>trivial
def LC (ns:List Int):Dt:= .lst (ns.map .int)
theorem Hx {H:Hp} {F:Addr->Prop} {n:Nat} {v:V} {ns:List Int} (r:Rp H F n v (LC ns)):∃ a,v= .ref a/\H a=some (.lst (ns.map V.int))/\F a:=by
  unfold LC at r;cases r with
  | @lst n a vs _ h f b l e=>
    refine ⟨a,rfl,?_,f⟩;rw [h];congr 2;refine List.ext_getElem (by simpa using l) λ i h1 h2=> ?_;have h2':i<ns.length:=by simpa using h2
    have:=e i vs[i] (.int ns[i]) (by simp [h1]) (by simp [h2']);cases hv:vs[i] <;> rw [hv] at this <;> cases this;simp
section
variable {t u:TS} {D:Ends} {σ:St} {H:Hp} {te ta tb tk:TE} {tt tu:TT} {g:TG} {Q:VK} {QT:Bool->Hp->Prop} {QA:List V->Hp->Prop} {i:Nat} {v x y:V} {r:R2} {tr:TA} {K:PySem.W.Frag}
theorem Kt (h:D.nx σ H):Lw D σ H:=h
theorem LO (h:te σ H λ x H1=>g x σ H1 D.nx):Ka te g D σ H:=h
theorem Ky {QS:St->Hp->Prop} (h:QS (σ.set i (some v)) H):AB i v σ H QS:=h
theorem LM (e:σ[i]?=some (some v)) (h:Q v H):LK i σ H Q:=⟨v,e,h⟩
theorem Ov (h:Q v H):tC v σ H Q:=h
theorem Nz (h:ta σ H λ x H1=>tb σ H1 λ y H2=>r x y H2 Q):tOp r ta tb σ H Q:=h
theorem Ax {C:Int->Int->Prop} {gg:Int->Int->V} {a b:Int} (c:C a b) (h:Q (gg a b) H):rI C gg (.int a) (.int b) H Q:=⟨a,b,rfl,rfl,c,h⟩
theorem Mj {gg:Int->Int->V} {a b:Int} (h:Q (gg a b) H):rI0 gg (.int a) (.int b) H Q:=⟨a,b,rfl,rfl,h⟩
theorem ML {a b:Int} (h:Q (.bl (decide (a=b))) H):rEq (.int a) (.int b) H Q:=⟨rfl,by rw [show decide (V.int a=V.int b)=decide (a=b) by rw [Bool.eq_iff_iff];simp];exact h⟩
theorem MA {a b:Int} (h:Q (.bl (!decide (a=b))) H):rNe (.int a) (.int b) H Q:=⟨rfl,by rw [show decide (V.int a=V.int b)=decide (a=b) by rw [Bool.eq_iff_iff];simp];exact h⟩
theorem L9 (h:tt σ H λ c H1=>QT (!c) H1):NC tt σ H QT:=h
theorem K6 (h:te σ H λ x H'=>∃ k,x= .bl k/\QT k H'):Lz te σ H QT:=h
theorem Nb (h:te σ H λ x H'=>∃ k,x= .bl k/\QT k H'):tB te σ H QT:=h
theorem MU {b:Bool} {R:Bool->Prop} (h:R b):∃ k,V.bl b= .bl k/\R k:=⟨b,rfl,h⟩
theorem M1 (h:tt σ H λ c H1=>if c=true then QT true H1 else tu σ H1 QT):tOr tt tu σ H QT:=h
theorem Mx (h:tt σ H λ c H1=>if c=true then tu σ H1 QT else QT false H1):Nr tt tu σ H QT:=h
theorem KS (h:ta σ H λ x H1=>∃ c,x= .bl c/\if c=true then tb σ H1 Q else Q (.bl false) H1):Ly ta tb σ H Q:=h
theorem K2 (h:ta σ H λ x H1=>∃ c,x= .bl c/\Q (.bl (!c)) H1):Lq ta σ H Q:=h
theorem MP (h:tt σ H λ b H1=>if b=true then t D σ H1 else u D σ H1):Nk tt t u D σ H:=h
theorem Nc (h:tt σ H λ c H1=>if c=true then ta σ H1 Q else tb σ H1 Q):tIf tt ta tb σ H Q:=h
theorem LT (h:te σ H D.rt):NF te D σ H:=h
theorem Kx (h:te σ H λ _ H1=>D.nx σ H1):Lk te D σ H:=h
theorem MI (h:QA [] H):Lb σ H QA:=h
theorem KR (h:te σ H λ x H1=>tr σ H1 λ xs H2=>QA (x::xs) H2):Lr te tr σ H QA:=h
theorem Mi (h:tr σ H λ xs H1=>xs.length<=sizeLine/\∀ p,H1 p=none->Q (.ref p) (upd H1 p (.lst xs))):Na tr σ H Q:=h
theorem LY (h:tr σ H λ xs H1=>xs.length<=sizeLine/\∀ p,H1 p=none->Q (.ref p) (upd H1 p (.tup xs))):MY tr σ H Q:=h
theorem MT {rr:List V->Hp->VK->Prop} (h:tr σ H λ vs H1=>rr vs H1 Q):tCB rr tr σ H Q:=h
theorem KH {sp:Sp} {E:XK} (h:tr σ H λ vs H1=>sp vs H1 Q E):Gs sp [] E tr σ H Q:=by
  unfold Gs;simpa using h
theorem MW {rs:V->Option Int->Option Int->Hp->VK->Prop} {tl th:TO} (h:te σ H λ x H1=>tl σ H1 λ l H2=>th σ H2 λ u H3=>rs x l u H3 Q):tSl rs te tl th σ H Q:=h
theorem KL {QO:Option Int->Hp->Prop} (h:te σ H λ x H1=>∃ i,x= .int i/\QO (some i) H1):Lm te σ H QO:=h
theorem Iv {QO:Option Int->Hp->Prop} (h:QO none H):HD σ H QO:=h
theorem Ms {a:Int} {R:Int->Prop} (h:R a):∃ k,V.int a= .int k/\R k:=⟨a,rfl,h⟩
theorem Mv {p:Addr} {xs:List V} {lo hi:Option Int} (c:SqL K H p xs) (h:∀ q,H q=none->Q (.ref q) (upd H q (.lst (FM xs lo hi)))):L8 K (.ref p) lo hi H Q:=⟨p,xs,rfl,c,h⟩
theorem AX {p:Addr} {xs:List V} (c:SqL K H p xs) (h:Q (.int xs.length) H):Mg K [.ref p] H Q:=⟨_,_,rfl, .inl ⟨xs,c,rfl⟩,h⟩
theorem KA {p:Addr} {xs:List V} (c:SqT K H p xs) (h:Q (.int xs.length) H):Mg K [.ref p] H Q:=⟨_,_,rfl, .inr ⟨xs,c,rfl⟩,h⟩
theorem MB {p:Addr} {ns:List Int} (c:SqL K H p (ns.map V.int)) (h:Q (.int ns.sum) H):Nh K [.ref p] H Q:=⟨p,ns,rfl,c,h⟩
theorem IQ {p:Addr} {bs:List Bool} (c:SqL K H p (bs.map V.bl)) (h:Q (.bl (bs.all id)) H):Ng K [.ref p] H Q:=⟨p,bs,rfl,c,h⟩
theorem Dd {n:String} {ty:Value} {b:Bool} (c:TyOf K H x ty) (e:PySem.W.kitOne K ty (.type n)=some b) (h:Q (.bl b) H):Lg K [x, .ty n] H Q:=⟨x,n,ty,b,rfl,c,e,h⟩
theorem A8 {p:Addr} {xs:List V} {k:Int} (c:SqL K H p xs) (e:atI xs k=some v) (h:Q v H):LR K (.ref p) (.int k) H Q:=⟨p,xs,k,v,rfl,rfl,c,e,h⟩
theorem F4 {p:Addr} {xs:List V} {k:Int} (c:SqT K H p xs) (e:atI xs k=some v) (h:Q v H):MF K (.ref p) (.int k) H Q:=⟨p,xs,k,v,rfl,rfl,c,e,h⟩
theorem Mz {xs:List V} {B:Prop} (c:xs.length<=1000) (h:B):xs.length<=sizeLine/\B:=⟨Nat.le_trans c (by decide),h⟩
end
def Fj:Dt->Bool | .lst _=>true | _=>false
def Ff:Dt->Bool | .tup _=>true | _=>false
theorem SqS.same {K:PySem.W.Frag} {H H':Hp} {tp:Bool} {p:Addr} {xs:List V} (c:SqS tp K H p xs) (s:Same H H'):SqS tp K H' p xs:=by
  cases tp with
  | false=>exact (show SqL K H' p xs from s.seq c)
  | true=>
    rcases (show SqT K H p xs from c) with (q | ⟨o,q⟩) | q
    · exact (show SqT K H' p xs from .inl (.inl (s _ _ q)))
    · exact (show SqT K H' p xs from .inl (.inr ⟨o,s _ _ q⟩))
    · exact (show SqT K H' p xs from .inr q)
theorem Ae {H:Hp} {p:Addr} {o:HO} (h:H p=none):Same H (upd H p o):=λ b u e=>by rw [Aj (Ar e h)];exact e
theorem DY {H H':Hp} {D:Addr} {o:HO} (s:Same H H') (h:H D=none):Same H (upd H' D o):=λ b u e=>by rw [Aj (Ar e h)];exact s b u e
structure SrcOk (J:It) (g:TG) (σ0:St) (H:Hp) (n:Nat) (st:Nat->St):Prop where
  go:∀ i H',i<n->Same H H'->J.go i H'
  stop:∀ H',Same H H'->J.stop n H'
  yld:∀ i H' x H'' (R:St->Hp->Prop),i<n->Same H H'->J.yld i H' x H''->(∀ H3,Same H' H3->R (st i) H3)->g x σ0 H'' R
  kp:∀ i,i<n->Kp σ0 (st i)
section
variable {J:It} {g:TG} {σ0:St} {H:Hp} {n:Nat} {st:Nat->St} {tc:TT} {te:TE} {Q:VK} {D:Addr}
theorem Rp.off {H:Hp} {F:Addr->Prop} {m:Nat} {v:V} {d:Dt} {D:Addr} {xs:List V} {o:HO} (r:Rp H F m v d) (hD:H D=some (.lst xs)) (hF:¬ F D):Rp (L2.upd H D o) F m v d:=by
  refine r.mono (λ a u e q=> ?_) λ _ h=>h;have n:a≠D:=λ z=>by
    subst z;rw [hD] at e;cases e;exact hF (q _ rfl)
  rw [Aj n];exact e
theorem Do {m:Nat} {p:Nat->Bool} {G:Nat->Dt} (S:SrcOk J g σ0 H n st) (hD:H D=none) (hn:n<=100000)
    (ht:∀ i H' (R:Bool->Hp->Prop),i<n->Same H H'->(∀ H3,Same H' H3->R (p i) H3)->tc (st i) H' R)
    (he:∀ i H' (R:VK),i<n->p i=true->Same H H'->(∀ H3 y,Same H' H3->Rp H3 (FN H') m y (G i)->R y H3)->te (st i) H' R)
    (hd:∀ H' ys,Same H H'->H' D=some (.lst ys)->Rp H' (FN H) (m+1) (.ref D) (.lst (((List.range n).filter p).map G))->Q (.ref D) H'):
    Da J σ0 g tc te Q H D:=by
  refine ⟨λ i k ys H'=>k=n - i/\i<=n/\Same H H'/\H' D=some (.lst ys)/\ys.length=(((List.range i).filter p).map G).length/\∀ (j:Nat) (y:V) (d:Dt),ys[j]?=some y->(((List.range i).filter p).map G)[j]?=some d->Rp H' (λ a=>H a=none/\a≠D) m y d,
    ⟨_,rfl,Nat.zero_le _,DY (Same.refl _) hD,Ad,rfl,λ j y d q=>by simp at q⟩,?_⟩
  rintro i k ys H1 ⟨rfl,hi,s1,hl,len,el⟩;have bnd:∀ i,(((List.range i).filter p).map G).length<=i:=λ i=>by
    rw [List.length_map];exact Nat.le_trans (List.length_filter_le _ _) (by simp)
  by_cases hlt:i<n
  · refine .inr ⟨S.go i H1 hlt s1,λ ys' H'=>Same H H'/\H' D=some (.lst ys')/\ys'.length=(((List.range (i+1)).filter p).map G).length/\∀ (j:Nat) (y:V) (d:Dt),ys'[j]?=some y->(((List.range (i+1)).filter p).map G)[j]?=some d->Rp H' (λ a=>H a=none/\a≠D) m y d,
      λ ys' H' q=>⟨n - (i+1),by omega,rfl,hlt,q⟩,λ x H2 y=> ?_⟩
    refine S.yld i H1 x H2 _ hlt s1 y λ H3 s3=>⟨S.kp i hlt,?_⟩;refine ht i H3 _ hlt (s1.trans s3) λ H4 s4=> ?_;have hl4:H4 D=some (.lst ys):=s4 _ _ (s3 _ _ hl);have s14:Same H H4:=s1.trans (s3.trans s4);cases hp:p i with
    | false=>
      refine EA ⟨s14,hl4,?_,?_⟩
      · rw [List.range_succ,List.filter_append,List.filter_cons,hp];simpa using len
      · intro j y d h1 h2;have e:((List.range (i+1)).filter p).map G=((List.range i).filter p).map G:=by
          rw [List.range_succ,List.filter_append,List.filter_cons,hp];simp
        rw [e] at h2;exact (el j y d h1 h2).same (s3.trans s4)
    | true=>
      refine FZ ?_;refine he i H4 _ hlt hp s14 λ H5 y s5 ry=> ?_;have hl5:H5 D=some (.lst ys):=s5 _ _ hl4;have e:((List.range (i+1)).filter p).map G=((List.range i).filter p).map G++[G i]:=by
        rw [List.range_succ,List.filter_append,List.filter_cons,hp];simp
      refine ⟨hl5,?_,?_,Ad,?_,?_⟩
      · have:=bnd i;exact Nat.lt_of_le_of_lt (by omega:ys.length<=100000) (by decide)
      · exact DY (s14.trans s5) hD
      · rw [e,List.length_append,List.length_append,len];rfl
      · intro j z d h1 h2;rw [e] at h2;have nF:¬ (H D=none/\D≠D):=λ q=>q.2 rfl;by_cases hj:j<ys.length
        · rw [List.getElem?_append_left hj] at h1;rw [List.getElem?_append_left (by omega)] at h2;exact ((el j z d h1 h2).same (s3.trans (s4.trans s5))).off hl5 nF
        · have ej:j=ys.length:=by
            have:=(List.getElem?_eq_some_iff.mp h1).1;rw [List.length_append] at this;have:([y]:List V).length=1:=rfl;omega
          subst ej;rw [List.getElem?_append_right (Nat.le_refl _),Nat.sub_self] at h1;rw [len,List.getElem?_append_right (Nat.le_refl _),Nat.sub_self] at h2;cases h1;cases h2;refine (ry.imp (F':=λ a=>H a=none/\a≠D) λ a ha=>⟨s14.free ha,λ q=> ?_⟩).off hl5 nF;subst q;rw [show H4 a=none from ha] at hl4;cases hl4
  · have e:i=n:=by omega
    subst e;refine .inl ⟨S.stop H1 s1,hd H1 ys s1 hl (.lst hl hD ?_ len λ j y d h1 h2=>(el j y d h1 h2).imp λ a q=>q.1)⟩;have:=bnd i;omega
theorem Ej {m:Nat} {G:Nat->Dt} (S:SrcOk J g σ0 H n st) (hD:H D=none) (hn:n<=100000)
    (he:∀ i H' (R:VK),i<n->Same H H'->(∀ H3 y,Same H' H3->Rp H3 (FN H') m y (G i)->R y H3)->te (st i) H' R)
    (hd:∀ H' ys,Same H H'->H' D=some (.lst ys)->Rp H' (FN H) (m+1) (.ref D) (.lst ((List.range n).map G))->Q (.ref D) H'):
    Da J σ0 g IB te Q H D:=by
  refine Do (p:=λ _=>true) (m:=m) (G:=G) S hD hn (λ i H' R _ _ k=>k H' (Same.refl _)) (λ i H' R hi _ s k=>he i H' R hi s k) λ H' ys s hl r=>hd H' ys s hl ?_;have e:(List.range n).filter (λ _=>true)=List.range n:=by simp
  rw [e] at r;exact r
variable {K:PySem.W.Frag} {a b:Addr} {xs zs:List V}
theorem AO (h:SqL K H a xs) (h0:σ0[0]?=some none):SrcOk (Itl K a) (AB 0) σ0 H xs.length (λ i=>σ0.set 0 (some (xs.getD i .non))) where
  go:=λ i H' hi s=>⟨xs,xs[i],s.seq h,by simp [hi]⟩
  stop:=λ H' s=>⟨xs,s.seq h,Nat.le_refl _⟩
  yld:=λ i H' x H'' R hi s y k=>by
    obtain ⟨e,hv⟩:=y;subst e;have e:x=xs.getD i .non:=by
      have:=hv xs (s.seq h);rw [List.getD_eq_getElem?_getD,this];rfl
    subst e;exact k _ (Same.refl _)
  kp:=λ i hi=>(Kp.refl _).set h0
theorem Dn {lo:Int} {n:Nat} (h0:σ0[0]?=some none):SrcOk (Itr lo n) (AB 0) σ0 H n (λ i=>σ0.set 0 (some (.int (lo+i)))) where
  go:=λ i H' hi s=>hi
  stop:=λ H' s=>Nat.le_refl _
  yld:=λ i H' x H'' R hi s y k=>by
    obtain ⟨e,hv⟩:=y;subst e hv;exact k _ (Same.refl _)
  kp:=λ i hi=>(Kp.refl _).set h0
theorem JR (h:SqL K H a xs) (h0:σ0[0]?=some none) (h1:σ0[1]?=some none):SrcOk (Ite K a) (G4 K 2 (Bx (AB 0) (Bx (AB 1) Hn))) σ0 H xs.length (λ i=>(σ0.set 0 (some (.int i))).set 1 (some (xs.getD i .non))) where
  go:=λ i H' hi s=>⟨xs,xs[i],s.seq h,by simp [hi]⟩
  stop:=λ H' s=>⟨xs,s.seq h,Nat.le_refl _⟩
  yld:=λ i H' x H'' R hi s y k=>by
    obtain ⟨p,v,hp,rfl,rfl,hv⟩:=y;have e:v=xs.getD i .non:=by
      have:=hv xs (s.seq h);rw [List.getD_eq_getElem?_getD,this];rfl
    subst e;exact ⟨p,_,rfl,SqT.of Ad,rfl,_,_,rfl,_,_,rfl,rfl,k _ (Ae hp)⟩
  kp:=λ i hi=>((Kp.refl _).set h0).set h1
end
theorem BY {α β:Type} (f:α->β) (xs:List α) (d:α):(List.range xs.length).map (λ i=>f (xs.getD i d))=xs.map f:=by
  refine List.ext_getElem (by simp) λ i h1 h2=> ?_;have hi:i<xs.length:=by simpa using h2
  simp [List.getD_eq_getElem?_getD,hi]
section
variable {X:Cx} {tg:Expr}
end
section
variable {X:Cx} {K:PySem.W.Frag} {e st:Expr} {te ts:TE} {pos p2:Pos}
end
end L2
namespace MM
theorem Gw {α:Type} {p:List α->Prop} (h0:p []) (h1:∀ l a,p l->p (l++[a])):∀ l,p l:=λ l=>by
  have h:∀ r:List α,p r.reverse:=λ r=>by
    induction r with
    | nil=>exact h0
    | cons a r ih=>rw [List.reverse_cons];exact h1 _ _ ih
  have:=h l.reverse
  rwa [List.reverse_reverse] at this
theorem or_add_and (a:Nat):∀ b:Nat,(a ||| b)+(a &&& b)=a+b:=by
  induction a using Nat.strongRecOn with
  | ind a ih=>
    intro b;by_cases h:a=0
    · subst h;simp
    · have ih':=ih (a / 2) (by omega) (b / 2);have e1:(a ||| b)=2*((a ||| b) / 2)+(a ||| b)%2:=by omega
      have e2:(a &&& b)=2*((a &&& b) / 2)+(a &&& b)%2:=by omega
      have d1:(a ||| b) / 2=a / 2 ||| b / 2:=by simpa using Nat.or_div_two (a:=a) (b:=b)
      have d2:(a &&& b) / 2=a / 2 &&& b / 2:=by simpa using Nat.and_div_two (a:=a) (b:=b)
      have m1:(a ||| b)%2+(a &&& b)%2=a%2+b%2:=by
        have z:∀ x:Nat,x%2=(x.testBit 0).toNat:=λ x=>by rw [Nat.toNat_testBit];simp
        rw [z (a ||| b),z (a &&& b),z a,z b,Nat.testBit_or,Nat.testBit_and];cases a.testBit 0 <;> cases b.testBit 0 <;> rfl
      rw [d1] at e1;rw [d2] at e2;omega
def ofB (f:Nat->Bool):Nat->Nat
  | 0=>0
  | w+1=>ofB f w+(f w).toNat*2 ^ w
theorem Jt (f:Nat->Bool):∀ w,ofB f w<2 ^ w
  | 0=>by simp [ofB]
  | w+1=>by
    have:=Jt f w;unfold ofB;rw [Nat.pow_succ];cases f w <;> simp <;> omega
theorem Eb (f:Nat->Bool):∀ w i,(ofB f w).testBit i=(decide (i<w)&&f i)
  | 0,i=>by simp [ofB]
  | w+1,i=>by
    have hl:=Jt f w;unfold ofB;have e:ofB f w+(f w).toNat*2 ^ w=2 ^ w*(f w).toNat+ofB f w:=by rw [Nat.mul_comm];omega
    rw [e,Nat.testBit_two_pow_mul_add _ hl];by_cases h:i<w
    · rw [if_pos h,Eb f w i];simp [h,Nat.lt_succ_of_lt h]
    · rw [if_neg h];by_cases h2:i=w
      · subst h2;cases f i <;> simp
      · have h3:¬ i<w+1:=by omega
        have h4:i - w≠0:=by omega
        have h5:(1:Nat).testBit (i - w)=false:=by
          obtain ⟨d,hd⟩:∃ d,i - w=d+1:=⟨i - w - 1,by omega⟩;rw [hd,Nat.testBit_succ];simp
        cases f w
        · simp [h3]
        · simp only [Bool.toNat_true,h5,h3,decide_false,Bool.false_and]
theorem JS (m w:Nat) (h:m<2 ^ w):ofB m.testBit w=m:=by
  refine Nat.eq_of_testBit_eq λ i=> ?_;rw [Eb];by_cases hi:i<w
  · simp [hi]
  · have:m.testBit i=false:=Nat.testBit_lt_two_pow (Nat.lt_of_lt_of_le h (Nat.pow_le_pow_right (by decide) (by omega)));simp [hi,this]
theorem IE {f g:Nat->Bool} {w:Nat} (h:∀ i,i<w->f i=g i):ofB f w=ofB g w:=by
  refine Nat.eq_of_testBit_eq λ i=> ?_;rw [Eb,Eb];by_cases hi:i<w
  · simp [hi,h i hi]
  · simp [hi]
theorem eq_ofB {m w:Nat} {f:Nat->Bool} (h:m<2 ^ w) (b:∀ i,i<w->m.testBit i=f i):m=ofB f w:=by
  rw [<-JS m w h];exact IE b
theorem bit_div (m e:Nat):m / 2 ^ e%2=(m.testBit e).toNat:=by
  rw [Nat.testBit_eq_decide_div_mod_eq];have:m / 2 ^ e%2<2:=Nat.mod_lt _ (by decide);by_cases h:m / 2 ^ e%2=1
  · simp [h]
  · have:m / 2 ^ e%2=0:=by omega
    simp [this]
def mOf (ns:List Nat):Nat:=ns.foldl (λ m n=>m ||| 2 ^ (n - 1)) 0
theorem mOf_snoc (ns:List Nat) (n:Nat):mOf (ns++[n])=mOf ns ||| 2 ^ (n - 1):=by unfold mOf;rw [List.foldl_append];rfl
theorem mOf_bit (ns:List Nat) (i:Nat):(mOf ns).testBit i=ns.any λ n=>decide (n - 1=i):=by
  refine Gw (p:=λ ns=>(mOf ns).testBit i=ns.any λ n=>decide (n - 1=i)) (by simp [mOf]) (λ l a ih=> ?_) ns
  · rw [mOf_snoc,Nat.testBit_or,ih,List.any_append,Nat.testBit_two_pow];simp
def uOf (ms:List Nat):Nat:=ms.foldl (λ m n=>m ||| n) 0
theorem uOf_snoc (ns:List Nat) (n:Nat):uOf (ns++[n])=uOf ns ||| n:=by unfold uOf;rw [List.foldl_append];rfl
theorem uOf_bit (ns:List Nat) (i:Nat):(uOf ns).testBit i=ns.any λ n=>n.testBit i:=by
  refine Gw (p:=λ ns=>(uOf ns).testBit i=ns.any λ n=>n.testBit i) (by simp [uOf]) (λ l a ih=> ?_) ns;rw [uOf_snoc,Nat.testBit_or,ih,List.any_append];simp
def bits (m:Nat):Nat:=if m=0 then 0 else m.log2+1
theorem HE (m:Nat):m<2 ^ bits m:=by
  unfold bits;split
  · subst_vars;decide
  · exact Nat.lt_log2_self
theorem bits_le {m w:Nat} (h:m<2 ^ w):bits m<=w:=by
  unfold bits;split
  · exact Nat.zero_le _
  · rename_i h0
    exact (Nat.log2_lt h0).mpr h
def nOf (m:Nat):List Nat:=((List.range (bits m)).filter m.testBit).map (· + 1)
theorem nOf_mem (m n:Nat):n∈nOf m↔1<=n/\m.testBit (n - 1)=true:=by
  unfold nOf;simp only [List.mem_map,List.mem_filter,List.mem_range];constructor
  · rintro ⟨k,⟨_,h⟩,rfl⟩;exact ⟨by omega,by simpa using h⟩
  · rintro ⟨h1,h2⟩;refine ⟨n - 1,⟨?_,h2⟩,by omega⟩;rcases Nat.lt_or_ge (n - 1) (bits m) with q | q
    · exact q
    · rw [Nat.testBit_lt_two_pow (Nat.lt_of_lt_of_le (HE m) (Nat.pow_le_pow_right (by decide) q))] at h2;cases h2
theorem Jp {m w:Nat} (h:m<2 ^ w):nOf m=((List.range w).filter m.testBit).map (· + 1):=by
  unfold nOf;have hb:=bits_le h;obtain ⟨d,rfl⟩:∃ d,w=bits m+d:=⟨w - bits m,by omega⟩;congr 1;rw [List.range_add,List.filter_append];have e:((List.range d).map (bits m+ ·)).filter m.testBit=[]:=by
    rw [List.filter_eq_nil_iff];intro x hx;obtain ⟨k,_,rfl⟩:=List.mem_map.mp hx;rw [Nat.testBit_lt_two_pow (Nat.lt_of_lt_of_le (HE m) (Nat.pow_le_pow_right (by decide) (Nat.le_add_right _ _)))];simp
  rw [e,List.append_nil]
theorem nOf_len {m w:Nat} (h:m<2 ^ w):(nOf m).length<=w:=by
  rw [Jp h,List.length_map];exact Nat.le_trans (List.length_filter_le _ _) (by simp)
theorem full_bit (w i:Nat):(2 ^ w - 1).testBit i=decide (i<w):=Nat.testBit_two_pow_sub_one w i
end MM
namespace L2
open PySem PySem.Spec PyProof.Rows
section
variable {X:Cx}
theorem Lh {x:Str} {i:Int} {pos:Pos} (h:∃ t,X.mg x=some (.int i t)) (hg:Gl X x:=by rfl) (hd:(x == ("__debug__":Str))=false:=by decide):PE X (.Name x pos) (tC (.int i)):=by
  obtain ⟨t,e⟩:=h;exact Hz hg e ⟨t,rfl⟩ hd
end
section
variable {H:Hp} {Q:VK} {σ:St} {td ty tv:TE} {D:Ends} {a:Addr} {kvs:List (Key × V)}
end
section
variable {H:Hp} {Q:VK} {σ:St} {K:PySem.W.Frag} {to:TE} {t:TA} {r:V->List V->Hp->VK->Prop} {T:String} {l p q:Addr} {xs ys:List V} {y:V}
theorem Mr (h:to σ H λ x H1=>tyV K T x H1/\r x [] H1 Q):Mm K T r to σ H Q:=h
theorem NE (h:to σ H λ x H1=>tyV K T x H1/\t σ H1 λ xs H2=>r x xs H2 Q):tBM K T r to t σ H Q:=h
theorem tyL {B:Prop} (c:SqL K H l xs) (h:B):tyV K "list" (.ref l) H/\B:=⟨.inl ⟨rfl,xs,c⟩,h⟩
theorem tyI {B:Prop} {i:Int} (h:B):tyV K "int" (.int i) H/\B:=⟨rfl,h⟩
theorem Mn (c:H l=some (.lst xs)) (b:xs.length<16777216) (h:Q .non (upd H l (.lst (xs++[y])))):rAppend (.ref l) [y] H Q:=⟨l,xs,y,rfl,rfl,c,by rw [sizeLine_eq];exact b,h⟩
theorem LZ (c:H l=some (.lst xs)) (d:H p=some (.lst ys)) (b:xs.length+ys.length<=16777216) (h:Q .non (upd H l (.lst (xs++ys)))):rExtend (.ref l) [.ref p] H Q:=⟨l,p,xs,ys,rfl,rfl,c,d,by rw [sizeLine_eq];exact b,h⟩
theorem CO (c:SqL K H l xs) (d:SqL K H p ys) (b:xs.length+ys.length<=16777216) (h:∀ q,H q=none->Q (.ref q) (upd H q (.lst (xs++ys)))):Jb K (.ref l) (.ref p) H Q:=⟨l,p,xs,ys,rfl,rfl,c,d,by rw [sizeLine_eq];exact b,h⟩
theorem FK {k:Int} (c:H l=some (.lst xs)) (b1:0<=k) (b2:k<=100000) (b3:xs.length<=100) (h:∀ q,H q=none->Q (.ref q) (upd H q (.lst (List.replicate k.toNat xs).flatten))):Ni (.ref l) (.int k) H Q:=
  ⟨l,k,xs,rfl,rfl,c,by omega,by omega,by
    rw [sizeLine_eq];have h1:k.toNat<=100000:=by omega
    exact Nat.le_trans (Nat.mul_le_mul b3 h1) (by decide),h⟩
theorem GU {z:Addr} (c:SqT K H z xs) (h:∀ q,H q=none->Q (.ref q) (upd H q (.lst xs))):HJ K [.ref z] H Q:=⟨z,xs,rfl, .inr c,h⟩
theorem Jm {z:Addr} (c:SqL K H z xs) (h:∀ q,H q=none->Q (.ref q) (upd H q (.tup xs))):Gz K [.ref z] H Q:=⟨z,xs,rfl, .inl ⟨c,h⟩⟩
end
end L2
namespace L2
open PySem
open Sem (wp)
open AutoSeq1 (wpAny_loadPart')
section
variable {prog:Program} {w:World} {A:Around} {E:Value->Shared->Prop} {s:Shared}
theorem GI {T newId:String} {Bn:Builtin} {v:Value} {x:Str} {u:Value} {Q:Value->Shared->Prop} (ft:TypeCalled T newId "object.__init__") (hne:(some newId != some "object.__new__")=true)
    (hct:checkTypeCall T ⟨[v],[(x,u)]⟩=pure ()) (hcn:checkBuiltinCall newId ⟨[.type T,v],[(x,u)]⟩=pure ()) (hok:∀ obj,argsOk "object.__init__" ⟨[obj,v],[(x,u)]⟩) (entryN:entryFor table newId=some Bn)
    (g:wpAny (model prog w) A.in1.in1 (Bn ⟨[.type T,v],[(x,u)]⟩) (λ fin s1=>∃ obj,fin= .done (.ret obj)/\s1.TypeIs obj T/\Q obj s1) E s):wpAny (model prog w) A (call (.type T) [v] [(x,u)]) Q E s:=by
  obtain ⟨c,tl,hmro⟩:=ft.mro;have hmade:=ft.made;have hsub:=ft.sub;refine wpAny_call (codeAny_of_tree ?_);show wpAny _ _ (callAny (.type T) _) _ _ _;refine wpAny_pure ⟨Code.quiet_builtin _ (by decide +kernel),codeAny_builtin F.entry_type_call ?_⟩;rw [Around.under_plain (weight_type_call_type T [v] [(x,u)]) (units_type_call_type T [v] [(x,u)])];have h1:=ft.notType;have h2:=ft.canCreate
  repeat (any_goals (first | assumption | wp_step))
  refine codeAny_call_builtin ft.plain entryN (wpAny_of_eq hcn (wpAny_mono g (λ fin s1 q=> ?_) λ _ _ q=>q));obtain ⟨obj,rfl,hT,q⟩:=q;have hli:=ft.init.lookup;have hbi:=ft.init.bind obj;show wpAny _ _ _ _ _ _
  repeat (any_goals (first | assumption | wp_step))
  refine codeAny_call_builtin ft.init.plain F.entry_object_init (ft.init.check _ _ _ _ _ _ _ _ hT (hok obj) ?_)
  repeat (any_goals (first | assumption | wp_step))
  trace_state
theorem GP {v:Value} {t:Tok} {Q:Value->Shared->Prop}
    (h:wpAny (model prog w) A (pyIter v) (λ itv s1=>Q (.ref s1.heap.objs.size) { s1 with heap:=s1.heap.push { cls:= .type "enumerate",data:= .fields #[.none, .bool false,itv,rawInt 1, .none, .none] } }) E s):
    wpAny (model prog w) A (Builtin.«enumerate.__new__» ⟨[.type "enumerate",v],[("start", .int 1 t)]⟩) (λ fin s1=>∃ obj,fin= .done (.ret obj)/\Q obj s1) E s:=by
  have hsub:=sub_enumerate;have hit:∀ {R:Value->Shared->Prop},(∀ itv s1,Q (.ref s1.heap.objs.size) { s1 with heap:=s1.heap.push { cls:= .type "enumerate",data:= .fields #[.none, .bool false,itv,rawInt 1, .none, .none] } }->R itv s1)->wpAny (model prog w) A (pyIter v) R E s:=λ k=>wpAny_mono h k λ _ _ q=>q;unfold Builtin.«enumerate.__new__»
  wp_walk
  refine wpAny_stack_any λ st=>wpAny_pure ?_;split
  · rename_i c _ _ _ _ _
    cases (c == Value.type "enumerate")
    · wp_walk using hit
      intro itv s1 q
      wp_walk
      exact ⟨_,rfl,q⟩
    · wp_walk using hit
      intro itv s1 q
      wp_walk
      exact ⟨_,rfl,q⟩
  · wp_walk using hit
    intro itv s1 q
    wp_walk
    exact ⟨_,rfl,q⟩
theorem GY {v:Value} {t:Tok} {Q:Value->Shared->Prop}
    (h:wpAny (model prog w) A.in1.in1 (pyIter v) (λ itv s1=>∃ it,itv= .ref it/\∀ h',IsEnum h' s1.heap.objs.size it 1 .none->(∀ b o,s1.heap.get? b=some o->h'.get? b=some o)->h'.objs.size=s1.heap.objs.size+1->Q (.ref s1.heap.objs.size) { s1 with heap:=h' }) E s):
    wpAny (model prog w) A (call (.type "enumerate") [v] [("start", .int 1 t)]) Q E s:=by
  refine GI F.called_enumerate (by decide) (by kernel_rfl) (by kernel_rfl) (λ obj=>by unfold argsOk;kernel_rfl) F.entry_enumerate_new (GP (wpAny_mono h (λ itv s1 q=> ?_) λ _ _ q=>q));obtain ⟨it,rfl,q⟩:=q;refine ⟨⟨_,Heap.get?_push_size _ rfl,rfl⟩,q _ (Heap.get?_push_size _ rfl) (λ b o e=>Heap.get?_push_of_some _ e) (Heap.size_push ..)⟩
end
theorem LW {prog:Program} {w:World} {A:Around} {it:Addr} {fp:List Addr} {n:Nat} {Pv:Nat->Value->Prop} {St:Nat->Heap->Prop} (k:Nat) (D:Draws prog w A it fp n Pv St):
    Draws prog w A it fp (n+k) (λ i v=>∃ j,i=j+k/\Pv j v) (λ i h=>∃ j,i=j+k/\St j h) where
  live:=λ i h ⟨j,_,st⟩=>D.live j h st
  frame:=λ i h h' ⟨j,e,st⟩ q=>⟨j,e,D.frame j h h' st q⟩
  item:=λ i s Q E hi ⟨j,e,st⟩ hQ=>D.item j s Q E (by omega) st λ x h' tk p st' sb=>hQ x h' tk ⟨j,e,p⟩ ⟨j+1,by omega,st'⟩ sb
  done:=λ s Q E ⟨j,e,st⟩ hE=>D.done s Q E (by
    have q:j=n:=by omega
    rw [q] at st;exact st) hE
theorem F9 {M:Model} {A:Around} {E:Value->Shared->Prop} {s:Shared} {pos:Pos} {T:String} {args:List (Bool × Sem Value)} {kws:List (Option Str × Sem Value)} {Q:Value->Shared->Prop}
    (hp:args.any (·.1)=false) (hk:kws.any (·.1.isNone)=false) (h:wpAny M A (evalArgs (.type T) true args kws) (λ a s1=>wpAny M A (call (.type T) a.pos a.kw) Q E s1) E s):wpAny M A (callWith pos (.type T) [] args kws) Q E s:=by
  unfold callWith;refine wpAny_bind (wpAny_holding (wpAny_mono h (λ a s1 h1=>wpAny_bind (wpAny_standAt ?_)) λ _ _ q=>q));simp only [hp,hk,Bool.or_false];refine wpAny_bind (wpAny_pure ?_);refine wpAny_bind (wpAny_mono h1 (λ r s2 hr=> ?_) λ _ _ q=>q);exact wpAny_bind (wpAny_holding (wpAny_point (wpAny_pure hr)))
end L2
namespace L2
open PySem PySem.Spec PyProof.Rows
theorem LU {prog:Program} {w:World} {A:Around} (hh:A.handled=none) (tp:Bool) (it l:Addr) (hne:l≠it) (items:Array Value):
    Draws prog w A it [it,l] items.size (λ i v=>items[i]?=some v) (λ i h=>BU tp h it l i/\DJ tp h l items) where
  live:=λ _ _ st=>let ⟨o,e,_⟩:=Cg st.1;⟨o,e⟩
  frame:=λ _ _ _ st hk=>⟨CW st.1 λ o e=>hk it (by simp) o e,GN st.2 λ o e=>hk l (by simp) o e⟩
  item:=λ i s Q E hi st hQ=>IW st.1 st.2 (x:=items[i]) (by simp [hi]) λ h' hit sb=>hQ _ h' s.toks (by simp [hi]) ⟨hit,GN st.2 λ o e=>(sb.2 l hne).trans e⟩ sb
  done:=λ s Q E st hE=>HK hh st.1 st.2 (by simp) hE
def J1 (tp:Bool) (K:PySem.W.Frag) (a:Addr):It:=
  ⟨λ i H=>∃ xs x,SqS tp K H a xs/\xs[i]?=some x,λ i H v H'=>∃ p x,H p=none/\v= .ref p/\H'=upd H p (.tup [.int ((i+1:Nat):Int),x])/\∀ xs,SqS tp K H a xs->xs[i]?=some x,λ i H=>∃ xs,SqS tp K H a xs/\xs.length<=i⟩
theorem G7 {P:Program} {w:World} {K:PySem.W.Frag} {elts:List Expr} {k:Nat} {pos:Pos} (tp:Bool) (a e it:Addr) (hne:e≠it):
    Turn P w K (.Tuple elts k pos) (J1 tp K a) [e,it] e (λ i h=>(∃ old,IsEnum h e it ((i+1:Nat):Int) old)/\BU tp h it a i) where
  mem:=by simp
  obj:=λ i h st b hb=>by
    obtain ⟨⟨old,he⟩,hi⟩:=st;obtain ⟨o,eo,d⟩:=Cg hi;rcases List.mem_cons.mp hb with z | z
    · subst z;exact ⟨_,he,λ v z=>by cases (show Data.fields _=Data.cell v from z)⟩
    · have z:b=it:=by simpa using z
      subst z;exact ⟨o,eo,λ v z=>by rw [d] at z;cases z⟩
  keep:=λ i h h' st kp=>by
    obtain ⟨⟨old,he⟩,hi⟩:=st;exact ⟨⟨old,kp e (by simp) _ he⟩,CW hi λ o z=>kp it (by simp) o z⟩
  item:=by
    intro X hP hw hK hc i pins s σ H E I hf st hg;subst hP hw hK;obtain ⟨xs,x,hq,hx⟩:=hg;obtain ⟨its,rv,p⟩:=FS I hq;obtain ⟨u,hu,ru⟩:=rv.get hx;obtain ⟨⟨old,he⟩,hi⟩:=st;obtain ⟨oi,ei,di⟩:=Cg hi;obtain ⟨oa,na,ea,da⟩:=Fz p;have hel:e<s.heap.objs.size:=Heap.lt_size he;have hil:it<s.heap.objs.size:=Heap.lt_size ei;have nia:a≠it:=λ z=>by
      subst z;rw [ei] at ea;cases ea;rw [di] at da;cases da
    have nea:e≠a:=λ z=>by
      subst z;rw [show s.heap.get? e=_ from he] at ea;cases ea;cases (show Data.fields _=Data.seq _ _ from da)
    have hlt:i<its.toArray.size:=by
      have:=(List.getElem?_eq_some_iff.mp hu).1;simpa using this
    have D:=LW 1 (LU (prog:=X.prog) (w:=X.w) (A:=X.A.in1) (I.ok.hd hc) tp it a nia its.toArray);refine wpAny_pyNext_enum_itemD (i:=i+1) D he ⟨i,rfl,hi,p⟩ (by omega) hne (by simp [hne,nea]) λ v h' tk pv ho st' hT hsz hk=> ?_;obtain ⟨j,ej,ev⟩:=pv;obtain ⟨j2,ej2,hi',p'⟩:=st';have ej:j=i:=by omega
    have ej2:j2=i+1:=by omega
    subst ej ej2;have ev:v=u:=by
      rw [show its.toArray[j]?=some u by simpa using hu] at ev;exact (Option.some.inj ev).symm
    subst ev;have I0:=I.laid (h':=s.heap.push { cls:= .type "tuple",data:= .seq #[.int ((j+1:Nat):Int) tk,v] }) (a:=s.heap.objs.size) (o:= .tup [.int ((j+1:Nat):Int),x]) (t':=tk+1) (λ _ _ q=>Heap.get?_push_of_some _ q) (Nat.le_refl _)
      ⟨(by show 2<=sizeLine;decide),[.int ((j+1:Nat):Int) tk,v], .cons ⟨_,rfl⟩ (.cons ru .nil),⟨_,Heap.get?_push_size _ rfl,rfl,_,rfl⟩⟩
    have f0:∀ b∈[e,it],Ck X pins (upd H s.heap.objs.size (.tup [.int ((j+1:Nat):Int),x])) b:=λ b hb=>IV (hf b hb) (by
      rcases List.mem_cons.mp hb with z | z
      · rw [z];exact Nat.ne_of_lt hel
      · rw [show b=it by simpa using z];exact Nat.ne_of_lt hil)
    have I1:=Inv.turnedL (t':=tk+1) (h':=h') [e,it] I0 f0 (λ b o hb z=>by
      have hb1:b≠e:=λ q=>hb (by simp [q]);have hb2:b≠it:=λ q=>hb (by simp [q]);rcases Heap.get?_push_cases (show (s.heap.push { cls:= .type "tuple",data:= .seq #[.int ((j+1:Nat):Int) tk,v] }).get? b=some o from z) with ⟨q1,q2⟩ | q
      · rw [q1,q2];exact hT
      · exact hk b o hb1 hb2 q)
    refine ⟨.ref s.heap.objs.size,rfl,wpAny_letOwnedTupleGo_enum (s:={ s with heap:=h',toks:=tk+1 }) ho λ h2 he2 sb=> ?_⟩;exact ⟨.ref s.heap.objs.size,_,Inv.turnedL (t':=tk+1) (h':=h2) [e,it] I1 f0 (λ b o hb z=>(sb.2 b λ q=>hb (by simp [q])).trans z),rfl,⟨_,x,I.fresh,rfl,rfl,λ ys hy=>by rw [KU I hy hq];exact hx⟩,
      ⟨⟨v,by simpa using he2⟩,CW hi' λ o z=>(sb.2 it hne.symm).trans z⟩,λ b hb=>(f0 b hb).1⟩
  done:=by
    intro X hP hw hK hc i pins s σ H E I hf st hg;subst hP hw hK;obtain ⟨xs,hq,hx⟩:=hg;obtain ⟨its,rv,p⟩:=FS I hq;obtain ⟨⟨old,he⟩,hi⟩:=st;obtain ⟨oi,ei,di⟩:=Cg hi;obtain ⟨oa,na,ea,da⟩:=Fz p;have hT:s.TypeIs (.ref e) "enumerate":=⟨_,he,rfl⟩;have hl:=rv.length;unfold pyNext;refine wpAny_bind (wpAny_attempt (wpAny_callSpecial?_slot (name:=Str.ofString "__next__") hT F.slot_enumerate_next (wpAny_call_entry F.slot_enumerate_next hT F.entry_enumerate_next ?_ (F.args_enumerate_next_1 _))));show wpAny _ _ (field (.ref e) 2 >>= _) _ _ _;refine wpAny_bind (wpAny_field he rfl (x:= .ref it) rfl ?_);refine wpAny_bind (HK (A:=X.A.in1) (I.ok.hd hc) hi p (by simp;omega) λ h' x eb hx'=> ?_);obtain ⟨o,ho,hc2⟩:=hx';exact wpAny_bind (wpAny_isInstance (T:="StopIteration") (b:=true) ⟨o,ho,hc2⟩ isSubtype_stop (wpAny_pure ⟨rfl,I.turnedL (t':=s.toks) [e,it] hf λ b o hb z=>eb b o (λ q=>hb (by simp [q])) z⟩))
  self:=λ _ _ _ _ _ st h=>by
    obtain ⟨⟨old,he⟩,_⟩:=st;exact wpAny_pyIter_enum he h
section
variable {X:Cx} {elts:List Expr} {k:Nat} {tpos:Pos} {K:PySem.W.Frag}
def Ja (K:PySem.W.Frag) (ta:TA):TI:=λ σ H R=>ta σ H λ vs H1=>∃ tp a,vs=[.ref a]/\(∃ xs,SqS tp K H1 a xs)/\R (J1 tp K a) H1
theorem Jh {l:Expr} {ta:TA} {p pos kp cp:Pos} {cj:Nat} (hg:Gl X "enumerate") (hm:X.mg "enumerate"=none) (ha:PA X [l] ta) (hK:X.K=K:=by rfl) (hs:starEach [l] X.env=[(false,eval l X.env)]:=by rfl):
    PI X (.Tuple elts k tpos) (.Call (.Name "enumerate" p) [l] [⟨some "start", .Constant (.int 1) cj cp,kp⟩] pos) (Ja K ta):=by
  subst hK;intro pins s σ H R I h;refine wpAny_Call_Name_kw (CS I hg hm Fs (F9 (by rw [hs];rfl) rfl (PyProof.Rows.evalArgs_kw2 rfl ?_ (by rw [hs];rfl))));refine thn (ha pos pins s σ H _ I h) λ us s1 ⟨vs,H1,I1,r1,q1⟩=>PyProof.Rows.kwAll_cons ?_;refine Af pins s1 σ H1 (λ v H2=>v= .int 1/\H2=H1) I1 ⟨rfl,rfl⟩ |> λ z=>thn z λ u s2 ⟨v,H2,I2,r2,ev,eh⟩=> ?_
  subst ev eh;obtain ⟨t,rfl⟩:=r2;refine PyProof.Rows.kwAll_nil ?_;obtain ⟨tp,a,e,⟨xs,hq⟩,q⟩:=q1;subst e;cases r1 with
  | cons r rr=>
    cases rr;cases r;obtain ⟨its,rv,pl⟩:=FS I2 hq;refine GY ?_;refine Jw pl ⟨_,rfl,λ h' he hk hsz=> ?_⟩;refine wpAny_pyIter_enum he ?_;have hz:(s2.heap.push { cls:= .type (JC tp),data:= .fields #[.ref a, .int 0 0] }).objs.size=s2.heap.objs.size+1:=Heap.size_push ..;have hk2:∀ b o,s2.heap.get? b=some o->h'.get? b=some o:=λ b o z=>hk b o (Heap.get?_push_of_some _ z);have I3:=I2.kept (t':=s2.toks) hk2;have st:BU tp h' s2.heap.objs.size a 0:=CW Ic λ o z=>hk _ o z;refine ⟨_,[_,s2.heap.objs.size],_,_,H2,rfl,I3,G7 tp a _ _ (by rw [hz];exact Nat.succ_ne_self _),⟨⟨_,he⟩,st⟩,λ b hb=> ?_,q⟩;have hb':s2.heap.objs.size<=b:=by
      rcases List.mem_cons.mp hb with z | z
      · rw [z,hz];exact Nat.le_succ _
      · have z:b=s2.heap.objs.size:=by simpa using z
        rw [z];exact Nat.le_refl _
    exact I2.fpOk hb' (I2.hok.fresh hb')
end
def Isq (tp:Bool) (K:PySem.W.Frag) (a:Addr):It:=if tp=true then Itt K a else Itl K a
section
variable {X:Cx} {tg:Expr} {K:PySem.W.Frag}
def iSq (K:PySem.W.Frag) (tl:TE):TI:=λ σ H R=>tl σ H λ x H1=>∃ tp a,x= .ref a/\(∃ xs,SqS tp K H1 a xs)/\R (Isq tp K a) H1
theorem Lo {l:Expr} {tl:TE} (hl:PE X l tl) (hK:X.K=K:=by rfl):PI X tg l (iSq K tl):=by
  subst hK;intro pins s σ H R I h;refine thn (hl pins s σ H _ I h) λ v s1 ⟨x,H1,I1,r1,q1⟩=> ?_;obtain ⟨tp,a,e,⟨xs,hq⟩,q⟩:=q1;subst e;cases r1;cases tp with
  | false=>
    obtain ⟨its,rv,p,hz⟩:=I1.list (show SqL X.K H1 a xs from hq);refine wpAny_pyIter_list p.isList ?_;refine ⟨s1.heap.objs.size,[s1.heap.objs.size],_,_,H1,rfl,I1.kept (t':=s1.toks) λ b o e=>Heap.get?_push_of_some _ e,Fl a _,⟨_,Heap.get?_push_size _ rfl,rfl,rfl⟩,λ b hb=> ?_,q⟩;have e:b=s1.heap.objs.size:=by simpa using hb
    subst e;exact I1.fpOk (Nat.le_refl _) (I1.hok.fresh (Nat.le_refl _))
  | true=>
    obtain ⟨its,rv,p,hz⟩:=I1.tuple (show SqT X.K H1 a xs from hq);refine wpAny_pyIter_tuple (show s1.heap.IsTuple a its.toArray from p) ?_;refine ⟨s1.heap.objs.size,[s1.heap.objs.size],_,_,H1,rfl,I1.kept (t':=s1.toks) λ b o e=>Heap.get?_push_of_some _ e,EG a _,⟨_,Heap.get?_push_size _ rfl,rfl,rfl⟩,λ b hb=> ?_,q⟩;have e:b=s1.heap.objs.size:=by simpa using hb
    subst e;exact I1.fpOk (Nat.le_refl _) (I1.hok.fresh (Nat.le_refl _))
end
structure FSrc (J:It) (g:TG) (H:Hp) (n:Nat) (set:Nat->St->St):Prop where
  go:∀ i H',i<n->Same H H'->J.go i H'
  stop:∀ H',Same H H'->J.stop n H'
  yld:∀ i σ H' x H'' (R:St->Hp->Prop),i<n->Same H H'->J.yld i H' x H''->(∀ H3,Same H' H3->R (set i σ) H3)->g x σ H'' R
theorem DZ {J:It} {g:TG} {H:Hp} {n:Nat} {set:Nat->St->St} {tb:TS} {D:Ends} {σ:St} (S:FSrc J g H n set) (Pv:Nat->St->Hp->Prop) (h0:Pv 0 σ H) (hk:∀ i σ H',Pv i σ H'->Same H H')
    (hs:∀ i σ H' H3,i<n->Pv i σ H'->Same H' H3->tb { D with nx:=Pv (i+1),ct:=Pv (i+1),bk:=D.nx } (set i σ) H3) (hd:∀ σ H',Pv n σ H'->D.nx σ H'):
    ∃ W:Nat->Nat->St->Hp->Prop,(∃ m,W 0 m σ H)/\∀ i m σ H,W i m σ H->
      (J.stop i H/\D.nx σ H)\/(J.go i H/\∃ N:St->Hp->Prop,(∀ σ' H',N σ' H'->∃ m',m'<m/\W (i+1) m' σ' H')/\∀ x H',J.yld i H x H'->g x σ H' λ σ2 H2=>tb { D with nx:=N,ct:=N,bk:=D.nx } σ2 H2):=by
  refine ⟨λ i m σ H'=>m=n - i/\i<=n/\Pv i σ H',⟨n,by simp,Nat.zero_le _,h0⟩,?_⟩;rintro i m σ H1 ⟨rfl,hi,p⟩;by_cases hlt:i<n
  · exact .inr ⟨S.go i H1 hlt (hk _ _ _ p),Pv (i+1),λ σ' H' p'=>⟨n - (i+1),by omega,rfl,hlt,p'⟩,λ x H' y=>S.yld i σ H1 x H' _ hlt (hk _ _ _ p) y λ H3 s3=>hs i σ H1 H3 hlt p s3⟩
  · have e:i=n:=by omega
    subst e;exact .inl ⟨S.stop H1 (hk _ _ _ p),hd σ H1 p⟩
section
variable {K:PySem.W.Frag} {H:Hp} {a b:Addr} {xs zs:List V} {tp t1 t2:Bool} {i1 i2:Nat}
theorem Jk (h:SqS tp K H a xs):FSrc (Isq tp K a) (AB i1) H xs.length (λ i σ=>σ.set i1 (some (xs.getD i .non))):=by
  cases tp with
  | false=>exact {
      go:=λ i H' hi s=>⟨xs,xs[i],SqS.same (tp:=false) h s,by simp [hi]⟩
      stop:=λ H' s=>⟨xs,SqS.same (tp:=false) h s,Nat.le_refl _⟩
      yld:=λ i σ H' x H'' R hi s y k=>by
        obtain ⟨e,hv⟩:=y;subst e;have e:x=xs.getD i .non:=by
          rw [List.getD_eq_getElem?_getD,hv xs (SqS.same (tp:=false) h s)];rfl
        subst e;exact k _ (Same.refl _) }
  | true=>exact {
      go:=λ i H' hi s=>⟨xs,xs[i],SqS.same (tp:=true) h s,by simp [hi]⟩
      stop:=λ H' s=>⟨xs,SqS.same (tp:=true) h s,Nat.le_refl _⟩
      yld:=λ i σ H' x H'' R hi s y k=>by
        obtain ⟨e,hv⟩:=y;subst e;have e:x=xs.getD i .non:=by
          rw [List.getD_eq_getElem?_getD,hv xs (SqS.same (tp:=true) h s)];rfl
        subst e;exact k _ (Same.refl _) }
theorem Er (h:SqT K H a xs):FSrc (Itt K a) (AB i1) H xs.length (λ i σ=>σ.set i1 (some (xs.getD i .non))):=Jk (tp:=true) h
theorem GH {lo:Int} {n:Nat}:FSrc (Itr lo n) (AB i1) H n (λ i σ=>σ.set i1 (some (.int (lo+i)))) where
  go:=λ i H' hi s=>hi
  stop:=λ H' s=>Nat.le_refl _
  yld:=λ i σ H' x H'' R hi s y k=>by
    obtain ⟨e,hv⟩:=y;subst e hv;exact k _ (Same.refl _)
theorem IU (h:SqS tp K H a xs):FSrc (J1 tp K a) (G4 K 2 (Bx (AB i1) (Bx (AB i2) Hn))) H xs.length (λ i σ=>(σ.set i1 (some (.int ((i+1:Nat):Int)))).set i2 (some (xs.getD i .non))) where
  go:=λ i H' hi s=>⟨xs,xs[i],h.same s,by simp [hi]⟩
  stop:=λ H' s=>⟨xs,h.same s,Nat.le_refl _⟩
  yld:=λ i σ H' x H'' R hi s y k=>by
    obtain ⟨p,v,hp,rfl,rfl,hv⟩:=y;have e:v=xs.getD i .non:=by
      rw [List.getD_eq_getElem?_getD,hv xs (h.same s)];rfl
    subst e;exact ⟨p,_,rfl,SqT.of Ad,rfl,_,_,rfl,_,_,rfl,rfl,k _ (Ae hp)⟩
theorem FSrc.src {J:It} {g:TG} {n:Nat} {set:Nat->St->St} {σ0:St} (S:FSrc J g H n set) (kp:∀ i,i<n->Kp σ0 (set i σ0)):SrcOk J g σ0 H n (λ i=>set i σ0) where
  go:=S.go
  stop:=S.stop
  yld:=λ i H' x H'' R hi s y k=>S.yld i σ0 H' x H'' R hi s y k
  kp:=kp
theorem HL {σ0:St} (h:SqS tp K H a xs) (h0:σ0[0]?=some none) (h1:σ0[1]?=some none):SrcOk (J1 tp K a) (G4 K 2 (Bx (AB 0) (Bx (AB 1) Hn))) σ0 H xs.length (λ i=>(σ0.set 0 (some (.int ((i+1:Nat):Int)))).set 1 (some (xs.getD i .non))):=
  (IU h).src λ i _=>((Kp.refl _).set h0).set h1
end
theorem bA (a b:Nat):Builtin.bitAnd (a:Int) (b:Int)=((a &&& b:Nat):Int):=by
  rw [PyProof.Rows.bitAnd_pp (by omega) (by omega)];rfl
theorem bO (a b:Nat):Builtin.bitOr (a:Int) (b:Int)=((a ||| b:Nat):Int):=by
  have h:=MM.or_add_and a b;rw [PyProof.Rows.bitOr_and,bA];omega
theorem KZ (m:Nat):((Builtin.Int.intBits (m:Int):Nat):Int)=((MM.bits m:Nat):Int):=by
  unfold Builtin.Int.intBits MM.bits;by_cases h:m=0
  · subst h;rfl
  · have e:((m:Int) == 0)=false:=by simp [h]
    rw [e,if_neg h];simp
theorem Gd (n:Nat):(1:Int)*2 ^ n=((2 ^ n:Nat):Int):=by
  rw [Int.one_mul];push_cast;rfl
section
variable {X:Cx}
def rBits:V->List V->Hp->VK->Prop:=λ x vs H Q=>∃ i:Int,x= .int i/\vs=[]/\Q (.int (Builtin.Int.intBits i:Nat)) H
theorem E8:MtM X "int.bit_length" rBits:=by
  intro pins s σ H x vs v us Q I rx rv h;obtain ⟨i,rfl,rfl,q⟩:=h;obtain ⟨t,rfl⟩:=rx;have hus:=rv.zero;subst hus;exact PyProof.Rows.call_int_bit_length ⟨.int _,H,I.tok _,⟨_,rfl⟩,q⟩
end
section
variable {H:Hp} {Q:VK} {σ:St} {D:Ends} {te:TE} {ti:TIp} {i:Nat} {x:V}
theorem Kz {m:Nat} (h:Q (.int (MM.bits m:Nat)) H):rBits (.int (m:Nat)) [] H Q:=⟨m,rfl,rfl,by rw [KZ];exact h⟩
theorem JO (e:σ[i]?=some (some x)) (h:te σ H λ y H1=>ti x y H1 λ z H2=>D.nx (σ.set i (some z)) H2):Nv i te ti D σ H:=⟨x,e,h⟩
end
abbrev nV (n:Nat):V:= .int (n:Nat)
theorem Bi {ns:List Nat} {i:Nat} (h:i<(ns.map nV).length):(ns.map nV).getD i .non= .int (ns.getD i 0:Nat):=by
  have h':i<ns.length:=by simpa using h
  simp [List.getD_eq_getElem?_getD,h']
theorem Eu {ns:List Int} {i:Nat} (h:i<(ns.map V.int).length):(ns.map V.int).getD i .non= .int (ns.getD i 0):=by
  have h':i<ns.length:=by simpa using h
  simp [List.getD_eq_getElem?_getD,h']
theorem Gf {ns:List Nat} {k:Int} (h0:0<=k) (h1:k<ns.length):atI (ns.map nV) k=some (.int (ns.getD k.toNat 0:Nat)):=by
  obtain ⟨j,rfl⟩:∃ j:Nat,k=j:=⟨k.toNat,by omega⟩;have h':j<ns.length:=by omega
  refine AF ?_;rw [show ((j:Int)).toNat=j by omega];simp [List.getD_eq_getElem?_getD,h']
theorem Fv {ns:List Nat} {i:Nat} (h:i<ns.length):ns.take (i+1)=ns.take i++[ns.getD i 0]:=by
  rw [List.take_succ_eq_append_getElem h];simp [List.getD_eq_getElem?_getD,h]
theorem BA {J:It} {g:TG} {σ0:St} {H:Hp} {n:Nat} {st:Nat->St} {te:TE} {Q:VK} {D:Addr} {G:Nat->Int} (S:SrcOk J g σ0 H n st) (hD:H D=none) (hn:n<=100000)
    (he:∀ i H' (R:VK),i<n->Same H H'->(∀ H3,Same H' H3->R (.int (G i)) H3)->te (st i) H' R)
    (hd:∀ H',Same H H'->H' D=some (.lst (((List.range n).map G).map V.int))->Q (.ref D) H'):Da J σ0 g IB te Q H D:=by
  refine Ej (m:=0) (G:=λ i=> .int (G i)) S hD hn (λ i H' R hi s k=>he i H' R hi s λ H3 s3=>k H3 _ s3 (.int _)) λ H' ys s hl r=> ?_;have e:(List.range n).map (λ i=>Dt.int (G i))=((List.range n).map G).map Dt.int:=by rw [List.map_map];rfl
  rw [e] at r;obtain ⟨b,eb,hb,fb⟩:=Hx r;cases eb;exact hd H' s hb
theorem Ee {J:It} {g:TG} {σ0:St} {H:Hp} {n:Nat} {st:Nat->St} {tc:TT} {te:TE} {Q:VK} {D:Addr} {p:Nat->Bool} {G:Nat->Int} (S:SrcOk J g σ0 H n st) (hD:H D=none) (hn:n<=100000)
    (ht:∀ i H' (R:Bool->Hp->Prop),i<n->Same H H'->(∀ H3,Same H' H3->R (p i) H3)->tc (st i) H' R)
    (he:∀ i H' (R:VK),i<n->p i=true->Same H H'->(∀ H3,Same H' H3->R (.int (G i)) H3)->te (st i) H' R)
    (hd:∀ H',Same H H'->H' D=some (.lst ((((List.range n).filter p).map G).map V.int))->Q (.ref D) H'):Da J σ0 g tc te Q H D:=by
  refine Do (m:=0) (p:=p) (G:=λ i=> .int (G i)) S hD hn ht (λ i H' R hi hp s k=>he i H' R hi hp s λ H3 s3=>k H3 _ s3 (.int _)) λ H' ys s hl r=> ?_;have e:((List.range n).filter p).map (λ i=>Dt.int (G i))=(((List.range n).filter p).map G).map Dt.int:=by rw [List.map_map];rfl
  rw [e] at r;obtain ⟨b,eb,hb,fb⟩:=Hx r;cases eb;exact hd H' s hb
theorem Gr {J:It} {g:TG} {σ0:St} {H:Hp} {n:Nat} {st:Nat->St} {te:TE} {Q:VK} {D:Addr} {G:Nat->Bool} (S:SrcOk J g σ0 H n st) (hD:H D=none) (hn:n<=100000)
    (he:∀ i H' (R:VK),i<n->Same H H'->(∀ H3,Same H' H3->R (.bl (G i)) H3)->te (st i) H' R)
    (hd:∀ H',Same H H'->H' D=some (.lst (((List.range n).map G).map V.bl))->Q (.ref D) H'):Da J σ0 g IB te Q H D:=by
  refine Ej (m:=0) (G:=λ i=> .bl (G i)) S hD hn (λ i H' R hi s k=>he i H' R hi s λ H3 s3=>k H3 _ s3 (.bl _)) λ H' ys s hl r=> ?_;have e:ys=((List.range n).map G).map V.bl:=by
    cases r with
    | @lst _ _ vs _ q f b l ee=>
      rw [hl] at q;cases q;refine List.ext_getElem (by simpa using l) λ i h1 h2=> ?_;have hi:i<n:=by simpa using h2
      have:=ee i ys[i] (.bl (G i)) (by simp [h1]) (by simp [hi]);cases hv:ys[i] <;> rw [hv] at this <;> cases this;simp
  rw [e] at hl;exact hd H' s hl
def Bw (P:Program) (w:World) (K:PySem.W.Frag) (mg:Str->Option Value) (base:Heap) (C:Addr) (m:Str) (k:Nat) (ps:List Str) (sp:Sp):Prop:=
  ∃ f fd,Cls K C/\Meth K C m f/\FnOk P w K mg base CX0 k f fd ps sp/\Binds K fd ps []
section
variable {X:Cx} {x m:Str} {C:Addr} {k:Nat} {ps:List Str} {sp:Sp} {o e:Expr} {es:List Expr} {t:TA} {ta:TE} {p pos apos:Pos}
theorem IY {pl:Sem Bool} (he:PE X o ta) (h:Bw X.prog X.w X.K X.mg X.base C m k ps sp) (hr:Room k X.A) (ha:PA X (e::es) t)
    (hst:starEach (e::es) X.env=(false,eval e X.env)::starEach es X.env:=by rfl) (hpl:(backTo pos (starEach es X.env)).any (·.1)=false:=by rfl)
    (ht:eval (.Call (.Attribute o m apos) (e::es) [] pos) X.env=(do
      let ov <-eval o X.env
      standAt apos.atName
      let (f,first) <-holding [ov] (getMethod ov m pl)
      callWith pos f first (backTo pos (starEach (e::es) X.env)) (backToKw pos (keywordEach [] X.env))):=by rfl):
    PE X (.Call (.Attribute o m apos) (e::es) [] pos) (Fh C m sp [] E0 ta t):=by
  obtain ⟨f,fd,c,hm,F,hb⟩:=h;exact Kf (pl:=pl) he c hm F hr hb .nil JW ha hst hpl ht
theorem AL {pl:Sem Bool} (he:PE X o ta) (h:Bw X.prog X.w X.K X.mg X.base C m k ps sp) (hr:Room k X.A)
    (ht:eval (.Call (.Attribute o m apos) [] [] pos) X.env=(do
      let ov <-eval o X.env
      standAt apos.atName
      let (f,first) <-holding [ov] (getMethod ov m pl)
      callWith pos f first (backTo pos (starEach [] X.env)) (backToKw pos (keywordEach [] X.env))):=by rfl):
    PE X (.Call (.Attribute o m apos) [] [] pos) (Fh C m sp [] E0 ta Lb):=by
  obtain ⟨f,fd,c,hm,F,hb⟩:=h;exact Jj (pl:=pl) he c hm F hr hb .nil JW ht
theorem Dh {x:Str} {C:Addr} {pos:Pos} (h:X.mg x=some (.ref C)) (hg:Gl X x:=by rfl) (hd:(x == ("__debug__":Str))=false:=by decide):PE X (.Name x pos) (tC (.ref C)):=Hz hg h rfl hd
def JU (K:PySem.W.Frag):List V->Hp->VK->Prop:=λ xs H Q=>∃ (y:V) (C:Addr) (t:Value) (b:Bool),xs=[y, .ref C]/\TyOf K H y t/\PySem.W.kitOne K t (.ref C)=some b/\Q (.bl b) H
theorem Ke {K:PySem.W.Frag} (hK:X.K=K:=by rfl):AR X (.builtin "isinstance") (JU K):=by
  subst hK;intro pins s σ H xs us Q I r h;obtain ⟨y,C,t,b,rfl,ty,e,q⟩:=h;obtain ⟨u,c,rfl,rx,rc⟩:=Gi r;cases rc;exact Dr I rx ty e λ tk=>⟨.bl b,H,I.tok tk,rfl,q⟩
end
structure Kind (K:PySem.W.Frag) (C:Addr):Prop where
  cl:Cls K C
  ha:PySem.W.findIn K (.ref C) "__class__"=some (some (.builtin "object.__class__"))
  hn:PySem.W.specialIn K (.builtin "object.__class__") "__get__"=some (some (.builtin "getset_descriptor.__get__"))
  htk:PySem.W.takesIn K (.builtin "object.__class__")=some true
  hm:PySem.W.mroIn K C (.type "object")=some true
theorem Kind.ty {K:PySem.W.Frag} {C a dx:Addr} {H:Hp} {fs:List (Str × V)} (k:Kind K C) (e:H a=some (.ins C dx fs)):TyOf K H (.ref a) (.ref C):= .ins e k.cl k.ha k.hn k.htk k.hm
section
variable {K:PySem.W.Frag} {H:Hp} {Q:VK} {σ:St} {D:Ends} {te tv:TE} {t:TA} {a C dx:Addr} {fs:List (Str × V)} {f:Str} {v:V} {sp:Sp}
theorem Jq {y:V} {ty:Value} {b:Bool} (c:TyOf K H y ty) (e:PySem.W.kitOne K ty (.ref C)=some b) (h:Q (.bl b) H):JU K [y, .ref C] H Q:=⟨y,C,ty,b,rfl,c,e,h⟩
theorem MQ (h:te σ H λ x H1=>∃ a C dx fs v,x= .ref a/\H1 a=some (.ins C dx fs)/\Cls K C/\NoAttr K C f/\fs.lookup f=some v/\Q v H1):Mp K te f σ H Q:=h
theorem LV (h:tv σ H λ y H1=>te σ H1 λ x H2=>∃ a C dx fs,x= .ref a/\H2 a=some (.ins C dx fs)/\Cls K C/\NoAttr K C f/\fs.length<1000/\D.nx σ (upd H2 a (.ins C dx (BL f y fs)))):Nd K te tv f D σ H:=h
theorem IN {y:V} (e:H a=some (.ins C dx fs)) (c:Cls K C) (n:NoAttr K C f) (l:fs.length<1000) (h:D.nx σ (upd H a (.ins C dx (BL f y fs)))):∃ a' C' dx' fs',V.ref a= .ref a'/\H a'=some (.ins C' dx' fs')/\Cls K C'/\NoAttr K C' f/\fs'.length<1000/\D.nx σ (upd H a' (.ins C' dx' (BL f y fs'))):=⟨a,C,dx,fs,rfl,e,c,n,l,h⟩
theorem KP (h:t σ H λ vs H1=>∀ x dx,H1 x=none->H1 dx=none->dx≠x->sp (.ref x::vs) (upd (upd H1 dx (.own x)) x (.ins C dx [])) (λ v H2=>v= .non/\Q (.ref x) H2) E0):Ft C sp [] E0 t σ H Q:=by
  unfold Ft;simpa using h
theorem Ki {m:Str} (h:te σ H λ x H1=>∃ a dx fs,x= .ref a/\H1 a=some (.ins C dx fs)/\fs.lookup m=none/\t σ H1 λ vs H2=>sp (x::vs) H2 Q E0):Fh C m sp [] E0 te t σ H Q:=by
  unfold Fh;simpa using h
end
theorem JZ {r r':R2} {ta tb tc:TE} {σ:St} {H:Hp} {Q:VK} (h:ta σ H λ x H1=>tb σ H1 λ y H2=>r x y H2 λ z H3=>∃ k,z= .bl k/\(if k=true then tc σ H3 λ w' H4=>r' y w' H4 Q else Q (.bl false) H3)):Jv r r' ta tb tc σ H Q:=h
def AZ (x:V) (a b:Int):Bool:=match x with | .int i=>decide (a<=i)&&decide (i<=b) | _=>false
theorem Gp {b b':Bool} {Q:VK} {H:Hp} (e:b=b') (h:Q (.bl b') H):Q (.bl b) H:=e▸h
theorem Hh {b:Bool} {A B:Prop} (h1:b=true->A) (h2:b=false->B):if b=true then A else B:=by
  cases b with
  | true=>exact h1 rfl
  | false=>exact h2 rfl
theorem EJ {H:Hp} {x dx:Addr} {o:HO} {u:HO} (h1:H x=none) (h2:H dx=none):Same H (upd (upd H dx u) x o):=λ b q e=>by
  rw [Aj (Ar e h1),Aj (Ar e h2)];exact e
mutual
def eqD:Dt->Dt->Bool
  | .non, .non=>true
  | .bl a, .bl b=>a == b
  | .int a, .int b=>a == b
  | .str a, .str b=>a == b
  | .bl a, .int b=>(if a then 1 else 0) == b
  | .int a, .bl b=>a == (if b then 1 else 0)
  | .lst xs, .lst ys=>B7 xs ys
  | .tup xs, .tup ys=>B7 xs ys
  | _,_=>false
def B7:List Dt->List Dt->Bool
  | [],[]=>true
  | x::xs,y::ys=>eqD x y&&B7 xs ys
  | _,_=>false
end
theorem Bd:∀ {xs ys:List Dt},xs.length≠ys.length->B7 xs ys=false
  | [],[],h=>absurd rfl h
  | [],_::_,_=>by unfold B7;rfl
  | _::_,[],_=>by unfold B7;rfl
  | x::xs,y::ys,h=>by
    unfold B7;rw [Bd (xs:=xs) (ys:=ys) (λ e=>h (by simp [e])),Bool.and_false]
theorem Bg:∀ {xs ys:List Dt},xs.length=ys.length->B7 xs ys=(List.range xs.length).all λ i=>eqD (xs.getD i .non) (ys.getD i .non)
  | [],[],_=>by unfold B7;rfl
  | [],_::_,h=>by simp at h
  | _::_,[],h=>by simp at h
  | x::xs,y::ys,h=>by
    unfold B7;rw [Bg (xs:=xs) (ys:=ys) (by simpa using h),List.length_cons,List.range_succ_eq_map,List.all_cons,List.all_map];rfl
mutual
theorem BZ:∀ d:Dt,eqD d d=true
  | .non=>by unfold eqD;rfl
  | .bl a=>by unfold eqD;simp
  | .int a=>by unfold eqD;simp
  | .str a=>by unfold eqD;simp
  | .lst xs=>by unfold eqD;exact Dk xs
  | .tup xs=>by unfold eqD;exact Dk xs
theorem Dk:∀ d:List Dt,B7 d d=true
  | []=>by unfold B7;rfl
  | x::xs=>by unfold B7;rw [BZ x,Dk xs];rfl
end
theorem Rp.inj {H:Hp} {F G:Addr->Prop} {n m:Nat} {v:V} {d e:Dt} (r:Rp H F n v d) (r2:Rp H G m v e):d=e:=by
  induction r generalizing m e with
  | non=>cases r2;rfl
  | bl b=>cases r2;rfl
  | int i=>cases r2;rfl
  | str z=>cases r2;rfl
  | @lst n a vs ds h f b l el ih=>
    cases r2 with
    | @lst m _ vs2 ds2 h2 f2 b2 l2 el2=>
      rw [h] at h2;cases h2;congr 1;refine List.ext_getElem (by omega) λ i h1 h3=> ?_;have hv:i<vs.length:=by omega
      exact ih i vs[i] ds[i] (by simp [hv]) (by simp [h1]) (el2 i vs[i] ds2[i] (by simp [hv]) (by simp [h3]))
    | tup h2 _ _ _=>rw [h] at h2;cases h2
  | @tup n a vs ds h b l el ih=>
    cases r2 with
    | @tup m _ vs2 ds2 h2 b2 l2 el2=>
      rw [h] at h2;cases h2;congr 1;refine List.ext_getElem (by omega) λ i h1 h3=> ?_;have hv:i<vs.length:=by omega
      exact ih i vs[i] ds[i] (by simp [hv]) (by simp [h1]) (el2 i vs[i] ds2[i] (by simp [hv]) (by simp [h3]))
    | lst h2 _ _ _ _=>rw [h] at h2;cases h2
section
variable {X:Cx} {pins:List (Addr × Obj)} {σ:St} {H:Hp} {s:Shared}
theorem Ci {F G:Addr->Prop} {n:Nat} {xs ys:List V} {ds es:List Dt} {its its2:List Value} {A:Around} (r:Vals xs its) (r2:Vals ys its2) (l1:xs.length=ds.length) (l2:ys.length=es.length)
    (el:∀ (i:Nat) (v:V) (d:Dt),xs[i]?=some v->ds[i]?=some d->Rp H F n v d) (el2:∀ (i:Nat) (v:V) (d:Dt),ys[i]?=some v->es[i]?=some d->Rp H G n v d)
    (ih:∀ {v u:V} {d e:Dt} {rv ru:Value},Rp H F n v d->Rp H G n u e->RelV v rv->RelV u ru->SeqAt.EqAt A s rv ru (eqD d e)):
    ∀ j (h1:j<its.toArray.size) (h2:j<its2.toArray.size),SeqAt.EqAt A s its.toArray[j] its2.toArray[j] (eqD (ds.getD j .non) (es.getD j .non)):=λ j h1 h2=>by
  have k1:=r.length;have k2:=r2.length;have h1':j<its.length:=by simpa using h1
  have h2':j<its2.length:=by simpa using h2
  have g1:xs[j]?=some (xs.getD j .non):=by rw [List.getD_eq_getElem?_getD,List.getElem?_eq_getElem (by omega)];rfl
  have g2:ys[j]?=some (ys.getD j .non):=by rw [List.getD_eq_getElem?_getD,List.getElem?_eq_getElem (by omega)];rfl
  have d1:ds[j]?=some (ds.getD j .non):=by rw [List.getD_eq_getElem?_getD,List.getElem?_eq_getElem (by omega)];rfl
  have d2:es[j]?=some (es.getD j .non):=by rw [List.getD_eq_getElem?_getD,List.getElem?_eq_getElem (by omega)];rfl
  obtain ⟨u,e1,ru⟩:=r.get g1;obtain ⟨u2,e2,ru2⟩:=r2.get g2;have q1:its.toArray[j]=u:=by rw [List.getElem?_eq_getElem h1'] at e1;simpa using Option.some.inj e1
  have q2:its2.toArray[j]=u2:=by rw [List.getElem?_eq_getElem h2'] at e2;simpa using Option.some.inj e2
  rw [q1,q2];exact ih (el j _ _ g1 d1) (el2 j _ _ g2 d2) ru ru2
theorem Bb (A:Around):A.in1.units=A.units+1:=rfl
theorem F5 (I:Inv X pins σ H s) {F G:Addr->Prop}:∀ {n:Nat} {A:Around} {v u:V} {d e:Dt} {rv ru:Value},Rp H F n v d->Rp H G n u e->RelV v rv->RelV u ru->A.units+n<cLine->SeqAt.EqAt A s rv ru (eqD d e):=by
  intro n;have sc:∀ {n m:Nat} {A:Around} {v u:V} {d e:Dt} {rv ru:Value},Rp H F n v d->Rp H G m u e->(Fj d||Ff d)=false->(Fj e||Ff e)=false->RelV v rv->RelV u ru->SeqAt.EqAt A s rv ru (eqD d e):=by
    intro n m A v u d e rv ru r r2 n1 n2 rr rr2;cases r with
    | non=>
      cases rr;cases r2 with
      | non=>
        cases rr2;simp only [eqD];exact (show SeqAt.EqAt A s Value.none Value.none true from SeqAt.EqAt.same _)
      | bl x2=>
        cases rr2;simp only [eqD];exact SeqAt.EqAt.none_bool _
      | int x2=>
        obtain ⟨t2,rfl⟩:=rr2;simp only [eqD];exact SeqAt.EqAt.none_int _ _
      | str x2=>
        obtain ⟨t2,rfl⟩:=rr2;simp only [eqD];exact SeqAt.EqAt.none_str _ _
      | lst _ _ _ _ _=>cases n2
      | tup _ _ _ _=>cases n2
    | bl x1=>
      cases rr;cases r2 with
      | non=>
        cases rr2;simp only [eqD];exact SeqAt.EqAt.bool_none _
      | bl x2=>
        cases rr2;simp only [eqD];exact SeqAt.EqAt.bool_bool _ _
      | int x2=>
        obtain ⟨t2,rfl⟩:=rr2;simp only [eqD];exact SeqAt.EqAt.bool_int _ _ _
      | str x2=>
        obtain ⟨t2,rfl⟩:=rr2;simp only [eqD];exact SeqAt.EqAt.bool_str _ _ _
      | lst _ _ _ _ _=>cases n2
      | tup _ _ _ _=>cases n2
    | int x1=>
      obtain ⟨t1,rfl⟩:=rr;cases r2 with
      | non=>
        cases rr2;simp only [eqD];exact SeqAt.EqAt.int_none _ _
      | bl x2=>
        cases rr2;simp only [eqD];exact SeqAt.EqAt.int_bool _ _ _
      | int x2=>
        obtain ⟨t2,rfl⟩:=rr2;simp only [eqD];exact SeqAt.EqAt.int_int _ _ _ _
      | str x2=>
        obtain ⟨t2,rfl⟩:=rr2;simp only [eqD];exact SeqAt.EqAt.int_str _ _ _ _
      | lst _ _ _ _ _=>cases n2
      | tup _ _ _ _=>cases n2
    | str x1=>
      obtain ⟨t1,rfl⟩:=rr;cases r2 with
      | non=>
        cases rr2;simp only [eqD];exact SeqAt.EqAt.str_none _ _
      | bl x2=>
        cases rr2;simp only [eqD];exact SeqAt.EqAt.str_bool _ _ _
      | int x2=>
        obtain ⟨t2,rfl⟩:=rr2;simp only [eqD];exact SeqAt.EqAt.str_int _ _ _ _
      | str x2=>
        obtain ⟨t2,rfl⟩:=rr2;simp only [eqD];exact SeqAt.EqAt.str_str _ _ _ _
      | lst _ _ _ _ _=>cases n2
      | tup _ _ _ _=>cases n2
    | lst _ _ _ _ _=>cases n1
    | tup _ _ _ _=>cases n1
  induction n with
  | zero=>
    intro A v u d e rv ru r r2 rr rr2 hu;exact sc r r2 (by cases r <;> rfl) (by cases r2 <;> rfl) rr rr2
  | succ n ih=>
    intro A v u d e rv ru r r2 rr rr2 hu;have hu':A.units<cLine:=by omega
    cases h1:(Fj d||Ff d) with
    | false=>
      cases h2:(Fj e||Ff e) with
      | false=>exact sc r r2 h1 h2 rr rr2
      | true=>
        cases r2 with
        | @lst _ b ys es q2 f2 b2 l2 el2=>
          obtain rfl:ru=Value.ref b:=rr2;obtain ⟨its2,rv2,pl2,_⟩:=I.list (SqL.of q2);cases r with
          | non=>cases rr;simp only [eqD];exact SeqAt.EqAt.none_list pl2.isList hu'
          | bl x1=>cases rr;simp only [eqD];exact SeqAt.EqAt.bool_list _ pl2.isList hu'
          | int x1=>obtain ⟨t,rfl⟩:=rr;simp only [eqD];exact SeqAt.EqAt.int_list _ _ pl2.isList hu'
          | str x1=>obtain ⟨t,rfl⟩:=rr;simp only [eqD];exact SeqAt.EqAt.str_list _ _ pl2.isList hu'
          | lst _ _ _ _ _=>cases h1
          | tup _ _ _ _=>cases h1
        | @tup _ b ys es q2 b2 l2 el2=>
          obtain rfl:ru=Value.ref b:=rr2;obtain ⟨its2,rv2,pl2,_⟩:=I.tuple (SqT.of q2);have pl2:s.heap.IsTuple b its2.toArray:=pl2;cases r with
          | non=>cases rr;simp only [eqD];exact SeqAt.EqAt.none_tuple pl2 hu'
          | bl x1=>cases rr;simp only [eqD];exact SeqAt.EqAt.bool_tuple _ pl2 hu'
          | int x1=>obtain ⟨t,rfl⟩:=rr;simp only [eqD];exact SeqAt.EqAt.int_tuple _ _ pl2 hu'
          | str x1=>obtain ⟨t,rfl⟩:=rr;simp only [eqD];exact SeqAt.EqAt.str_tuple _ _ pl2 hu'
          | lst _ _ _ _ _=>cases h1
          | tup _ _ _ _=>cases h1
        | _=>cases h2
    | true=>
      cases r with
      | @lst _ a xs ds q1 f1 b1 l1 el1=>
        obtain rfl:rv=Value.ref a:=rr;obtain ⟨its,rv1,pl,_⟩:=I.list (SqL.of q1);have k1:=rv1.length;cases r2 with
        | @lst _ b ys es q2 f2 b2 l2 el2=>
          obtain rfl:ru=Value.ref b:=rr2;obtain ⟨its2,rv2,pl2,_⟩:=I.list (SqL.of q2);have k2:=rv2.length;by_cases hab:a=b
          · subst hab;have e:=(Rp.lst (n:=n) q1 f1 b1 l1 el1).inj (Rp.lst (n:=n) q2 f2 b2 l2 el2);rw [e,BZ];exact SeqAt.EqAt.same _
          · refine SeqAt.EqAt.of_refs hab ?_;simp only [eqD];by_cases hl:ds.length=es.length
            · rw [Bg hl];have q:=SeqAt.RcAt.lists (A:=A) (e:=λ i=>eqD (ds.getD i .non) (es.getD i .non)) pl.isList pl2.isList (by simp;omega) hu' (Ci rv1 rv2 l1 l2 el1 el2 λ r r2 rr rr2=>ih r r2 rr rr2 (by rw [Bb];omega));rw [show its.toArray.size=ds.length by simp;omega] at q;exact q
            · rw [Bd hl];exact SeqAt.RcAt.lists_lengths pl.isList pl2.isList (by simp;omega) hu'
        | @tup _ b ys es q2 b2 l2 el2=>
          obtain rfl:ru=Value.ref b:=rr2;obtain ⟨its2,rv2,pl2,_⟩:=I.tuple (SqT.of q2);simp only [eqD];exact SeqAt.EqAt.list_tuple pl.isList (show s.heap.IsTuple b its2.toArray from pl2) hu'
        | non=>cases rr2;simp only [eqD];exact SeqAt.EqAt.list_none pl.isList hu'
        | bl x1=>cases rr2;simp only [eqD];exact SeqAt.EqAt.list_bool _ pl.isList hu'
        | int x1=>obtain ⟨t,rfl⟩:=rr2;simp only [eqD];exact SeqAt.EqAt.list_int _ _ pl.isList hu'
        | str x1=>obtain ⟨t,rfl⟩:=rr2;simp only [eqD];exact SeqAt.EqAt.list_str _ _ pl.isList hu'
      | @tup _ a xs ds q1 b1 l1 el1=>
        obtain rfl:rv=Value.ref a:=rr;obtain ⟨its,rv1,pl,_⟩:=I.tuple (SqT.of q1);have pl:s.heap.IsTuple a its.toArray:=pl;have k1:=rv1.length;cases r2 with
        | @tup _ b ys es q2 b2 l2 el2=>
          obtain rfl:ru=Value.ref b:=rr2;obtain ⟨its2,rv2,pl2,_⟩:=I.tuple (SqT.of q2);have pl2:s.heap.IsTuple b its2.toArray:=pl2;have k2:=rv2.length;by_cases hab:a=b
          · subst hab;have e:=(Rp.tup (n:=n) (F:=F) q1 b1 l1 el1).inj (Rp.tup (n:=n) (F:=G) q2 b2 l2 el2);rw [e,BZ];exact SeqAt.EqAt.same _
          · refine SeqAt.EqAt.of_refs hab ?_;simp only [eqD];have q:=SeqAt.RcAt.tuples (A:=A) (e:=λ i=>eqD (ds.getD i .non) (es.getD i .non)) pl pl2 hu' (Ci rv1 rv2 l1 l2 el1 el2 λ r r2 rr rr2=>ih r r2 rr rr2 (by rw [Bb];omega));have e1:its.toArray.size=ds.length:=by simp;omega
            have e2:its2.toArray.size=es.length:=by simp;omega
            rw [e1,e2] at q;by_cases hl:ds.length=es.length
            · rw [Bg hl];rw [<-hl,Nat.min_self,beq_self_eq_true,Bool.and_true] at q;exact q
            · rw [Bd hl];rw [beq_eq_false_iff_ne.mpr hl,Bool.and_false] at q;exact q
        | @lst _ b ys es q2 f2 b2 l2 el2=>
          obtain rfl:ru=Value.ref b:=rr2;obtain ⟨its2,rv2,pl2,_⟩:=I.list (SqL.of q2);simp only [eqD];exact SeqAt.EqAt.tuple_list pl pl2.isList hu'
        | non=>cases rr2;simp only [eqD];exact SeqAt.EqAt.tuple_none pl hu'
        | bl x1=>cases rr2;simp only [eqD];exact SeqAt.EqAt.tuple_bool _ pl hu'
        | int x1=>obtain ⟨t,rfl⟩:=rr2;simp only [eqD];exact SeqAt.EqAt.tuple_int _ _ pl hu'
        | str x1=>obtain ⟨t,rfl⟩:=rr2;simp only [eqD];exact SeqAt.EqAt.tuple_str _ _ pl hu'
      | _=>cases h1
def Nf (neg:Bool):R2:=λ x y H Q=>∃ (n:Nat) (d e:Dt),n<=30/\Rp H FT n x d/\Rp H FT n y e/\(Fj d&&Fj e||Ff d&&Ff e)=true/\Q (.bl (if neg then !eqD d e else eqD d e)) H
theorem Pm (hu:X.A.units+64<cLine):OpR X (compareOp .Eq) (Nf false):=by
  intro pins s σ H x y v u Q I rx ry h;obtain ⟨n,d,e,hn,r,r2,hs,q⟩:=h;cases r with
  | @lst m a xs ds q1 f1 b1 l1 el1=>
    cases r2 with
    | @lst _ b ys es q2 f2 b2 l2 el2=>
      obtain rfl:v=Value.ref a:=rx;obtain rfl:u=Value.ref b:=ry;obtain ⟨its,rv1,pl,_⟩:=I.list (SqL.of q1);obtain ⟨its2,rv2,pl2,_⟩:=I.list (SqL.of q2);have k1:=rv1.length;have k2:=rv2.length;have q:Q (.bl (B7 ds es)) H:=by
        have q:=q;unfold eqD at q;exact q
      by_cases hl:ds.length=es.length
      · refine SeqAt.eq_listAt (e:=λ i=>eqD (ds.getD i .non) (es.getD i .non)) pl.isList pl2.isList (by simp;omega) (by omega) (Ci rv1 rv2 l1 l2 el1 el2 λ r r2 rr rr2=>F5 I r r2 rr rr2 (by rw [Bb];omega)) ⟨.bl _,H,I,rfl,?_⟩;rw [show its.toArray.size=ds.length by simp;omega, <-Bg hl];exact q
      · refine SeqAt.eq_list_lengthsAt pl.isList pl2.isList (by simp;omega) (by omega) ⟨.bl _,H,I,rfl,?_⟩;rw [<-Bd hl];exact q
    | _=>cases hs
  | @tup m a xs ds q1 b1 l1 el1=>
    cases r2 with
    | @tup _ b ys es q2 b2 l2 el2=>
      obtain rfl:v=Value.ref a:=rx;obtain rfl:u=Value.ref b:=ry;obtain ⟨its,rv1,pl,_⟩:=I.tuple (SqT.of q1);obtain ⟨its2,rv2,pl2,_⟩:=I.tuple (SqT.of q2);have k1:=rv1.length;have k2:=rv2.length;have q:Q (.bl (B7 ds es)) H:=by
        have q:=q;unfold eqD at q;exact q
      refine SeqAt.eq_tupleAt (e:=λ i=>eqD (ds.getD i .non) (es.getD i .non)) (show s.heap.IsTuple a its.toArray from pl) (show s.heap.IsTuple b its2.toArray from pl2) (by omega) (Ci rv1 rv2 l1 l2 el1 el2 λ r r2 rr rr2=>F5 I r r2 rr rr2 (by rw [Bb];omega)) ⟨.bl _,H,I,rfl,?_⟩;have e1:its.toArray.size=ds.length:=by simp;omega
      have e2:its2.toArray.size=es.length:=by simp;omega
      rw [e1,e2];by_cases hl:ds.length=es.length
      · rw [<-hl,Nat.min_self,beq_self_eq_true,Bool.and_true, <-Bg hl];exact q
      · rw [beq_eq_false_iff_ne.mpr hl,Bool.and_false, <-Bd hl];exact q
    | _=>cases hs
  | _=>cases hs
theorem Jf (hu:X.A.units+64<cLine):OpR X (compareOp .NotEq) (Nf true):=by
  intro pins s σ H x y v u Q I rx ry h;obtain ⟨n,d,e,hn,r,r2,hs,q⟩:=h;cases r with
  | @lst m a xs ds q1 f1 b1 l1 el1=>
    cases r2 with
    | @lst _ b ys es q2 f2 b2 l2 el2=>
      obtain rfl:v=Value.ref a:=rx;obtain rfl:u=Value.ref b:=ry;obtain ⟨its,rv1,pl,_⟩:=I.list (SqL.of q1);obtain ⟨its2,rv2,pl2,_⟩:=I.list (SqL.of q2);have k1:=rv1.length;have k2:=rv2.length;have q:Q (.bl (!B7 ds es)) H:=by
        have q:=q;unfold eqD at q;exact q
      by_cases hl:ds.length=es.length
      · refine SeqAt.RcNeAt.lists (e:=λ i=>eqD (ds.getD i .non) (es.getD i .non)) pl.isList pl2.isList (by simp;omega) (by omega) (Ci rv1 rv2 l1 l2 el1 el2 λ r r2 rr rr2=>F5 I r r2 rr rr2 (by rw [Bb];omega)) _ _ _ _ ⟨.bl _,H,I,rfl,?_⟩;rw [show its.toArray.size=ds.length by simp;omega, <-Bg hl];exact q
      · refine SeqAt.RcNeAt.lists_lengths pl.isList pl2.isList (by simp;omega) (by omega) _ _ _ _ ⟨.bl _,H,I,rfl,?_⟩;rw [Bd hl] at q;exact q
    | _=>cases hs
  | @tup m a xs ds q1 b1 l1 el1=>
    cases r2 with
    | @tup _ b ys es q2 b2 l2 el2=>
      obtain rfl:v=Value.ref a:=rx;obtain rfl:u=Value.ref b:=ry;obtain ⟨its,rv1,pl,_⟩:=I.tuple (SqT.of q1);obtain ⟨its2,rv2,pl2,_⟩:=I.tuple (SqT.of q2);have k1:=rv1.length;have k2:=rv2.length;have q:Q (.bl (!B7 ds es)) H:=by
        have q:=q;unfold eqD at q;exact q
      refine SeqAt.RcNeAt.tuples (e:=λ i=>eqD (ds.getD i .non) (es.getD i .non)) (show s.heap.IsTuple a its.toArray from pl) (show s.heap.IsTuple b its2.toArray from pl2) (by omega) (Ci rv1 rv2 l1 l2 el1 el2 λ r r2 rr rr2=>F5 I r r2 rr rr2 (by rw [Bb];omega)) _ _ _ _ ⟨.bl _,H,I,rfl,?_⟩;have e1:its.toArray.size=ds.length:=by simp;omega
      have e2:its2.toArray.size=es.length:=by simp;omega
      rw [e1,e2];by_cases hl:ds.length=es.length
      · rw [<-hl,Nat.min_self,beq_self_eq_true,Bool.and_true, <-Bg hl];exact q
      · rw [beq_eq_false_iff_ne.mpr hl,Bool.and_false, <-Bd hl];exact q
    | _=>cases hs
  | _=>cases hs
end
end L2
namespace L2
open PySem PySem.Spec PyProof.Rows
abbrev dN (n:Nat):Dt:= .int (n:Nat)
def dL (ns:List Nat):Dt:= .lst (ns.map dN)
def dT (ns:List Nat):Dt:= .tup (ns.map dN)
def dS (zs:List Str):Dt:= .lst (zs.map .str)
section
variable {H:Hp} {F:Addr->Prop} {n:Nat} {v:V}
theorem JK {α:Type} {f:α->V} {g:α->Dt} (uniq:∀ (a:α) (v:V),Rp H F n v (g a)->v=f a) {vs:List V} {as:List α} (l:vs.length=(as.map g).length)
    (e:∀ (i:Nat) (v:V) (d:Dt),vs[i]?=some v->(as.map g)[i]?=some d->Rp H F n v d):vs=as.map f:=by
  refine List.ext_getElem (by simpa using l) λ i h1 h2=> ?_;have h3:i<as.length:=by simpa using h2
  rw [List.getElem_map];exact uniq _ _ (e i vs[i] (g as[i]) (by simp [h1]) (by simp [h3]))
theorem Mt (a:Str) (v:V) (r:Rp H F n v (.str a)):v= .str a:=by cases r;rfl
theorem MV {zs:List Str} (r:Rp H F n v (dS zs)):∃ a,v= .ref a/\H a=some (.lst (zs.map V.str))/\F a/\zs.length<=100000:=by
  unfold dS at r;cases r with
  | @lst m a vs _ h f b l e=>
    have q:=JK (f:=V.str) (λ a v r=>Mt a v r) l e;subst q;exact ⟨a,rfl,h,f,by simpa using b⟩
theorem LE {α:Type} {f:α->V} {g:α->Dt} {as:List α} (k:∀ a∈as,Rp H F n (f a) (g a)):∀ (i:Nat) (v:V) (d:Dt),(as.map f)[i]?=some v->(as.map g)[i]?=some d->Rp H F n v d:=by
  intro i v d h1 h2;rw [List.getElem?_map] at h1 h2;cases e:as[i]? with
  | none=>rw [e] at h1;cases h1
  | some a=>
    rw [e] at h1 h2;cases h1;cases h2;exact k a (List.mem_of_getElem? e)
theorem J4 {a:Addr} {ns:List Nat} (h:H a=some (.lst (ns.map nV))) (f:F a) (b:ns.length<=100000):Rp H F (n+1) (.ref a) (dL ns):= .lst h f (by simpa using b) (by simp) (LE λ k _=> .int _)
theorem Gh {α β:Type} (f:α->β) (as:List α) (i:Nat) (x:β) (y:α) (h:i<as.length):(as.map f).getD i x=f (as.getD i y):=by simp [List.getD_eq_getElem?_getD,h]
theorem ED {zs:List Str} {i:Nat} (h:i<(zs.map V.str).length):(zs.map V.str).getD i .non= .str (zs.getD i Str.empty):=Gh V.str zs i .non Str.empty (by simpa using h)
theorem Bh {α:Type} {as:List α} {i:Nat} {y:α} (h:i<as.length):as.getD i y∈as:=by
  rw [List.getD_eq_getElem?_getD,List.getElem?_eq_getElem h];exact List.getElem_mem h
end
section
variable {H:Hp} {a:Addr} {kvs:List (Key × V)}
end
theorem M3 {xs:List V} {k:Int} (h:0<=k):FM xs (some k) none=xs.drop k.toNat:=by
  unfold FM;have e2:HT.sIx xs.length xs.length none=xs.length:=rfl;rw [e2];have e1:HT.sIx xs.length 0 (some k)=min k.toNat xs.length:=by
    unfold HT.sIx;simp only;split <;> omega
  rw [e1];by_cases q:k.toNat<=xs.length
  · rw [Nat.min_eq_left q,List.take_of_length_le (by simp)]
  · rw [Nat.min_eq_right (by omega),List.drop_of_length_le (Nat.le_refl _),List.drop_of_length_le (by omega)];simp
theorem MC {xs:List V} {k:Int} (h:0<=k):FM xs none (some k)=xs.take k.toNat:=by
  unfold FM;have e2:HT.sIx xs.length 0 none=0:=rfl;rw [e2,List.drop_zero];have e1:HT.sIx xs.length xs.length (some k)=min k.toNat xs.length:=by
    unfold HT.sIx;simp only;split <;> omega
  rw [e1,Nat.sub_zero];by_cases q:k.toNat<=xs.length
  · rw [Nat.min_eq_left q]
  · rw [Nat.min_eq_right (by omega),List.take_of_length_le (Nat.le_refl _),List.take_of_length_le (by omega)]
section
variable {K:PySem.W.Frag} {wi:TI} {own:List Str} {fr:List (Str × Nat)} {g:TG} {tc:TT} {te tl:TE} {tb:TS} {D:Ends} {σ:St} {H:Hp} {Q:VK} {R:It->Hp->Prop} {ta:TA}
theorem Kb (h:wi σ H λ J H1=>∀ D,H1 D=none->Da J (CY own fr σ) g tc te Q H1 D):Ek wi own fr g tc te σ H Q:=h
theorem LP (h:wi σ H λ J H1=>∃ W:Nat->Nat->St->Hp->Prop,(∃ m,W 0 m σ H1)/\∀ i m σ H,W i m σ H->
  (J.stop i H/\D.nx σ H)\/(J.go i H/\∃ N:St->Hp->Prop,(∀ σ' H',N σ' H'->∃ m',m'<m/\W (i+1) m' σ' H')/\∀ x H',J.yld i H x H'->g x σ H' λ σ2 H2=>tb { D with nx:=N,ct:=N,bk:=D.nx } σ2 H2)):Nm wi g tb D σ H:=h
theorem NA (h:tl σ H λ x H1=>∃ a,x= .ref a/\(∃ xs,SqL K H1 a xs)/\R (Itl K a) H1):JV K tl σ H R:=h
theorem M5 (h:tl σ H λ x H1=>∃ a,x= .ref a/\(∃ xs,SqT K H1 a xs)/\R (Itt K a) H1):L5 K tl σ H R:=h
theorem M0 (h:tl σ H λ x H1=>∃ tp a,x= .ref a/\(∃ xs,SqS tp K H1 a xs)/\R (Isq tp K a) H1):iSq K tl σ H R:=h
theorem M2 (h:ta σ H λ vs H1=>∃ a,vs=[.ref a]/\(∃ xs,SqL K H1 a xs)/\R (Ite K a) H1):Ls K ta σ H R:=h
theorem MS (h:ta σ H λ vs H1=>∃ tp a,vs=[.ref a]/\(∃ xs,SqS tp K H1 a xs)/\R (J1 tp K a) H1):Ja K ta σ H R:=h
theorem Nl (h:ta σ H λ vs H1=>∃ j:Int,vs=[.int j]/\ -(2 ^ 62)<=j/\j<2 ^ 62/\R (Itr 0 j.toNat) H1):Lv ta σ H R:=h
theorem Nw (h:ta σ H λ vs H1=>∃ i j:Int,vs=[.int i, .int j]/\(-(2 ^ 62)<=i/\i<2 ^ 62/\ -(2 ^ 62)<=j/\j<2 ^ 62)/\R (Itr i (j - i).toNat) H1):Li ta σ H R:=h
end
theorem Bv {J:It} {g:TG} {H0 H:Hp} {n:Nat} {set:Nat->St->St} {tb:TS} {D:Ends} {σ:St} (S:FSrc J g H0 n set) (Pv:Nat->St->Hp->Prop) (h0:Pv 0 σ H) (hk:∀ i σ H',Pv i σ H'->Same H0 H')
    (hs:∀ i σ H' H3,i<n->Pv i σ H'->Same H' H3->tb { D with nx:=Pv (i+1),ct:=Pv (i+1),bk:=D.nx } (set i σ) H3) (hd:∀ σ H',Pv n σ H'->D.nx σ H'):
    ∃ W:Nat->Nat->St->Hp->Prop,(∃ m,W 0 m σ H)/\∀ i m σ H,W i m σ H->
      (J.stop i H/\D.nx σ H)\/(J.go i H/\∃ N:St->Hp->Prop,(∀ σ' H',N σ' H'->∃ m',m'<m/\W (i+1) m' σ' H')/\∀ x H',J.yld i H x H'->g x σ H' λ σ2 H2=>tb { D with nx:=N,ct:=N,bk:=D.nx } σ2 H2):=by
  refine ⟨λ i m σ H'=>m=n - i/\i<=n/\Pv i σ H',⟨n,by simp,Nat.zero_le _,h0⟩,?_⟩;rintro i m σ H1 ⟨rfl,hi,p⟩;by_cases hlt:i<n
  · exact .inr ⟨S.go i H1 hlt (hk _ _ _ p),Pv (i+1),λ σ' H' p'=>⟨n - (i+1),by omega,rfl,hlt,p'⟩,λ x H' y=>S.yld i σ H1 x H' _ hlt (hk _ _ _ p) y λ H3 s3=>hs i σ H1 H3 hlt p s3⟩
  · have e:i=n:=by omega
    subst e;exact .inl ⟨S.stop H1 (hk _ _ _ p),hd σ H1 p⟩
theorem Fx {H:Hp} {i1 n:Nat}:FSrc (Itr 0 n) (AB i1) H n (λ i σ=>σ.set i1 (some (.int (i:Nat)))):=by
  have:=GH (H:=H) (i1:=i1) (lo:=0) (n:=n);simpa using this
theorem GZ {n:Nat} {σ0:St} {H:Hp} (h0:σ0[0]?=some none):SrcOk (Itr 0 n) (AB 0) σ0 H n (λ i=>σ0.set 0 (some (.int (i:Nat)))):=by
  have:=Dn (H:=H) (lo:=0) (n:=n) h0;simpa using this
theorem O6 {H:Hp} {F:Addr->Prop} {n:Nat} {a:Addr} {x y:V} {d e:Dt} (h:H a=some (.lst [x,y])) (f:F a) (r1:Rp H F n x d) (r2:Rp H F n y e):Rp H F (n+1) (.ref a) (.lst [d,e]):=by
  refine .lst h f (by simp) rfl λ i v u h1 h2=> ?_
  match i with
  | 0=>cases h1;cases h2;exact r1
  | 1=>cases h1;cases h2;exact r2
  | i+2=>cases h1
theorem DU {H:Hp} {F:Addr->Prop} {n:Nat} {a:Addr} {x y:V} {d e:Dt} (h:H a=some (.tup [x,y])) (r1:Rp H F n x d) (r2:Rp H F n y e):Rp H F (n+1) (.ref a) (.tup [d,e]):=by
  refine .tup h (by simp) rfl λ i v u h1 h2=> ?_
  match i with
  | 0=>cases h1;cases h2;exact r1
  | 1=>cases h1;cases h2;exact r2
  | i+2=>cases h1
theorem LA {A B:Prop} (h:B):if (!true)=true then A else B:=by simpa using h
theorem Nx {A B:Prop} (h:A):if (!false)=true then A else B:=by simpa using h
end L2
namespace L2
theorem FL {α:Type} {as:List α} {i:Nat} {y:α} (h:i<as.length):as.getD i y=as[i]:=by
  rw [List.getD_eq_getElem?_getD,List.getElem?_eq_getElem h];rfl
end L2
namespace L2
open PySem PySem.Spec PyProof.Rows
theorem MX {f:Nat->Bool} {w:Nat} (h:f w=true):MM.ofB f (w+1)=MM.ofB f w+2 ^ w:=by
  show MM.ofB f w+(f w).toNat*2 ^ w=_;rw [h,Bool.toNat_true,Nat.one_mul]
theorem NH {f:Nat->Bool} {w:Nat} (h:f w=false):MM.ofB f (w+1)=MM.ofB f w:=by
  show MM.ofB f w+(f w).toNat*2 ^ w=_;rw [h,Bool.toNat_false,Nat.zero_mul,Nat.add_zero]
theorem Hi {n j y:Nat} (h:j<n):(List.range n).getD j y=j:=by
  rw [FL (by simpa using h),List.getElem_range]
theorem HW {α:Type} (f:Nat->α) {n j:Nat} {y:α} (h:j<n):((List.range n).map f).getD j y=f j:=by
  rw [Gh f (List.range n) j y 0 (by simpa using h),Hi h]
def Nq (i j:Int):Prop:=0<j/\j<2 ^ 200
theorem Iw {j:Int} (h0:0<j) (h:j<2 ^ 200):j.natAbs.log2<9000:=by
  have h1:j.natAbs<2 ^ 200:=by omega
  have:=(Nat.log2_lt (show j.natAbs≠0 by omega)).mpr h1;omega
theorem Cc {X:Cx}:OpR X (binaryOp .FloorDiv) (rI Nq λ i j=> .int (i / j)):=opI λ i j _ _ _ _ _ hc q=>by
  rw [<-Int.fdiv_eq_ediv_of_nonneg i (by have:=hc.1;omega)] at q;exact floordiv_int (by have:=hc.1;omega) q (.inl (PyProof.noPylong_of_log2 (Iw hc.1 hc.2)))
section
variable {prog:Program} {w:World} {A:Around} {E:Value->Shared->Prop} {s:Shared} {T:String} {r d:Addr} {n:Nat} {P:Nat->Value->Prop} {St:Nat->Heap->Prop}
end
section
variable {prog:Program} {w:World} {A:Around} {E:Value->Shared->Prop} {s:Shared}
end
section
variable {X:Cx} {K:PySem.W.Frag} {e o:Expr} {ta:TA} {to:TE} {p p2 pos pos2 apos cpos:Pos}
end
section
variable {X:Cx} {K:PySem.W.Frag} {e o:Expr} {es:List Expr} {ta to:TE} {t:TA} {f name:Str} {pos apos cpos:Pos} {T id:String} {r:V->List V->Hp->VK->Prop}
theorem Gt (he:PE X e ta) (hb:attributeBase e f X.env (eval e X.env)=eval e X.env) (hK:X.K=K:=by rfl):PE X (.Attribute e f pos) (Mp K ta f):=by
  subst hK;exact L7 he hb
theorem LG (pa:PlainAttrs T) (slot:Slot T name id) (hty:typeOf (.builtin id)=pure (.type "method_descriptor")) (hm:MtR X id r) (ho:PE X o to) (hK:X.K=K:=by rfl)
    (hbase:attributeBase o name X.env (eval o X.env)=eval o X.env:=by rfl) (hline:(apos.endLine == cpos.line)=true:=by rfl):PE X (.Call (.Attribute o name apos) [] [] cpos) (Mm K T r to):=by
  subst hK;exact L4 pa slot hty hm ho hbase hline
theorem LD (pa:PlainAttrs T) (slot:Slot T name id) (hty:typeOf (.builtin id)=pure (.type "method_descriptor")) (hm:MtR X id r) (ho:PE X o to) (ha:PA X (e::es) t) (hK:X.K=K:=by rfl)
    (hbase:attributeBase o name X.env (eval o X.env)=eval o X.env:=by rfl)
    (hfew:((backTo cpos (starEach (e::es) X.env)).all (λ x=> !x.1)&&(backToKw cpos (keywordEach [] X.env)).all (λ x=>x.1.isSome)
      && decide ((e::es).length+([]:List Keyword).length+(if ([]:List Keyword).isEmpty then 0 else 1)<30))=true:=by rfl)
    (hline:(apos.endLine == cpos.line)=true:=by rfl) (hs:starEach (e::es) X.env=(false,eval e X.env)::starEach es X.env:=by rfl) (hplain:(backTo cpos (starEach es X.env)).any (·.1)=false:=by rfl):
    PE X (.Call (.Attribute o name apos) (e::es) [] cpos) (tBM K T r to t):=by
  subst hK;exact M6 pa slot hty hm ho ha hbase hfew hline hs hplain
end
section
variable {prog:Program} {w:World} {A:Around} {E:Value->Shared->Prop} {s:Shared}
end
section
variable {X:Cx} {K:PySem.W.Frag} {e o:Expr} {ta:TA} {to:TE} {p p2 pos pos2 apos cpos:Pos}
end
section
variable {X:Cx} {k:Nat} {e o:Expr} {es:List Expr} {t:TA} {to:TE} {pos:Pos} {S:Addr->Sp->Prop}
end
theorem arg1 {α:Type} {P:List α->Prop} (h:∀ a0,P [a0]):∀ us:List α,us.length=1->P us:=λ us hl=>match us,hl with | [a0],_=>h a0
theorem arg2 {α:Type} {P:List α->Prop} (h:∀ a0 a1,P [a0,a1]):∀ us:List α,us.length=2->P us:=λ us hl=>match us,hl with | [a0,a1],_=>h a0 a1
theorem arg3 {α:Type} {P:List α->Prop} (h:∀ a0 a1 a2,P [a0,a1,a2]):∀ us:List α,us.length=3->P us:=λ us hl=>match us,hl with | [a0,a1,a2],_=>h a0 a1 a2
theorem arg4 {α:Type} {P:List α->Prop} (h:∀ a0 a1 a2 a3,P [a0,a1,a2,a3]):∀ us:List α,us.length=4->P us:=λ us hl=>match us,hl with | [a0,a1,a2,a3],_=>h a0 a1 a2 a3
theorem arg5 {α:Type} {P:List α->Prop} (h:∀ a0 a1 a2 a3 a4,P [a0,a1,a2,a3,a4]):∀ us:List α,us.length=5->P us:=λ us hl=>match us,hl with | [a0,a1,a2,a3,a4],_=>h a0 a1 a2 a3 a4
theorem arg6 {α:Type} {P:List α->Prop} (h:∀ a0 a1 a2 a3 a4 a5,P [a0,a1,a2,a3,a4,a5]):∀ us:List α,us.length=6->P us:=λ us hl=>match us,hl with | [a0,a1,a2,a3,a4,a5],_=>h a0 a1 a2 a3 a4 a5
theorem arg7 {α:Type} {P:List α->Prop} (h:∀ a0 a1 a2 a3 a4 a5 a6,P [a0,a1,a2,a3,a4,a5,a6]):∀ us:List α,us.length=7->P us:=λ us hl=>match us,hl with | [a0,a1,a2,a3,a4,a5,a6],_=>h a0 a1 a2 a3 a4 a5 a6
theorem arg8 {α:Type} {P:List α->Prop} (h:∀ a0 a1 a2 a3 a4 a5 a6 a7,P [a0,a1,a2,a3,a4,a5,a6,a7]):∀ us:List α,us.length=8->P us:=λ us hl=>match us,hl with | [a0,a1,a2,a3,a4,a5,a6,a7],_=>h a0 a1 a2 a3 a4 a5 a6 a7
theorem arg9 {α:Type} {P:List α->Prop} (h:∀ a0 a1 a2 a3 a4 a5 a6 a7 a8,P [a0,a1,a2,a3,a4,a5,a6,a7,a8]):∀ us:List α,us.length=9->P us:=λ us hl=>match us,hl with | [a0,a1,a2,a3,a4,a5,a6,a7,a8],_=>h a0 a1 a2 a3 a4 a5 a6 a7 a8
structure BlkScopeC (X:Cx) (scope:Scope) (cx:Str) (own:List Str) (fr:List (Str × Nat)):Prop where
  kind:scope.kind= .function
  onec:∀ y∈scope.names,y.2= .cell->y.1=cx
  isc:scope.names.lookup cx=some .cell
  lay:∀ n cl,cellsFrom n scope.names cl=(cx,n)::cl
  push:∀ h:Heap,pushCells h scope.names=h.push { cls:= .type "cell",data:= .cell none }
  loc:∀ y∈scope.names,y.2= .local->scope.names.lookup y.1=some .local
  free:∀ y∈scope.names,y.2= .free->(X.env.scope.names.lookup y.1=some .cell\/X.env.scope.names.lookup y.1=some .free)
  fr:∀ p∈fr,X.N[p.2]?=some p.1/\(p.1,NameKind.free)∈scope.names
  only:∀ x,(x,NameKind.free)∈scope.names->scope.names.lookup x=some .free
section
variable {X:Cx} {pins:List (Addr × Obj)} {σ:St} {H:Hp} {s:Shared} {scope:Scope} {cx:Str} {own:List Str} {fr:List (Str × Nat)} {fp:List Addr}
end
section
variable {X:Cx}
end
section
variable {X:Cx} {scope:Scope} {cx:Str} {own:List Str} {fr:List (Str × Nat)}
end
section
variable {X:Cx} {K:PySem.W.Frag} {scope:Scope} {fr:List (Str × Nat)}
theorem Io {elt iter:Expr} {x:Str} {px:Pos} {ifs:List Expr} {pos:Pos} {wi:TI} {tc:TT} {te:TE} (hi:PI X (.Name x px) iter wi)
    (ht:∀ C ex s H,PTs (AD X scope [x] fr C ex s H) ifs tc) (he:∀ C ex s H,PE (AD X scope [x] fr C ex s H) elt te)
    (hb:CH X.env.scope X.N scope [x] fr=true:=by with_unfolding_all rfl) (hc:X.calm=true:=by rfl)
    (hs:∀ x,foldedSetIterable iter X.env x=pure x:=by intro _;rfl):PE X (.ListComp elt [⟨.Name x px,iter,ifs,0⟩] scope pos) (Ek wi [x] fr (AB 0) tc te):=
  FG hc (.of hb) hi (λ C ex s H=>Ew hb rfl C ex s H) ht he hs
end
section
variable {X:Cx} {e o:Expr} {es:List Expr} {t:TA} {to:TE} {pos:Pos} {S:Addr->Sp->Prop}
end
def Lj:List V->Hp->VK->Prop:=λ xs H Q=>∃ i j,xs=[.int i, .int j]/\Q (.int (if j>i then j else i)) H
def Ln:List V->Hp->VK->Prop:=λ xs H Q=>∃ i j,xs=[.int i, .int j]/\Q (.int (if j<i then j else i)) H
section
variable {X:Cx} {K:PySem.W.Frag}
theorem Ml (hc:X.calm=true:=by rfl):AR X (.builtin "max") Lj:=Ig hc
theorem LH (hc:X.calm=true:=by rfl):AR X (.builtin "min") Ln:=IG hc
end
theorem Ko {H:Hp} {Q:VK} {i j:Int} (h:Q (.int (if j>i then j else i)) H):Lj [.int i, .int j] H Q:=⟨i,j,rfl,h⟩
theorem KI {H:Hp} {Q:VK} {i j:Int} (h:Q (.int (if j<i then j else i)) H):Ln [.int i, .int j] H Q:=⟨i,j,rfl,h⟩
end L2
namespace HT
open PySem PySem.Spec PyProof.Rows
variable {prog:Program} {w:World} {A:Around} {E:Value->Shared->Prop} {s:Shared}
end HT
namespace L2
open PySem PySem.Spec PyProof.Rows
theorem Ie (as bs:List Str):DM (as.map V.str) (bs.map V.str)=decide (as=bs):=by
  rw [Bool.eq_iff_iff,decide_eq_true_iff];unfold DM;simp only [Bool.and_eq_true,beq_iff_eq,List.length_map,List.all_eq_true,List.mem_range];constructor
  · rintro ⟨h1,h2⟩;refine List.ext_getElem h1 λ i ha hb=> ?_;have h3:=h2 i ha;rw [ED (by simpa using ha),ED (by simpa using hb)] at h3;have h4:(as.getD i Str.empty == bs.getD i Str.empty)=true:=h3;rw [beq_iff_eq,FL ha,FL hb] at h4;exact h4
  · rintro rfl;refine ⟨rfl,λ i hi=> ?_⟩;rw [ED (by simpa using hi)];show (as.getD i Str.empty == as.getD i Str.empty)=true;rw [beq_iff_eq]
def f2 (o:Obj):Option Value:=match o.data with
  | .fields vs=>vs[2]?
  | _=>none
def DK {α:Type}:Sem α->Prop
  | .rule _ k=>DK (k ())
  | .at _ k=>DK (k ())
  | .load _ _ k=>∀ o,DK (k o)
  | .update _ _ f k=>(∀ o,(f o).dict=o.dict/\f2 (f o)=f2 o)/\DK (k ())
  | .loadIfAlive _ k=>∀ o,DK (k o)
  | .point _ k=>DK (k ())
  | .alloc _ k=>∀ a,DK (k a)
  | .fresh k=>∀ t,DK (k t)
  | .ask k=>∀ t,DK (k t)
  | .choose _ _ k=>∀ t,DK (k t)
  | .os _ _ k=>∀ t,DK (k t)
  | .call .. => False
  | .handled _ k=>∀ t,DK (k t)
  | .genState _ k=>∀ t,DK (k t)
  | .newGen _ k=>∀ t,DK (k t)
  | .resume .. => False
  | .stack k=>∀ t,DK (k t)
  | .thread k=>∀ t,DK (k t)
  | _=>True
def KD (h h':Heap):Prop:=∀ (b:Nat) (o:Obj),h.objs[b]?=some o->∃ o',h'.objs[b]?=some o'/\o'.dict=o.dict/\f2 o'=f2 o
theorem KD.refl (h:Heap):KD h h:=λ b o e=>⟨o,e,rfl,rfl⟩
theorem KD.trans {h h1 h2:Heap} (a:KD h h1) (b:KD h1 h2):KD h h2:=λ c o e=>by
  obtain ⟨o1,e1,d1,c1⟩:=a c o e;obtain ⟨o2,e2,d2,c2⟩:=b c o1 e1;exact ⟨o2,e2,d2.trans d1,c2.trans c1⟩
theorem Ji {h:Heap} {b:Addr} {o:Obj} (e:h.get? b=some o):h.objs[b]?=some o:=by
  unfold Heap.get? at e;split at e
  · cases e
  · exact e
theorem KD.at' {h h':Heap} (k:KD h h') {b:Addr} {o o':Obj} (e:h.get? b=some o) (e':h'.get? b=some o'):o'.dict=o.dict/\f2 o'=f2 o:=by
  obtain ⟨o1,e1,d1⟩:=k b o (Ji e);rw [Ji e'] at e1;cases e1;exact d1
theorem KD.push (h:Heap) (o:Obj):KD h (h.push o):=λ b u e=>by
  refine ⟨u,?_,rfl,rfl⟩;show (h.objs.push o)[b]?=some u;have hb:b<h.objs.size:=(Array.getElem?_eq_some_iff.mp e).1;rw [Array.getElem?_push_lt hb];rw [Array.getElem?_eq_getElem hb] at e;exact e
theorem KD.upd (h:Heap) (a:Addr) {f:Obj->Obj} (hf:∀ o,(f o).dict=o.dict/\f2 (f o)=f2 o):KD h (h.update a f):=λ b u e=>by
  have hb:b<h.objs.size:=(Array.getElem?_eq_some_iff.mp e).1;show ∃ o',(h.objs.modify a f)[b]?=some o'/\_;rw [Array.getElem?_modify,e];by_cases q:a=b
  · rw [if_pos q];exact ⟨f u,rfl,hf u⟩
  · rw [if_neg q];exact ⟨u,rfl,rfl,rfl⟩
theorem Nu {α:Type} {M:Model} {Γ:PySem.Ctx}:∀ (t:Sem α) (Q:α->Pos->Shared->Prop) (E:Value->Pos->Shared->Prop) (p:Pos) (s s0:Shared),DK t->KD s0.heap s.heap->Sem.wp M Γ t Q E p s->
    Sem.wp M Γ t (λ a p s'=>Q a p s'/\KD s0.heap s'.heap) (λ a p s'=>E a p s'/\KD s0.heap s'.heap) p s:=by
  intro t
  induction t with
  | pure a=>intro Q E p s s0 _ k h;rw [Sem.wp] at h ⊢;exact ⟨h,k⟩
  | raise e=>intro Q E p s s0 _ k h;rw [Sem.wp] at h ⊢;exact ⟨h,k⟩
  | unsupported w=>intro Q E p s s0 _ k h;rw [Sem.wp] at h;exact h.elim
  | finish e=>intro Q E p s s0 _ k h;rw [Sem.wp] at h;exact h.elim
  | rule t k ih=>intro Q E p s s0 d k h;rw [Sem.wp] at h ⊢;exact ih () Q E p s s0 d k h
  | «at» t k ih=>intro Q E p s s0 d k h;rw [Sem.wp] at h ⊢;exact ih () Q E _ s s0 d k h
  | load a part k ih=>
    intro Q E p s s0 d k h;rw [Sem.wp] at h ⊢;obtain ⟨o,e,h⟩:=h;exact ⟨o,e,ih o Q E p s s0 (d o) k h⟩
  | update a part f k ih=>
    intro Q E p s s0 d k h;rw [Sem.wp] at h ⊢;exact ⟨h.1,ih () Q E p _ s0 d.2 (k.trans (KD.upd s.heap a d.1)) h.2⟩
  | alloc o k ih=>intro Q E p s s0 d k h;rw [Sem.wp] at h ⊢;exact ih _ Q E p _ s0 (d _) (k.trans (KD.push _ _)) h
  | loadIfAlive a k ih=>intro Q E p s s0 d k h;rw [Sem.wp] at h ⊢;exact ih _ Q E p _ s0 (d _) k h
  | point l k ih=>intro Q E p s s0 d k h;rw [Sem.wp] at h ⊢;exact ih _ Q E p _ s0 d k h
  | register a k ih=>intro Q E p s s0 d k h;rw [Sem.wp] at h;exact h.elim
  | fresh k ih=>intro Q E p s s0 d k h;rw [Sem.wp] at h ⊢;exact ih _ Q E p _ s0 (d _) k h
  | ask k ih=>intro Q E p s s0 d k h;rw [Sem.wp] at h ⊢;exact ih _ Q E p _ s0 (d _) k h
  | choose a n k ih=>intro Q E p s s0 d k h;rw [Sem.wp] at h ⊢;exact ⟨h.1,ih _ Q E p _ s0 (d _) k h.2⟩
  | os a n k ih=>intro Q E p s s0 d k h;rw [Sem.wp] at h ⊢;exact ih _ Q E p _ s0 (d _) k h
  | call c a b l k ih=>intro Q E p s s0 d k h;exact d.elim
  | handled a k ih=>intro Q E p s s0 d k h;rw [Sem.wp] at h ⊢;exact ih _ Q E p _ s0 (d _) k h
  | newGen c k ih=>intro Q E p s s0 d k h;rw [Sem.wp] at h ⊢;exact ih _ Q E p _ s0 (d _) k h
  | genState g k ih=>
    intro Q E p s s0 d k h;rw [Sem.wp] at h ⊢;obtain ⟨st,e,h⟩:=h;exact ⟨st,e,ih _ Q E p s s0 (d _) k h⟩
  | resume g r l k ih=>intro Q E p s s0 d k h;exact d.elim
  | yield v g l k ih=>intro Q E p s s0 d k h;rw [Sem.wp] at h;exact h.elim
  | stack k ih=>intro Q E p s s0 d k h;rw [Sem.wp] at h ⊢;exact ih _ Q E p _ s0 (d _) k h
  | fork c k ih=>intro Q E p s s0 d k h;rw [Sem.wp] at h;exact h.elim
  | thread k ih=>intro Q E p s s0 d k h;rw [Sem.wp] at h ⊢;exact ih _ Q E p _ s0 (d _) k h
  | await a t b l k ih=>intro Q E p s s0 d k h;rw [Sem.wp] at h;exact h.elim
theorem B8 {α:Type} {M:Model} {A:Around} {t:Sem α} {Q:α->Shared->Prop} {E:Value->Shared->Prop} {s:Shared} (d:DK t) (h:wpAny M A t Q E s):wpAny M A t (λ a s'=>Q a s'/\KD s.heap s'.heap) (λ e s'=>E e s'/\KD s.heap s'.heap) s:=
  λ Γ p hΓ=>Nu t _ _ p s s d (KD.refl _) (h Γ p hΓ)
theorem DK.bind {α β:Type} {f:α->Sem β}:∀ {t:Sem α},DK t->(∀ a,DK (f a))->DK (t >>= f):=by
  intro t;show _->_->DK (Sem.bind t f)
  induction t with
  | pure a=>intro _ h;exact h a
  | raise e=>intro _ _;trivial
  | unsupported w=>intro _ _;trivial
  | finish e=>intro _ _;trivial
  | rule t k ih=>intro d h;exact ih () d h
  | «at» t k ih=>intro d h;exact ih () d h
  | load a part k ih=>intro d h o;exact ih o (d o) h
  | update a part f k ih=>intro d h;exact ⟨d.1,ih () d.2 h⟩
  | alloc o k ih=>intro d h a;exact ih a (d a) h
  | loadIfAlive a k ih=>intro d h o;exact ih o (d o) h
  | point l k ih=>intro d h;exact ih () d h
  | register a k ih=>intro _ _;trivial
  | fresh k ih=>intro d h o;exact ih o (d o) h
  | ask k ih=>intro d h o;exact ih o (d o) h
  | choose a n k ih=>intro d h o;exact ih o (d o) h
  | os a n k ih=>intro d h o;exact ih o (d o) h
  | call c a b l k ih=>intro d h;exact d.elim
  | handled a k ih=>intro d h o;exact ih o (d o) h
  | newGen c k ih=>intro d h o;exact ih o (d o) h
  | genState g k ih=>intro d h o;exact ih o (d o) h
  | resume g r l k ih=>intro d h;exact d.elim
  | yield v g l k ih=>intro _ _;trivial
  | stack k ih=>intro d h o;exact ih o (d o) h
  | fork c k ih=>intro _ _;trivial
  | thread k ih=>intro d h o;exact ih o (d o) h
  | await a t b l k ih=>intro _ _;trivial
theorem Az {α:Type} (a:α):DK (pure a:Sem α):=trivial
theorem Bm {α:Type} (w:String):DK (unsupported w:Sem α):=trivial
theorem FW (a:Addr):DK (load a):=λ _=>trivial
theorem Gk (v:Value):DK (fieldsOf v):=by
  unfold fieldsOf;split
  · refine DK.bind (FW _) λ o=> ?_;split
    · exact Az _
    · exact Bm _
  · exact Bm _
theorem C8 (v:Value) (i:Nat):DK (field v i):=by
  unfold field;refine DK.bind (Gk v) λ vs=> ?_;split
  · exact Az _
  · exact Bm _
theorem Eh (i:Nat) (x:Value) (hi:i≠2) (o:Obj):(Obj.mapFields (·.setIfInBounds i x) o).dict=o.dict/\f2 (Obj.mapFields (·.setIfInBounds i x) o)=f2 o:=by
  unfold Obj.mapFields;split
  · exact ⟨rfl,Array.getElem?_setIfInBounds_ne hi⟩
  · exact ⟨rfl,rfl⟩
theorem FD (a:Addr) {f:Obj->Obj} (h:∀ o,(f o).dict=o.dict/\f2 (f o)=f2 o):DK (update a f):=⟨h,trivial⟩
theorem Cf (v:Value) (i:Nat) (x:Value) (hi:i≠2:=by decide):DK (setField v i x):=by
  unfold setField;split
  · unfold updateField;refine DK.bind (FW _) λ o=> ?_;split
    · split
      · exact FD _ (Eh _ _ hi)
      · exact Bm _
    · exact Bm _
  · exact Bm _
theorem El:DK (stack):=λ _=>trivial
theorem Ce {α:Type} {c:Prop} [Decidable c] {x y:Sem α} (hx:DK x) (hy:DK y):DK (if c then x else y):=by
  split
  · exact hx
  · exact hy
theorem BP (e:Value) (f:Option Addr):DK (setFlight e f):=by
  unfold setFlight;refine DK.bind (C8 _ _) λ tb=> ?_;exact Ce (Cf _ _ _) (Az _)
theorem HS (env:Env) (outer:List Env):DK (behindIsImport env outer):=by
  unfold behindIsImport;refine Ce (Az _) (Ce (Az _) ?_);exact DK.bind (C8 _ _) λ _=>Az _
theorem K7 (env:Env) (i:Bool) (l:List Env):DK (keptBack env i l):=by
  unfold keptBack;split
  · refine Ce (Az _) ?_;unfold underTheClaimsCaller;exact DK.bind (DK.bind El λ _=>Az _) λ _=>Az _
  · exact Az _
theorem Gu:∀ l:List Env,DK (readyFrames l)
  | []=>trivial
  | env::outer=>by
    unfold readyFrames;split
    · refine DK.bind (FW _) λ o=> ?_;refine Ce (Az _) ?_;refine DK.bind (HS _ _) λ _=>DK.bind (K7 _ _ _) λ _=>DK.bind (FD _ λ _=>⟨rfl,rfl⟩) λ _=>Gu outer
    · exact Bm _
theorem Hq (env:Env):DK (PySem.frameOf env):=by
  unfold PySem.frameOf;refine DK.bind ?_ λ _=>DK.bind ?_ λ o=> ?_
  · unfold frameEnvs;exact DK.bind El λ _=>Az _
  · unfold frameObject;split
    · exact Az _
    · exact DK.bind (Gu _) λ _=>Az _
  · split
    · exact Az _
    · exact Bm _
theorem FP (ty:String) (vs:List Value):DK (newFields ty vs):=by
  unfold newFields newObj;have hj:DK (newObjAsIs (.type ty) (.fields vs.toArray)):=by
    unfold newObjAsIs;exact λ _=>trivial
  exact Ce (DK.bind (Bm _) λ _=>hj) hj
theorem IM (f:Addr) (b:Bool):DK (entryPlaceOf f b):=by
  unfold entryPlaceOf;refine DK.bind El λ _=> ?_;split
  · exact Az _
  · exact Az _
theorem HC (e:Value) (env:Env):DK (noteFrame e env):=by
  unfold noteFrame;split
  · rename_i f _
    refine DK.bind (C8 _ _) λ head=> ?_;have hj:DK (do
        let fr <-PySem.frameOf env
        let pl <-entryPlaceOf f (head != Value.none)
        let b <-EntryCells.newEntry head fr Value.none (rawInt f) Value.none pl
        setField e 1 b):=DK.bind (Hq env) λ _=>DK.bind (IM _ _) λ _=>DK.bind (FP _ _) λ _=>Cf _ _ _
    refine Ce (DK.bind (C8 _ _) λ _=>Ce (Az _) (DK.bind (Cf _ _ _) λ _=>hj)) hj
  · exact Bm _
theorem EK (env:Env) (e:Value):DK (leaving env e):=by
  unfold leaving;exact DK.bind (HC _ _) λ _=>BP _ _
section
variable {M:Model} {A:Around} {E:Value->Shared->Prop} {s:Shared}
theorem Ef {base:Heap} {env:Env} {outer:List Env} {L e:Addr} {cls a0:Value} {Q:Unit->Shared->Prop} (hfr:A.frames=some (env::outer)) (hf:env.frame=some L) (hfl:Heap.FlyingW base (env::outer) e cls a0 s.heap)
    (hQ:∀ h',Heap.FlyingW base outer e cls a0 h'->s.heap.UpToSlots h'->KD s.heap h'->Q () { s with heap:=h' }):wpAny M A (leaving env (.ref e)) Q E s:=
  wpAny_mono (B8 (EK env (.ref e)) (wpAny_leaves_onW (Q:=λ _ s'=>∃ h',s'={ s with heap:=h' }/\Heap.FlyingW base outer e cls a0 h'/\s.heap.UpToSlots h') hfr hf hfl λ h' a b=>⟨h',rfl,a,b⟩))
    (λ _ _ ⟨⟨h',e,a,b⟩,k⟩=>by subst e;exact hQ h' a b k) λ _ _ z=>z.1
theorem FH {base h:Heap} {env:Env} {outer:List Env} {L e:Addr} {cls:Value} {args:List Value} {Q:Unit->Shared->Prop}
    (hfr:A.frames=some (env::outer)) (hf:env.frame=some L) (hkb:base.StaysIn h) (hl:h.FunFrames base (env::outer)) (hx:Heap.MadeExcOf h s.heap e cls args)
    (hQ:∀ h' t,Heap.FlyingW base outer e cls (.ref t) h'->s.heap.UpToSlots h'->KD s.heap h'->Q () { s with heap:=h' }):wpAny M A (leaving env (.ref e)) Q E s:=
  wpAny_mono (B8 (EK env (.ref e)) (wpAny_leaves_madeW (Q:=λ _ s'=>∃ h' t,s'={ s with heap:=h' }/\Heap.FlyingW base outer e cls (.ref t) h'/\s.heap.UpToSlots h') hfr hf hkb hl hx λ h' t a _ _ b=>⟨h',t,rfl,a,b⟩))
    (λ _ _ ⟨⟨h',t,e,a,b⟩,k⟩=>by subst e;exact hQ h' t a b k) λ _ _ z=>z.1
theorem Iu {base:Heap} {env:Env} {outer:List Env} {L e:Addr} {cls a0:Value} {Q:Unit->Shared->Prop} (hfr:A.frames=some (env::outer)) (hf:env.frame=some L) (hfl:Heap.FlyingW base (env::outer) e cls a0 s.heap)
    (hQ:∀ h',Heap.HeldW base (env::outer) e cls a0 L h'->s.heap.UpToSlots h'->KD s.heap h'->Q () { s with heap:=h' }):wpAny M A (noteFrame (.ref e) env) Q E s:=
  wpAny_mono (B8 (HC (.ref e) env) (wpAny_looks_onW (Q:=λ _ s'=>∃ h',s'={ s with heap:=h' }/\Heap.HeldW base (env::outer) e cls a0 L h'/\s.heap.UpToSlots h') hfr hf hfl λ h' a b=>⟨h',rfl,a,b⟩))
    (λ _ _ ⟨⟨h',e,a,b⟩,k⟩=>by subst e;exact hQ h' a b k) λ _ _ z=>z.1
theorem MH {base:Heap} {l:List Env} {e L:Addr} {cls a0:Value} {Q:Unit->Shared->Prop} (hh:Heap.HeldW base l e cls a0 L s.heap)
    (hQ:∀ h',Heap.FlyingW base l e cls a0 h'->s.heap.UpToSlots h'->KD s.heap h'->Q () { s with heap:=h' }):wpAny M A (setFlight (.ref e) none) Q E s:=
  wpAny_mono (B8 (BP (.ref e) none) (wpAny_landsW (Q:=λ _ s'=>∃ h',s'={ s with heap:=h' }/\Heap.FlyingW base l e cls a0 h'/\s.heap.UpToSlots h') hh λ h' a b=>⟨h',rfl,a,b⟩))
    (λ _ _ ⟨⟨h',e,a,b⟩,k⟩=>by subst e;exact hQ h' a b k) λ _ _ z=>z.1
theorem K8 {base:Heap} {l:List Env} {e:Addr} {cls a0 fl:Value} {Q:Unit->Shared->Prop} (hkb:base.StaysIn s.heap) (hl:s.heap.FunFrames base l) (ht:s.heap.TracedAtW base e cls a0 fl)
    (h:∀ h',base.StaysIn h'->h'.FunFrames base l->h'.TracedW base e cls a0->(∀ b o,s.heap.get? b=some o->(∀ vs,o.data≠ .fields vs)->h'.get? b=some o)->KD s.heap h'->Q () { s with heap:=h' }):
    wpAny M A (setFlight (.ref e) none) Q E s:=
  wpAny_mono (B8 (BP (.ref e) none) (wpAny_setFlight_noneW (Q:=λ _ s'=>∃ h',s'={ s with heap:=h' }/\base.StaysIn h'/\h'.FunFrames base l/\h'.TracedW base e cls a0/\∀ b o,s.heap.get? b=some o->(∀ vs,o.data≠ .fields vs)->h'.get? b=some o) hkb hl ht λ h' a b c d=>⟨h',rfl,a,b,c,d⟩))
    (λ _ _ ⟨⟨h',e,a,b,c,d⟩,k⟩=>by subst e;exact h h' a b c d k) λ _ _ z=>z.1
def MkR (H:Hp) (od:Option Addr):Prop:=∃ dx o,od=some dx/\H dx=some o/\∀ (P:Program) (w:World) (H:Hp) (h:Heap),ObjOk P w H h dx o->∃ mA u,h.Ns1 dx mA/\mA "row"=some u
def DictIs (H:Hp) (h:Heap) (a:Addr) (od:Option Addr):Prop:=∃ o,h.get? a=some o/\o.dict=od/\(f2 o=some .none\/MkR H od)
theorem DictIs.on {H:Hp} {h h':Heap} {a:Addr} {od:Option Addr} (x:DictIs H h a od) (k:KD h h') (t:∃ o,h'.get? a=some o):DictIs H h' a od:=by
  obtain ⟨o,e,d,c⟩:=x;obtain ⟨o',e'⟩:=t;obtain ⟨k1,k2⟩:=k.at' e e';exact ⟨o',e',k1.trans d,c.imp k2.trans id⟩
end
theorem HOk.on {P:Program} {w:World} {H:Hp} {h h':Heap} (x:HOk P w H h) (k:∀ b u,H b≠none->h.get? b=some u->h'.get? b=some u):HOk P w H h':=λ a o e=>
  (x a o e).stay (λ b u hb q=>k b u (by
    rcases hb with rfl | hb
    · rw [e];exact λ z=>by cases z
    · rw [hb];exact λ z=>by cases z) q) (λ _ q=>q) λ _ _ q=>q
theorem Et {P:Program} {w:World} {H:Hp} {h:Heap} {a:Addr} {o:HO} (x:ObjOk P w H h a o):∃ u,h.get? a=some u:=by
  cases o with
  | lst xs=>obtain ⟨_,_,_,_,e⟩:=x;exact ⟨_,e⟩
  | tup xs=>obtain ⟨_,_,_,o,e,_⟩:=x;exact ⟨_,e⟩
  | dK kvs=>obtain ⟨_,_,_,_,o,_,_,e,_⟩:=x;exact ⟨_,e⟩
  | dT kvs=>obtain ⟨_,_,_,_,o,_,_,e,_⟩:=x;exact ⟨_,e⟩
  | set S n=>obtain ⟨o,_,_,_,e,_⟩:=x;exact ⟨_,e⟩
  | ins C dx fs=>obtain ⟨_,_,_,e,_⟩:=x;exact ⟨_,e⟩
  | own y=>exact x
  | xd fs=>obtain ⟨_,⟨_,_,_,e,_⟩,_⟩:=x;exact ⟨_,e⟩
  | rng lo hi=>obtain ⟨_,_,_,e⟩:=x;exact ⟨_,e⟩
  | frz ob u=>obtain ⟨e,_⟩:=x;exact ⟨_,e⟩
  | tbl ps=>exact ⟨_,(show h.get? a=some _ from x)⟩
  | met f y=>exact ⟨_,(show h.get? a=some _ from x)⟩
  | ext φ=>obtain ⟨_,e,_⟩:=x;exact e
def NB (outer:List Env) (s:Shared) (H':Hp) (a C t:Addr) (s':Shared):Prop:=
  ∃ B:Heap,B.FlyingW outer a (.ref C) (.ref t) s'.heap/\∀ b,(H' b≠none\/∃ o,s.heap.get? b=some o)->b∉frs outer->∀ o,s'.heap.get? b=some o->B.get? b=some o
def CXE (P:Program) (w:World):CXT:=λ outer H s E e s'=>
  ∃ a C t od H',e= .ref a/\s'.os=s.os/\AllBare s'.gens/\Un (frs outer) [] H H' s.heap s'.heap/\HOk P w H' s'.heap/\NB outer s H' a C t s'/\DictIs H' s'.heap a od/\E (.ref C) od H'
theorem By {env:Env} {L:Addr} {outer:List Env} (h:env.frame=some L):frs (env::outer)=L::frs outer:=by
  unfold frs;rw [List.filterMap_cons,h]
theorem Ay {h base:Heap}:∀ {l:List Env} {b:Addr},h.FunFrames base l->b∈frs l->base.get? b=none/\∃ o,h.get? b=some o/\∀ vs,o.data≠ .fields vs
  | [],b,_,hb=>by cases hb
  | env::l,b,⟨_,⟨L,o,e1,e2,e3,e4⟩,r⟩,hb=>by
    rw [By e1] at hb;rcases List.mem_cons.mp hb with rfl | hb
    · exact ⟨e2,o,e3,e4⟩
    · exact Ay r hb
theorem HM {P:Program} {w:World} {K:PySem.W.Frag} {mg:Str->Option Value} {base:Heap} {N:List Str} {qual:Str} {scope:Scope} {f:Addr} {cd:Value} {A:Around} {outer:List Env} {s₀:Shared} {H₀:Hp} {E E':XK}
    (hE:∀ c o H,E c o H->E' c o H):AK (CXE P w) (Bo (CXE P w) P w K mg base N qual scope f cd A outer s₀ H₀ E') E:=by
  intro pins σ H s e s' I h;obtain ⟨a,C,t,od,H',rfl,os,bare,un,hok,⟨B,fl,cov⟩,di,q⟩:=h;have hfr:(envOfC qual scope s₀.heap.objs.size f cd).frame=some s₀.heap.objs.size:=rfl;have hfs:frs (envOfC qual scope s₀.heap.objs.size f cd::outer)=s₀.heap.objs.size::frs outer:=By hfr;refine Ef I.ok.frames hfr fl λ h' fl' ups kd=> ?_;have ib:Un (frs outer) [] H₀ H s₀.heap s.heap:=I.base;have nl:∀ b o,s₀.heap.get? b=some o->b≠s₀.heap.objs.size:=λ b o e=>Nat.ne_of_lt (Heap.lt_size e);have toB:∀ b,(H' b≠none\/∃ o,s.heap.get? b=some o)->b∉frs (envOfC qual scope s₀.heap.objs.size f cd::outer)->∀ o,s'.heap.get? b=some o->h'.get? b=some o:=λ b hb hn o e=>fl'.1 b o (cov b hb hn o e);have untr:∀ b,b∈frs (envOfC qual scope s₀.heap.objs.size f cd::outer)->H' b=none:=λ b hb=>by
    obtain ⟨_,o,e,_⟩:=Ay I.stack hb;exact un.free b o e (I.stkFree b hb) (by simp)
  have hok':HOk P w H' h':=hok.on λ b u hb e=>by
    refine toB b (.inl hb) (λ z=>hb (untr b z)) u e
  refine ⟨a,C,t,od,H',rfl,os.trans I.os,bare,?_,hok',⟨B,fl',λ b hb hn o e=> ?_⟩,di.on kd (let ⟨o,e,_⟩:=fl'.there;⟨o,e⟩),hE _ _ _ q⟩
  · have notin:∀ b o,s₀.heap.get? b=some o->b∉frs outer->b∉frs (envOfC qual scope s₀.heap.objs.size f cd::outer):=λ b o e hn z=>by
      rw [hfs] at z;rcases List.mem_cons.mp z with z | z
      · exact nl b o e z
      · exact hn z
    have isin:∀ b,b∈frs outer->b∈frs (envOfC qual scope s₀.heap.objs.size f cd::outer):=λ b hb=>by rw [hfs];exact List.mem_cons_of_mem _ hb
    refine ⟨λ b o e hH hn _=> ?_,λ b o e hH hb _=> ?_,λ b o e hH _=> ?_,λ b o e _=> ?_,λ b xs e=>un.tups b xs (ib.tups b xs e),λ b o u e=>un.frzs b o u (ib.frzs b o u e),λ b ps e=> ?_⟩
    · have e1:=ib.keep b o e hH hn (by simp);exact toB b (.inr ⟨o,e1⟩) (notin b o e hn) o (un.keep b o e1 (ib.free b o e hH (by simp)) (notin b o e hn) (by simp))
    · obtain ⟨sl,e1⟩:=ib.slot b o e hH hb (by simp);obtain ⟨sl2,e2⟩:=un.slot b _ e1 (ib.free b o e hH (by simp)) (isin b hb) (by simp);obtain ⟨_,o',e',nf⟩:=Ay fl.2.2.1 (isin b hb);rw [e2] at e';cases e';obtain ⟨sl3,e3⟩:=ups b _ e2 nf;exact ⟨sl3,e3⟩
    · obtain ⟨o1,e1⟩:=ib.there b o e (by simp);exact un.free b o1 e1 (ib.free b o e hH (by simp)) (by simp)
    · obtain ⟨o1,e1⟩:=ib.there b o e (by simp);obtain ⟨o2,e2⟩:=un.there b o1 e1 (by simp);by_cases hb:b∈frs outer
      · obtain ⟨_,o',e',nf⟩:=Ay fl.2.2.1 (isin b hb);obtain ⟨sl3,e3⟩:=ups b _ e' nf;exact ⟨_,e3⟩
      · exact ⟨o2,toB b (.inr ⟨o1,e1⟩) (notin b o e hb) o2 e2⟩
    · obtain ⟨m1,e1⟩:=ib.tbls b ps e;obtain ⟨m2,e2⟩:=un.tbls b _ e1;exact ⟨m1++m2,by rw [e2,Array.append_assoc]⟩
  · have hn2:b∉frs (envOfC qual scope s₀.heap.objs.size f cd::outer):=λ z=>by
      have z0:=z;rw [hfs] at z;rcases List.mem_cons.mp z with z | z
      · rcases hb with hb | ⟨o1,e1⟩
        · exact hb (untr b z0)
        · exact nl b o1 e1 z
      · exact hn z
    obtain ⟨o2,e2,hb2⟩:∃ o2,s'.heap.get? b=some o2/\(H' b≠none\/∃ o,s.heap.get? b=some o):=by
      rcases hb with hb | ⟨o1,e1⟩
      · cases hx:H' b with
        | none=>exact absurd hx hb
        | some u=>
          obtain ⟨o2,e2⟩:=Et (hok b u hx);exact ⟨o2,e2, .inl (λ z=>by cases z)⟩
      · obtain ⟨o3,e3⟩:=ib.there b o1 e1 (by simp);obtain ⟨o2,e2⟩:=un.there b o3 e3 (by simp);exact ⟨o2,e2, .inr ⟨o3,e3⟩⟩
    have e3:=cov b hb2 hn2 o2 e2;have e4:=fl'.1 b o2 e3;rw [show h'.get? b=some o from e] at e4;cases e4;exact e3
theorem Fw {h base B:Heap}:∀ {l:List Env},h.FunFrames base l->(∀ b∈frs l,B.get? b=none)->h.FunFrames B l
  | [],_,_=>trivial
  | env::l,⟨k,⟨L,o,e1,e2,e3,e4⟩,r⟩,hb=>by
    rw [By e1] at hb;exact ⟨k,⟨L,o,e1,hb L (List.mem_cons_self ..),e3,e4⟩,Fw r λ b h'=>hb b (List.mem_cons_of_mem _ h')⟩
section
variable {P:Program} {w:World} {K:PySem.W.Frag} {mg:Str->Option Value} {base:Heap} {N:List Str} {qual:Str} {scope:Scope} {f:Addr} {cd:Value} {A:Around} {outer:List Env} {s₀:Shared} {H₀:Hp} {E:XK}
theorem Jr {pins:List (Addr × Obj)} {σ:St} {H:Hp} {s:Shared} {e C:Addr} {vs:List Value} {h':Heap} (I:Inv (Bo (CXE P w) P w K mg base N qual scope f cd A outer s₀ H₀ E) pins σ H s) (mk:Heap.MadeExcOf s.heap h' e (.ref C) vs) (q:E (.ref C) none H):
    (Bo (CXE P w) P w K mg base N qual scope f cd A outer s₀ H₀ E).xe (.ref e) { s with heap:=h' }:=by
  have hfr:(envOfC qual scope s₀.heap.objs.size f cd).frame=some s₀.heap.objs.size:=rfl;have hfs:frs (envOfC qual scope s₀.heap.objs.size f cd::outer)=s₀.heap.objs.size::frs outer:=By hfr;refine FH (base:=PySem.W.hideAll s.heap (frs (envOfC qual scope s₀.heap.objs.size f cd::outer))) (h:=s.heap) I.ok.frames hfr (λ b o e=>PySem.W.of_hideAll _ e) (Fw I.stack λ b hb=>PySem.W.hideAll_none _ hb) mk λ h2 t fl ups kd=> ?_;have ib:Un (frs outer) [] H₀ H s₀.heap s.heap:=I.base;have nl:∀ b o,s₀.heap.get? b=some o->b≠s₀.heap.objs.size:=λ b o e=>Nat.ne_of_lt (Heap.lt_size e);have inB:∀ b o,s.heap.get? b=some o->b∉frs (envOfC qual scope s₀.heap.objs.size f cd::outer)->h2.get? b=some o:=λ b o e hn=>fl.1 b o (PySem.W.hideAll_get _ e hn);have notin:∀ b o,s₀.heap.get? b=some o->b∉frs outer->b∉frs (envOfC qual scope s₀.heap.objs.size f cd::outer):=λ b o e hn z=>by
    rw [hfs] at z;rcases List.mem_cons.mp z with z | z
    · exact nl b o e z
    · exact hn z
  have isin:∀ b,b∈frs outer->b∈frs (envOfC qual scope s₀.heap.objs.size f cd::outer):=λ b hb=>by rw [hfs];exact List.mem_cons_of_mem _ hb
  refine ⟨e,C,t,none,H,rfl,I.os,I.bare,?_,I.hok.on λ b u hb e=>inB b u e (λ z=>hb (I.stkFree b z)),⟨_,fl,λ b hb hn o e=> ?_⟩,DictIs.on (let ⟨_,e,_⟩:=mk.there;⟨_,e,rfl, .inl rfl⟩) kd (let ⟨o,e,_⟩:=fl.there;⟨o,e⟩),q⟩
  · refine ⟨λ b o e hH hn _=> ?_,λ b o e hH hb _=> ?_,λ b o e hH _=>ib.free b o e hH (by simp),λ b o e _=> ?_,λ b xs e=>ib.tups b xs e,λ b o u e=>ib.frzs b o u e,λ b ps e=>ib.tbls b ps e⟩
    · exact inB b o (ib.keep b o e hH hn (by simp)) (notin b o e hn)
    · obtain ⟨sl,e1⟩:=ib.slot b o e hH hb (by simp);obtain ⟨_,o',e',nf⟩:=Ay I.stack (isin b hb);rw [e1] at e';cases e';obtain ⟨sl3,e3⟩:=ups b _ (mk.keeps b _ e1) nf;exact ⟨sl3,e3⟩
    · obtain ⟨o1,e1⟩:=ib.there b o e (by simp);by_cases hb:b∈frs outer
      · obtain ⟨_,o',e',nf⟩:=Ay I.stack (isin b hb);obtain ⟨sl3,e3⟩:=ups b _ (mk.keeps b _ e') nf;exact ⟨_,e3⟩
      · exact ⟨o1,inB b o1 e1 (notin b o e hb)⟩
  · have hn2:b∉frs (envOfC qual scope s₀.heap.objs.size f cd::outer):=λ z=>by
      rcases hb with hb | ⟨o1,e1⟩
      · exact hb (I.stkFree b z)
      · exact notin b o1 e1 hn z
    obtain ⟨o2,e2⟩:∃ o2,s.heap.get? b=some o2:=by
      rcases hb with hb | ⟨o1,e1⟩
      · cases hx:H b with
        | none=>exact absurd hx hb
        | some u=>exact Et (I.hok b u hx)
      · exact ib.there b o1 e1 (by simp)
    have e3:=inB b o2 e2 hn2;have e:h2.get? b=some o:=e;rw [e] at e3;cases e3;exact PySem.W.hideAll_get _ e2 hn2
def JL (E:XK) (C:Addr) (ta:TA):TS:=λ _ σ H=>ta σ H λ vs H1=>vs.length<=1000/\E (.ref C) none H1
theorem Js {x:Str} {C:Addr} {B newId initId:String} {bm:List Value} {e₀:Expr} {rest:List Expr} {np cpos pos:Pos} {ta:TA} (O:OwnCls x C bm newId mg base) (FB:ExcBaseFacts B newId initId bm)
    (ha:PA (Bo (CXE P w) P w K mg base N qual scope f cd A outer s₀ H₀ E) (e₀::rest) ta)
    (he:starEach (e₀::rest) (envOfC qual scope s₀.heap.objs.size f cd)=(false,eval e₀ (envOfC qual scope s₀.heap.objs.size f cd))::starEach rest (envOfC qual scope s₀.heap.objs.size f cd):=by rfl)
    (hplain:(backTo cpos (starEach rest (envOfC qual scope s₀.heap.objs.size f cd))).any (·.1)=false:=by rfl)
    (hg:Gl (Bo (CXE P w) P w K mg base N qual scope f cd A outer s₀ H₀ E) x:=by rfl) (hd:(x == ("__debug__":Str))=false:=by decide):
    PS (Bo (CXE P w) P w K mg base N qual scope f cd A outer s₀ H₀ E) (.Raise (some (.Call (.Name x np) (e₀::rest) [] cpos)) none pos) (JL E C ta):=by
  intro pins s σ H D I h;obtain ⟨tl,Nn,nm,q,bs,hdct,sn,sub,ab,col,dd,k0,k1,k2,k3,k5,mN,hC,hN,hni,T⟩:=O.obj;have hw:=ha cpos pins s σ H _ I h;refine wpAny_Raise_call_subT (C:=C) (nm:=nm) (q:=q) (N:=Nn) (bs:=bs) (bm:=tl) (hdct:=hdct) (sn:=sn) (sub:=sub) (ab:=ab) (col:=col) (dd:=dd) (k0:=k0) (k1:=k1) (k2:=k2) (k3:=k3) (k5:=k5)
    FB (mN:=mN) (T.hasType FB.hasBase) (I.ok.hd rfl) (by
      show (backTo cpos (starEach (e₀::rest) (envOfC qual scope s₀.heap.objs.size f cd))).any (·.1)=false;rw [he];show (false||(backTo cpos (starEach rest (envOfC qual scope s₀.heap.objs.size f cd))).any (·.1))=false;rw [hplain];rfl) hni (C6 I hg O.bound ⟨rfl,?_⟩ hd)
  have he':starEach (e₀::rest) (Bo (CXE P w) P w K mg base N qual scope f cd A outer s₀ H₀ E).env=(false,eval e₀ (envOfC qual scope s₀.heap.objs.size f cd))::starEach rest (envOfC qual scope s₀.heap.objs.size f cd):=he;rw [he'] at hw ⊢;refine Calls.evalArgs_plain (thn hw λ us s2 ⟨vs,H1,I1,r,hl,hq⟩=> ?_);have bk:∀ b o,base.get? b=some o->s2.heap.get? b=some o:=I1.bk;refine ⟨rfl,?_,bk _ _ hC,hN.keeps bk,T.keeps bk,λ h' e mk=>Jr I1 mk hq⟩;rw [<-r.length];exact Nat.le_trans hl (by decide)
end
theorem En {h h1 h2:Heap} (a:h.UpToSlots h1) (b:h1.UpToSlots h2):h.UpToSlots h2:=λ c o e nf=>by
  obtain ⟨sl,e1⟩:=a c o e nf;obtain ⟨sl2,e2⟩:=b c _ e1 nf;exact ⟨sl2,e2⟩
theorem Jo {P:Program} {w:World} {l:List Env} {s s₁:Shared} {H H':Hp} {a C t:Addr} {B h3:Heap} (un:Un (frs l) [] H H' s.heap s₁.heap) (hok:HOk P w H' s₁.heap) (fl:B.FlyingW l a (.ref C) (.ref t) s₁.heap)
    (cov:∀ b,(H' b≠none\/∃ o,s.heap.get? b=some o)->b∉frs l->∀ o,s₁.heap.get? b=some o->B.get? b=some o) (untr:∀ b∈frs l,H' b=none) (fl3:B.FlyingW l a (.ref C) (.ref t) h3) (ups:s₁.heap.UpToSlots h3):
    Un (frs l) [] H H' s.heap h3/\HOk P w H' h3:=by
  have inB:∀ b,(H' b≠none\/∃ o,s.heap.get? b=some o)->b∉frs l->∀ o,s₁.heap.get? b=some o->h3.get? b=some o:=λ b hb hn o e=>fl3.1 b o (cov b hb hn o e);refine ⟨⟨λ b o e hH hn hx=>inB b (.inr ⟨o,e⟩) hn o (un.keep b o e hH hn hx),λ b o e hH hb hx=> ?_,un.free,λ b o e hx=> ?_,un.tups,un.frzs,un.tbls⟩,hok.on λ b u hb e=>inB b (.inl hb) (λ z=>hb (untr b z)) u e⟩
  · obtain ⟨sl,e1⟩:=un.slot b o e hH hb hx;obtain ⟨_,o',e',nf⟩:=Ay fl.2.2.1 hb;rw [e1] at e';cases e';obtain ⟨sl3,e3⟩:=ups b _ e1 nf;exact ⟨sl3,e3⟩
  · obtain ⟨o1,e1⟩:=un.there b o e hx;by_cases hb:b∈frs l
    · obtain ⟨_,o',e',nf⟩:=Ay fl.2.2.1 hb;obtain ⟨sl,e2⟩:=ups b _ e' nf;exact ⟨_,e2⟩
    · exact ⟨o1,inB b (.inr ⟨o,e⟩) hb o1 e1⟩
def E4 (a C:Addr) (od:Option Addr):HO:= .ext λ h=>∃ o,h.get? a=some o/\o.cls= .ref C/\o.dict=od/\∃ vs,o.data= .fields vs
theorem Mq {P:Program} {w:World} {H:Hp} {h:Heap} {a C:Addr} {o:Obj} {vs:Array Value} (e:h.get? a=some o) (c:o.cls= .ref C) (d:o.data= .fields vs):ObjOk P w H h a (E4 a C o.dict):=
  ⟨⟨o,e,c,rfl,vs,d⟩,⟨o,e⟩,λ _ _ ⟨o,e,c⟩ k=>⟨o,k o e,c⟩⟩
theorem JA {P:Program} {w:World} {H:Hp} {h:Heap} {a:Addr} {u:HO} (hok:HOk P w H h) (n:H a=none) (new:ObjOk P w (upd H a u) h a u):HOk P w (upd H a u) h:=λ b o e=>by
  by_cases z:b=a
  · subst z;rw [Ad] at e;cases e;exact new
  · rw [Aj z] at e;have ne:∀ c v,H c=some v->c≠a:=λ c v q z=>by rw [z,n] at q;cases q
    exact (hok b o e).stay (λ c v _ q=>q) (λ c q=>(Aj (ne c _ q)).trans q) λ c xs q=>(Aj (ne c _ q)).trans q
theorem JM {fs ex:List Addr} {H H':Hp} {h h':Heap} {a:Addr} {u:HO} (un:Un fs ex H H' h h') (n:H' a=none) (na:h.get? a=none):Un fs ex H (upd H' a u) h h':=by
  have ne:∀ c v,H' c=some v->c≠a:=λ c v q z=>by rw [z,n] at q;cases q
  refine ⟨un.keep,un.slot,λ b o e hH hx=> ?_,un.there,λ b xs e=> ?_,λ b o v e=> ?_,λ b ps e=> ?_⟩
  · have z:b≠a:=λ z=>by rw [z,na] at e;cases e
    rw [Aj z];exact un.free b o e hH hx
  · have:=un.tups b xs e;exact (Aj (ne _ _ this)).trans this
  · have:=un.frzs b o v e;exact (Aj (ne _ _ this)).trans this
  · obtain ⟨m,this⟩:=un.tbls b ps e;exact ⟨m,(Aj (ne _ _ this)).trans this⟩
section
variable {X:Cx} {pins:List (Addr × Obj)} {σ:St} {H:Hp} {s s₁:Shared} {E:XK} {e:Value}
theorem Oi {E1 E2:Value->Shared->Prop} {R:Shared->Prop} (I:Inv X pins σ H s) (hst:X.stack=X.env::X.outer) (hf:X.env.frame=some X.env.locals) (h:CXE X.prog X.w X.stack H s E e s₁)
    (k:∀ (a C t:Addr) (od:Option Addr) (H':Hp) (B h3:Heap),e= .ref a->B.FlyingW X.stack a (.ref C) (.ref t) h3->s₁.heap.UpToSlots h3->DictIs H' h3 a od->(∀ h4:Heap,B.FlyingW X.stack a (.ref C) (.ref t) h4->s₁.heap.UpToSlots h4->DictIs H' h4 a od->Inv X pins σ H' { s₁ with heap:=h4 }/\Inv X pins σ (upd H' a (E4 a C od)) { s₁ with heap:=h4 })->H' a=none->E (.ref C) od H'->R { s₁ with heap:=h3 }):
    wpAny (model X.prog X.w) X.A (noteFrame e X.env) (λ _ s₂=>wpAny (model X.prog X.w) X.A (setFlight e none) (λ _ s₃=>R s₃) E2 s₂) E1 s₁:=by
  obtain ⟨a,C,t,od,H',rfl,os,bare,un,hok,⟨B,fl,cov⟩,di,q⟩:=h;have untr:∀ b∈frs X.stack,H' b=none:=λ b hb=>by
    obtain ⟨_,o,e,_⟩:=Ay I.stack hb;exact un.free b o e (I.stkFree b hb) (by simp)
  obtain ⟨oa,hoa,hca⟩:=fl.there;have af:a∉frs X.stack:=λ z=>by
    obtain ⟨_,_,_,oe,vs,T,oT,ts,he,hcls,hd,_⟩:=id fl;obtain ⟨_,o',e',nf⟩:=Ay fl.2.2.1 z;rw [he] at e';cases e';exact nf _ hd
  have an:H' a=none:=by
    cases hx:H' a with
    | none=>rfl
    | some u=>
      have:=cov a (.inl (by rw [hx];exact λ z=>by cases z)) af oa hoa;rw [fl.2.1] at this;cases this
  have as:s.heap.get? a=none:=by
    cases hx:s.heap.get? a with
    | none=>rfl
    | some o=>
      have:=cov a (.inr ⟨o,hx⟩) af oa hoa;rw [fl.2.1] at this;cases this
  have fl':=fl;rw [hst] at fl';refine Iu (by rw [I.ok.frames,hst]) hf fl' λ h2 hh u2 kd2=>MH (s:={ s₁ with heap:=h2 }) hh λ h3 fl3 u3 kd3=> ?_;rw [<-hst] at fl3;refine k a C t od H' B h3 rfl fl3 (En u2 u3) (di.on (kd2.trans kd3) (let ⟨o,e,_⟩:=fl3.there;⟨o,e⟩)) (λ h4 fl4 u4 di4=> ?_) an q;obtain ⟨un4,hok4⟩:=Jo un hok fl cov untr fl4 u4;obtain ⟨_,_,_,o4,vs4,_,_,_,e4,⟨c4,_⟩,dd4,_⟩:=id fl4;have d4:o4.dict=od:=by
    obtain ⟨o5,e5,d5,_⟩:=di4;rw [e4] at e5;cases e5;exact d5
  subst d4;exact ⟨I.call' (s':={ s₁ with heap:=h4 }) (ch:=[]) os un4 hok4 bare (λ _ z=>by cases z),I.call' (s':={ s₁ with heap:=h4 }) (ch:=[]) os (JM un4 an as) (JA hok4 an (Mq e4 c4 dd4)) bare (λ _ z=>by cases z)⟩
end
def Cx.tryC (X:Cx) (pn:List (Addr × Obj)) (xe:Value->Shared->Prop):Cx:={ X with pn:=pn,xe:=xe }
def Cx.markC (X:Cx) (a:Addr) (xe:Value->Shared->Prop):Cx:={ X with A:=X.A.mark (some (.ref a)),calm:=false,xe:=xe }
section
variable {X:Cx} {pins pins0:List (Addr × Obj)} {σ:St} {H:Hp} {s:Shared} {xe:Value->Shared->Prop}
theorem Inv.tryC (I:Inv X pins σ H s):Inv (X.tryC (X.pn++pins) xe) [] σ H s:=
  ⟨⟨I.ok.mod,I.ok.kind,I.ok.glob,I.ok.blt,I.ok.above,I.ok.inj,I.ok.has,I.ok.cab,I.ok.hd,I.ok.frames,I.ok.stk,I.ok.exf,I.ok.bs,I.ok.bsz,I.ok.noex,I.ok.exfs,I.ok.funs,I.ok.frf⟩,
    I.os,I.bare,I.base,I.loc,I.cell,I.free,I.freeC,λ p hp=>I.pin p (by simpa [Cx.tryC] using hp),I.hok,I.len⟩
theorem Inv.untry (ok:X.Ok) (I:Inv (X.tryC (X.pn++pins0) xe) pins σ H s):Inv X pins0 σ H s:=
  ⟨ok,I.os,I.bare,I.base,I.loc,I.cell,I.free,I.freeC,λ p hp=>I.pin p (List.mem_append_left _ hp),I.hok,I.len⟩
theorem Inv.markC {a:Addr} (I:Inv X pins σ H s):Inv (X.markC a xe) pins σ H s:=
  ⟨⟨I.ok.mod,I.ok.kind,I.ok.glob,I.ok.blt,I.ok.above,I.ok.inj,I.ok.has,I.ok.cab,λ z=>(by cases z),I.ok.frames,I.ok.stk,I.ok.exf,I.ok.bs,I.ok.bsz,I.ok.noex,I.ok.exfs,I.ok.funs,I.ok.frf⟩,
    I.os,I.bare,I.base,I.loc,I.cell,I.free,I.freeC,I.pin,I.hok,I.len⟩
theorem Inv.unmark {a:Addr} (ok:X.Ok) (I:Inv (X.markC a xe) pins σ H s):Inv X pins σ H s:=
  ⟨ok,I.os,I.bare,I.base,I.loc,I.cell,I.free,I.freeC,I.pin,I.hok,I.len⟩
theorem IA {M:Model} {A:Around} {E:Value->Shared->Prop} {i:Nat} {x:Str} {v:V} {Q:Unit->Shared->Prop} (I:Inv X pins σ H s) (hN:X.N.Nodup) (hi:X.N[i]?=some x) (hx:X.env.scope.names.lookup x=some .local) (hv:σ[i]?=some (some v))
    (h:∀ s',Inv X pins (σ.set i none) H s'->Q () s'):wpAny M A (unbindName X.env x) Q E s:=by
  obtain ⟨m,hn,hl⟩:=id I.loc;have hcls:(X.env.scope.kind == .class||(X.env.scope.kind == .module&&X.env.locals != X.env.globals))=false:=by rw [I.ok.kind];rfl
  obtain ⟨u0,_,q0⟩:=hl i x v hi hv (.inl hx);have hm:m x=some u0:=by
    rcases q0 with ⟨_,e⟩ | ⟨k,_⟩
    · exact e
    · rcases k with k | k
      · rw [show X.env.kindOf x=some .local from hx] at k;cases k
      · rw [show X.env.kindOf x=some .local from hx] at k;cases k
  have hiσ:i<σ.length:=by rw [I.len];exact (List.getElem?_eq_some_iff.mp hi).1
  have cne:=I.cne;refine wpAny_unbindName_local hx hn hm hcls λ h' u hn' hs=> ?_;obtain ⟨oL,_,_,hoL,_⟩:=id hn;have neL:∀ b o,X.s₀.heap.get? b=some o->b≠X.env.locals:=λ b o e=>Nat.ne_of_lt (Nat.lt_of_lt_of_le (Heap.lt_size e) I.ok.above);refine h _ ⟨I.ok,I.os,I.bare,⟨λ b o e n hb hx=> ?_,λ b o e n hb hx=> ?_,I.base.free,λ b o e hx=> ?_,I.base.tups,I.base.frzs,I.base.tbls⟩,⟨_,hn',λ j y v' e1 e2 e3=> ?_⟩,λ y c e=> ?_,I.free,I.freeC,λ p hp=> ?_,λ b ob e=> ?_,by simpa using I.len⟩
  · exact (hs.2 b (neL b o e)).trans (I.base.keep b o e n hb hx)
  · obtain ⟨sl,e1⟩:=I.base.slot b o e n hb hx;exact ⟨sl,(hs.2 b (neL b o e)).trans e1⟩
  · obtain ⟨o',e1⟩:=I.base.there b o e hx;exact ⟨o',(hs.2 b (neL b o e)).trans e1⟩
  · by_cases hj:j=i
    · subst hj;rw [List.getElem?_set_self hiσ] at e2;cases e2
    · rw [List.getElem?_set_ne (Ne.symm hj)] at e2;obtain ⟨u',r',q⟩:=hl j y v' e1 e2 e3;refine ⟨u',r',?_⟩;rcases q with ⟨k,e⟩ | ⟨k,c,e,z⟩
      · refine .inl ⟨k,?_⟩;have:y≠x:=λ e=>hj (EL hN e1 (e▸hi));simp [this,e]
      · exact .inr ⟨k,c,e,z.sameBut hs (cne y c e)⟩
  · obtain ⟨w',z⟩:=I.cell y c e;exact ⟨w',z.sameBut hs (cne y c e)⟩
  · obtain ⟨e,n,ne,nf,d⟩:=I.pin p hp;exact ⟨(hs.2 p.1 ne).trans e,n,ne,nf,d⟩
  · refine (I.hok b ob e).stay (λ c w' hc q=>(hs.2 c ?_).trans q) (λ _ q=>q) λ _ _ q=>q;rintro rfl;rcases hc with rfl | hc
    · rw [I.free] at e;cases e
    · rw [I.free] at hc;cases hc
end
def Mb (j:Nat) (D:Ends):Ends:={ nx:=λ σ H=>D.nx (σ.set j none) H,rt:=D.rt,bk:=λ σ H=>D.bk (σ.set j none) H,ct:=λ σ H=>D.ct (σ.set j none) H }
def Mh (K:PySem.W.Frag) (CL:Addr) (len j:Nat) (ts:TS) (D:Ends):XK:=λ cls od H'=>∃ C,cls= .ref C/\PySem.W.exmOne K cls (.ref CL)=some true/\
  ∀ (a:Addr) (σ:St),H' a=none->σ.length=len->ts (Mb j D) (σ.set j (some (.ref a))) (upd H' a (E4 a C od))
def NG (K:PySem.W.Frag) (CL:Addr) (len j:Nat) (tb:XK->TS) (ts:TS):TS:=λ D σ H=>tb (Mh K CL len j ts D) D σ H
end L2
namespace L2
open PySem PySem.Spec PyProof.Rows PySem.W
theorem Ma {X:Cx} {x n:Str} {CL:Addr} {j:Nat} {body:List Stmt} {b₀:Stmt} {suite:List Stmt} {tb:XK->TS} {ts:TS} {xp hp pos:Pos} (hst:X.stack=X.env::X.outer) (hf:X.env.frame=some X.env.locals) (hm:X.mg x=some (.ref CL))
    (hN:X.N.Nodup) (hj:X.N[j]?=some n) (hx:X.env.scope.names.lookup n=some .local)
    (hb:∀ (pn:List (Addr × Obj)) (xe:Value->Shared->Prop) (E:XK),AK (CXE X.prog X.w) (X.tryC pn xe) E->PSs (X.tryC pn xe) body (tb E)) (hs:∀ (a:Addr) (xe:Value->Shared->Prop),PSs (X.markC a xe) (b₀::suite) ts)
    (hg:Gl X x:=by rfl) (hd:(x == ("__debug__":Str))=false:=by decide):
    PS X (.Try body [.ExceptHandler (some (.Name x xp)) (some n) (b₀::suite) hp] [] [] pos) (NG X.K CL X.N.length j tb ts):=by
  intro pins s σ H D I h;refine wpAny_Try_except ?_;have pass:AK (CXE X.prog X.w) (X.tryC (X.pn++pins) (λ e s₁=>wpAny (model X.prog X.w) X.A (noteFrame e X.env) (λ _ s₂=>wpAny (model X.prog X.w) X.A (setFlight e none) (λ _ s₃=>wpAny (model X.prog X.w) X.A (handleBy e X.env [.ExceptHandler (some (.Name x xp)) (some n) (b₀::suite) hp]) (SP X pins D) X.xe s₃) X.xe s₂) X.xe s₁)) (Mh X.K CL X.N.length j ts D):=by
    intro pins' σ' H1 s1 e s' I1 hc;have I1':Inv X pins σ' H1 s1:=I1.untry I.ok;refine Oi I1' hst hf hc λ a C t od H' B h3 e0 fl3 u3 di3 inv an q=> ?_;subst e0;obtain ⟨C',eC,hx',hr⟩:=q;cases eC;have I3:=(inv h3 fl3 u3 di3).1;obtain ⟨oa,hoa,hca⟩:=fl3.there;refine wpAny_handleBy_cons (codeAny_handlers_test ?_) (by intro q;cases q);refine Calls.Name_function_global I.ok.kind hg (Calls.loadGlobal_global (by rw [I.ok.glob];exact I.mod.glob.keeps I3.bk) hm ?_) hd;have lt:Looks (model X.prog X.w) h3 (typeOf (.ref a)) (.ref C):=hca▸(Looks.ld hoa).andThen .now;refine Looks.here (s:={ s' with heap:=h3 }) (PySem.W.exm_one (K:=X.K) I3.kIn lt hx') ?_;show codeAny _ _ (.handlers (.ref a) [.ExceptHandler none (some n) (b₀::suite) hp] X.env) _ _;refine codeAny_handlers_suite_as ?_;refine K8 (base:=B) (l:=X.stack) (s:={ s' with heap:=h3 }) fl3.1 fl3.2.2.1 fl3.2.2.2 λ h4 k1 k2 k3 k4 kd4=> ?_;have fl4:B.FlyingW X.stack a (.ref C) (.ref t) h4:=⟨k1,fl3.2.1,k2,k3⟩;have u4:s'.heap.UpToSlots h4:=En u3 λ b o e nf=>⟨o.slots,k4 b o e nf⟩;have I4:=(inv h4 fl4 u4 (di3.on kd4 (let ⟨o,e,_⟩:=fl4.there;⟨o,e⟩))).2;refine BC (v:= .ref a) I4 hN hj (.inl hx) rfl (λ s5 I5=> ?_) (.inr hx);refine wpAny_mono (hs a _ pins s5 _ _ (Mb j D) I5.markC (hr a σ' an I1'.len)) (λ f s6 hq=> ?_) λ _ _ y=>y;have fin:∀ σ6 H6,Inv X pins σ6 H6 s6->∀ Qf:Shared->Prop,(∀ s7,Inv X pins (σ6.set j none) H6 s7->Qf s7)->wpAny (model X.prog X.w) X.A (do bindName X.env n .none;unbindBehindTheSuite X.env n hp) (λ _ s₃=>Qf s₃) X.xe s6:=λ σ6 H6 I6 Qf hQ=>by
      refine wpAny_bind (bindName_ (BC (v:= .non) I6 hN hj (.inl hx) rfl (λ s7 I7=> ?_) (.inr hx)));unfold unbindBehindTheSuite;have hl6:j<σ6.length:=by rw [I6.len];exact (List.getElem?_eq_some_iff.mp hj).1
      refine wpAny_onRaise (IA (v:= .non) I7 hN hj hx (by rw [List.getElem?_set_self hl6]) λ s8 I8=> ?_);rw [List.set_set] at I8;exact hQ s8 I8
    show wpAny (model X.prog X.w) X.A (do bindName X.env n .none;unbindBehindTheSuite X.env n hp) (λ _ s₃=>SP X pins D f s₃) X.xe s6;cases f with
    | next=>
      obtain ⟨σ6,H6,I6,q6⟩:=hq;exact fin σ6 H6 (I6.unmark I.ok) _ λ s7 I7=>⟨_,_,I7,q6⟩
    | brk=>
      obtain ⟨σ6,H6,I6,q6⟩:=hq;exact fin σ6 H6 (I6.unmark I.ok) _ λ s7 I7=>⟨_,_,I7,q6⟩
    | cont=>
      obtain ⟨σ6,H6,I6,q6⟩:=hq;exact fin σ6 H6 (I6.unmark I.ok) _ λ s7 I7=>⟨_,_,I7,q6⟩
    | ret u=>
      obtain ⟨v6,σ6,H6,I6,r6,q6⟩:=hq;exact fin σ6 H6 (I6.unmark I.ok) _ λ s7 I7=>⟨v6,_,_,I7,r6,q6⟩
  refine wpAny_mono (hb _ _ _ pass [] s σ H D I.tryC h) (λ f s₁ hq=> ?_) λ _ _ y=>y;cases f with
  | next=>
    obtain ⟨σ',H',I',q'⟩:=hq;exact wpAny_execs_nil ⟨σ',H',I'.untry I.ok,q'⟩
  | brk=>
    obtain ⟨σ',H',I',q'⟩:=hq;exact ⟨σ',H',I'.untry I.ok,q'⟩
  | cont=>
    obtain ⟨σ',H',I',q'⟩:=hq;exact ⟨σ',H',I'.untry I.ok,q'⟩
  | ret u=>
    obtain ⟨v',σ',H',I',r',q'⟩:=hq;exact ⟨v',σ',H',I'.untry I.ok,r',q'⟩
end L2
namespace HT
open PySem PySem.Spec PyProof.Rows PySem.W PySem.Calls PySem.Builtin PySem.Builtin.ObjectAttr PySem.Builtin.Getset_descriptor
def ExcAt (a C:Addr) (h:Heap):Prop:=∃ o,h.get? a=some o/\o.cls= .ref C
structure ExcKind (K:Frag) (C:Addr):Prop where
  cl:(clsIn K C).isSome=true
  ga:findIn K (.ref C) "__getattribute__"=some (some (.builtin "BaseException.__getattribute__"))
  ng:findIn K (.ref C) "__getattr__"=some none
  hb:mroIn K C (.type "BaseException")=some true
  ha:findIn K (.ref C) "__class__"=some (some (.builtin "object.__class__"))
  hn:specialIn K (.builtin "object.__class__") "__get__"=some (some (.builtin "getset_descriptor.__get__"))
  htk:takesIn K (.builtin "object.__class__")=some true
  hm:mroIn K C (.type "object")=some true
theorem ExcAt.type {M:Model} {h:Heap} {a C:Addr} (x:ExcAt a C h):Looks M h (typeOf (.ref a)) (.ref C):=by
  obtain ⟨o,e,c⟩:=x;exact c▸(Looks.ld e).andThen .now
theorem IP {K:Frag} {M:Model} {h:Heap} {a C:Addr} (k:ExcKind K C) (X:K.In h):Looks M h (find (.ref a) (.ref C) "__class__") (.bind (.builtin "getset_descriptor.__get__") (.builtin "object.__class__")):=by
  have L1:=looks_findIn (M:=M) X k.ha;have L2:Looks M h (getOf (some (.builtin "object.__class__"))) (some (.builtin "getset_descriptor.__get__")):=looks_specialIn X k.hn;have L3:=looks_takesIn (M:=M) X k.htk;exact L1.andThen (L2.andThen ((show Looks M h (dataDescriptor? (some (.builtin "object.__class__")) (some (.builtin "getset_descriptor.__get__"))) (some (.builtin "getset_descriptor.__get__", .builtin "object.__class__")) from L3.andThen .now).andThen (Looks.tag .now)))
section
variable {prog:Program} {w:World} {A:Around} {E:Value->Shared->Prop} {s:Shared} {K:Frag} {a C:Addr}
theorem KB {R:Result->Shared->Prop} {tp:Value} (X:K.In s.heap) (x:ExcAt a C s.heap) (hm:mroIn K C (.type "object")=some true) (h:R (.ok (.ret (.ref C))) s):
    codeAny (model prog w) A (.call (.builtin "getset_descriptor.__get__") ⟨[.builtin "object.__class__", .ref a,tp],[]⟩) R s:=by
  obtain ⟨hh,g,dr,t,os⟩:=s;have L0:=x.type (M:=model prog w);have L1:=looks_mroIn (M:=model prog w) X hm;refine codeAny_call_builtin KF.slot_gs.plain KF.entry_gs (KF.slot_gs.check _ _ _ _ _ _ _ _ KF.type_class (KF.args_gs _ _ _) ?_);unfold Builtin.«getset_descriptor.__get__» descrGet;rw [dga_obj];refine wpAny_bind (wpAny_pure ?_);unfold descrGetter descrCheckInstance descrNameAndClass isInstance;simp only [KF.owner_class]
  repeat lk
  refine ⟨Code.quiet_builtin _ (by decide +kernel),codeAny_builtin KF.entry_class ?_⟩;unfold Builtin.«object.__class__» shownTypeOf
  repeat lk
  exact h
theorem HZ {Q:Unit->Shared->Prop} {nameV:Value} (k:ExcKind K C) (X:K.In s.heap) (x:ExcAt a C s.heap) (h:Q () s):wpAny (model prog w) A (checkBuiltinCall "BaseException.__getattribute__" ⟨[.ref a,nameV],[]⟩) Q E s:=by
  have hk:builtinKind "BaseException.__getattribute__"=some .slot:=by decide +kernel
  have hsplit:splitId "BaseException.__getattribute__"=some ("BaseException","__getattribute__"):=by decide +kernel
  have ha:=PySem.F.args_bexc_ga (.ref a) nameV;have L0:=x.type (M:=model prog w);have L1:=looks_mroIn (M:=model prog w) X k.hb;simp only [checkBuiltinCall,hk,hsplit];refine wpAny_bind ?_;unfold isInstance
  repeat lk
  exact h
theorem HU {Q:Option Value->Shared->Prop} (k:ExcKind K C) (X:K.In s.heap) (x:ExcAt a C s.heap) (h:Q (some (.ref C)) { s with toks:=s.toks+1 }):wpAny (model prog w) A (getAttr? (.ref a) "__class__") Q E s:=by
  obtain ⟨hh,g,d,t,os⟩:=s;have L0:=x.type (M:=model prog w);have L1:=looks_findIn (M:=model prog w) X k.ga;have L2:=looks_findIn (M:=model prog w) X k.ng;have L3:=IP (M:=model prog w) (a:=a) k X;unfold getAttr? getAttrBy? getAttrBy;refine wpAny_bind (wpAny_mkText (wpAny_bind (wpAny_attempt (wpAny_holding (wpAny_bind (L0.at (wpAny_bind (L1.at ?_))))))));show wpAny _ _ (getAttrByItsOwn (.ref a) _ (.ref C) (.builtin "BaseException.__getattribute__") false false) _ _ _;unfold getAttrByItsOwn;refine wpAny_bind (L2.at ?_);refine wpAny_bind (wpAny_attempt (wpAny_holding ?_));show wpAny _ _ (boundAndCalled (.builtin "BaseException.__getattribute__") (.ref a) _) _ _ _;unfold boundAndCalled;rw [PySem.F.excAttr_ValueError.ga.bind (.ref a)];refine wpAny_bind (wpAny_pure ?_);refine wpAny_call (codeAny_call_builtin PySem.F.excAttr_ValueError.ga.plain PySem.F.entry_bexc_ga (HZ (s:=⟨hh,g,d,t+1,os⟩) k X x ?_));unfold Builtin.«object.__getattribute__»
  iterate 22 lk
  refine wpAny_call (KB (s:=⟨hh,g,d,t+1,os⟩) X x k.hm ?_)
  repeat lk
  exact h
theorem kitx_exc (k:ExcKind K C):KitX K (.ref a) (.ref C) (ExcAt a C) where
  ty:=λ _ _ _ x=>x.type
  it:=λ _ _ X _=>by
    obtain ⟨cd,hc⟩:=Option.isSome_iff_exists.mp k.cl;unfold clsIn at hc;split at hc
    · rename_i c' d' cd' sl' ho
      intro A' Q' E' s' kk q;unfold isType loadHead;exact wpAny_bind (wpAny_loadPart (kk _ _ (X _ _ ho)) (wpAny_pure q))
    · cases hc
  ne:=λ h tp dd its n sl X htp=>by
    obtain ⟨cd,hc⟩:=Option.isSome_iff_exists.mp k.cl;refine Bool.eq_false_iff.mpr λ q=> ?_;have e:C=tp:=Value.ref.inj (beq_iff_eq.mp q);subst e;unfold clsIn at hc;split at hc
    · rename_i c' d' cd' sl' ho
      have z:=(X _ _ ho).symm.trans htp;cases z
    · cases hc
  ca:=λ X x h=>HU k X x h
end
end HT
namespace L2
open PySem PySem.Spec PyProof.Rows
theorem IL {X:Cx} {pins:List (Addr × Obj)} {σ:St} {H:Hp} {s:Shared} {A:Around} {E:Value->Shared->Prop} {Q:Value->Shared->Prop} {a C:Addr} {od:Option Addr} {c:Value} {b:Bool} (I:Inv X pins σ H s) (e:H a=some (E4 a C od)) (k:HT.ExcKind X.K C)
    (h:PySem.W.kitOne X.K (.ref C) c=some b) (hq:∀ tk,Q (.bool b) { s with toks:=tk }):wpAny (model X.prog X.w) A (call (.builtin "isinstance") [.ref a,c]) Q E s:=
  PySem.W.kia_one (HT.kitx_exc k) I.kIn (show HT.ExcAt a C s.heap from let ⟨o,h1,h2,_⟩:=(show ObjOk X.prog X.w H s.heap a (E4 a C od) from I.hok a _ e).1;⟨o,h1,h2⟩) h (λ z=>nomatch z) hq
def Hd (K:PySem.W.Frag):List V->Hp->VK->Prop:=λ xs H Q=>∃ (y c:V) (cv t:Value) (b:Bool),xs=[y,c]/\((∃ D,c= .ref D/\cv= .ref D)\/∃ T,c= .ty T/\cv= .type T)/\PySem.W.kitOne K t cv=some b/\
  (TyOf K H y t\/∃ a C od,y= .ref a/\H a=some (E4 a C od)/\t= .ref C/\HT.ExcKind K C)/\Q (.bl b) H
theorem Ba {X:Cx} {K:PySem.W.Frag} (hK:X.K=K:=by rfl):AR X (.builtin "isinstance") (Hd K):=by
  subst hK;intro pins s σ H xs us Q I r h;obtain ⟨y,c,cv,t,b,rfl,hc,e,hy,q⟩:=h;obtain ⟨u,c',rfl,rx,rc⟩:=Gi r;have ec:c'=cv:=by
    rcases hc with ⟨D,rfl,rfl⟩ | ⟨T,rfl,rfl⟩
    · exact rc
    · exact rc
  subst ec;rcases hy with ty | ⟨a,C,od,rfl,ha,rfl,k⟩
  · exact Dr I rx ty e λ tk=>⟨.bl b,H,I.tok tk,rfl,q⟩
  · cases rx;exact IL I ha k e λ tk=>⟨.bl b,H,I.tok tk,rfl,q⟩
theorem AY {K:PySem.W.Frag} {H:Hp} {Q:VK} {a C D:Addr} {od:Option Addr} {b:Bool} (ha:H a=some (E4 a C od)) (k:HT.ExcKind K C) (e:PySem.W.kitOne K (.ref C) (.ref D)=some b) (h:Q (.bl b) H):Hd K [.ref a, .ref D] H Q:=
  ⟨_,_,_,_,b,rfl, .inl ⟨D,rfl,rfl⟩,e, .inr ⟨a,C,od,rfl,ha,rfl,k⟩,h⟩
theorem IC {K:PySem.W.Frag} {H:Hp} {Q:VK} {a C:Addr} {od:Option Addr} {T:String} {b:Bool} (ha:H a=some (E4 a C od)) (k:HT.ExcKind K C) (e:PySem.W.kitOne K (.ref C) (.type T)=some b) (h:Q (.bl b) H):Hd K [.ref a, .ty T] H Q:=
  ⟨_,_,_,_,b,rfl, .inr ⟨T,rfl,rfl⟩,e, .inr ⟨a,C,od,rfl,ha,rfl,k⟩,h⟩
end L2
namespace HT
open PySem PySem.Spec PyProof.Rows PySem.W
theorem own_mk {K:Frag} {base:Heap} {mg:Str->Option Value} {x:Str} {C:Addr} {bmB:List Value} {newId:String} (X:K.In base) (hm:mg x=some (.ref C)) (q:excIn K C bmB newId=true):OwnCls x C bmB newId mg base:=by
  refine ⟨hm,?_⟩;unfold excIn at q;split at q
  · rename_i dd cd sl ho
    split at q
    · rename_i C' bm k0 k1 k2 k3 n k5 hm' hs
      simp only [Bool.and_eq_true,beq_iff_eq,Bool.not_eq_true'] at q;obtain ⟨⟨⟨⟨⟨rfl,rfl⟩,hdel⟩,ht⟩,hok⟩,hni⟩:=q;obtain ⟨nm,bs,mro,ns,qn,hd,sn,sub,ab,col,del⟩:=cd;dsimp only at hm' hdel hok hni;subst hm' hdel;obtain ⟨l⟩:=sl;have hsl:l=[k0,k1,k2,k3,some (.builtin n),k5]:=hs;subst hsl;exact ⟨bm,ns,nm,qn,bs,hd,sn,sub,ab,col,dd,k0,k1,k2,k3,k5,_,X _ _ ho, .of_isNs (isNs_of_in X hok),nsMap_none_of_in X hok hni,tail_of_in X ht⟩
    · cases q
  · cases q
end HT
namespace L2
open PySem PySem.Spec PyProof.Rows
def Gx (P:Program) (w:World) (K:PySem.W.Frag) (mg:Str->Option Value) (base:Heap) (x:Str) (k:Nat) (ps:List Str) (sp:Sp):Prop:=
  ∃ f fd,mg x=some (.ref f)/\PySem.W.keepIn K (.ref f)=true/\FnOk P w K mg base (CXE P w) k f fd ps sp/\Binds K fd ps []
def Hu (P:Program) (w:World) (K:PySem.W.Frag) (mg:Str->Option Value) (base:Heap) (x:Str) (C:Addr) (k:Nat) (ps:List Str) (sp:Sp):Prop:=
  ∃ f fd,mg x=some (.ref C)/\Mk K C f/\FnOk P w K mg base (CXE P w) k f fd ps sp/\Binds K fd ps []
theorem DefAt.callE {P:Program} {w:World} {K:PySem.W.Frag} {mg:Str->Option Value} {base:Heap} {x:Str} {st:Stmt} {ps:List Str} {f:Addr} {fd:FuncData} {k:Nat} {sp:Sp} (d:DefAt K mg x st ps f fd)
    (F:FnOk P w K mg base (CXE P w) k f fd ps sp):Gx P w K mg base x k ps sp:=⟨f,fd,d.at',d.fn.kp,F,d.bi⟩
section
variable {X:Cx} {x:Str} {C:Addr} {k:Nat} {ps:List Str} {sp:Sp} {E:XK} {e:Expr} {es:List Expr} {t:TA} {p pos:Pos}
theorem BB (h:Gx X.prog X.w X.K X.mg X.base x k ps sp) (hr:Room k X.A) (hx:AK (CXE X.prog X.w) X E) (ha:PA X (e::es) t) (hg:Gl X x:=by rfl) (hdb:(x == ("__debug__":Str))=false:=by decide)
    (he:starEach (e::es) X.env=(false,eval e X.env)::starEach es X.env:=by rfl) (hpl:(backTo pos (starEach es X.env)).any (·.1)=false:=by rfl):
    PE X (.Call (.Name x p) (e::es) [] pos) (Gs sp [] E t):=by
  obtain ⟨f,fd,hm,hk,F,hb⟩:=h;exact Hy F hr hg hm hk hb .nil hx ha hdb he hpl
theorem AI (h:Hu X.prog X.w X.K X.mg X.base x C k ps sp) (hr:Room (k+1) X.A) (hx:AK (CXE X.prog X.w) X E) (ha:PA X (e::es) t) (hg:Gl X x:=by rfl) (hdb:(x == ("__debug__":Str))=false:=by decide)
    (he:starEach (e::es) X.env=(false,eval e X.env)::starEach es X.env:=by rfl) (hpl:(backTo pos (starEach es X.env)).any (·.1)=false:=by rfl):
    PE X (.Call (.Name x p) (e::es) [] pos) (Ft C sp [] E t):=by
  obtain ⟨f,fd,hm,M,F,hb⟩:=h;exact KG M F hr hg hm hb .nil hx ha hdb he hpl
end
theorem IT {P:Program} {w:World} {K:PySem.W.Frag} {mg:Str->Option Value} {base:Heap} {N:List Str} {qual:Str} {scope:Scope} {f:Addr} {cd:Value} {A:Around} {outer:List Env} {s₀:Shared} {H₀:Hp} {E:XK}:
    AK (CXE P w) (Bo (CXE P w) P w K mg base N qual scope f cd A outer s₀ H₀ E) E:=HM λ _ _ _ h=>h
section
variable {P:Program} {w:World} {K:PySem.W.Frag} {mg:Str->Option Value} {base:Heap}
theorem Fun.okE {x qual:Str} {st:Stmt} {f:Addr} {fd:FuncData} {N ps:List Str} {k:Nat} {sp:Sp} (F:Fun K x qual st f fd) (S:FnScope N ps (Ah st)) (len:∀ vs H Q E,sp vs H Q E->vs.length=ps.length)
    (hbody:∀ (cdv:Value) (A:Around) (outer:List Env) (s:Shared) (H:Hp) (vs:List V) (Q:VK) (E:XK),Room k (A.deeper (envOfC qual (Ah st) s.heap.objs.size f cdv))->sp vs H Q E->
      ∃ t,PSs (Bo (CXE P w) P w K mg base N qual (Ah st) f cdv A outer s H E) (Bk st) t/\t { nx:=λ _ H'=>Q .non H',rt:=Q } (start N vs) H):FnOk P w K mg base (CXE P w) (k+1) f fd ps sp:=by
  obtain ⟨oc,od,kV,doc,pm,an,cdv,ct,osl,rfl,lk,hcd⟩:=F.ex;refine Jg lk hcd S len λ A outer s H vs Q E hr hsp=> ?_;exact hbody cdv A outer s H vs Q E hr hsp
theorem Bz {N:List Str} {qual:Str} {scope:Scope} {f:Addr} {cd:Value} {A:Around} {outer:List Env} {s₀:Shared} {H₀:Hp} {E:XK} {x:Str} {C:Addr} {e₀:Expr} {rest:List Expr} {np cpos pos:Pos} {ta:TA} (hm:mg x=some (.ref C))
    (q:PySem.W.excIn K C [.type "ValueError", .type "Exception", .type "BaseException", .type "object"] "ValueError.__new__"=true) (ha:PA (Bo (CXE P w) P w K mg base N qual scope f cd A outer s₀ H₀ E) (e₀::rest) ta)
    (he:starEach (e₀::rest) (envOfC qual scope s₀.heap.objs.size f cd)=(false,eval e₀ (envOfC qual scope s₀.heap.objs.size f cd))::starEach rest (envOfC qual scope s₀.heap.objs.size f cd):=by rfl)
    (hplain:(backTo cpos (starEach rest (envOfC qual scope s₀.heap.objs.size f cd))).any (·.1)=false:=by rfl)
    (hg:Gl (Bo (CXE P w) P w K mg base N qual scope f cd A outer s₀ H₀ E) x:=by rfl) (hd:(x == ("__debug__":Str))=false:=by decide):
    PS (Bo (CXE P w) P w K mg base N qual scope f cd A outer s₀ H₀ E) (.Raise (some (.Call (.Name x np) (e₀::rest) [] cpos)) none pos) (JL E C ta):=λ pins s σ H D I h=>
  Js (HT.own_mk I.mod.kin hm q) PySem.F.excBase_ValueError ha he hplain hg hd pins s σ H D I h
end
theorem DR:bootBuiltins "ValueError"=some (.type "ValueError"):=by decide +kernel
theorem B4 {X:Cx}:AK (CXE X.prog X.w) X E0:=by
  intro pins σ H s e s' I h;obtain ⟨_,_,_,_,_,_,_,_,_,_,_,_,q⟩:=h;exact False.elim q
theorem TyOf.same {K:PySem.W.Frag} {H H':Hp} {x:V} {t:Value} (h:TyOf K H x t) (s:Same H H'):TyOf K H' x t:=by
  cases h with
  | non=>exact .non
  | bl x=>exact .bl x
  | int i=>exact .int i
  | str x=>exact .str x
  | flt x=>exact .flt x
  | lst e=>exact .lst (s _ _ e)
  | frz e=>exact .frz (s _ _ e)
  | tup e=>exact .tup (s _ _ e)
  | dK e=>exact .dK (s _ _ e)
  | dT e=>exact .dT (s _ _ e)
  | ins e cl ha hn htk hm=>exact .ins (s _ _ e) cl ha hn htk hm
theorem Ty.same {K:PySem.W.Frag} {H H':Hp} {x:V} (h:Ty K H x) (s:Same H H'):Ty K H' x:=let ⟨n,t⟩:=h;⟨n,t.same s⟩
theorem IZ {C:Addr} {sp:Sp} {t:TA} {σ:St} {H:Hp} {Q:VK} {E:XK} (h:t σ H λ vs H1=>∀ x dx,H1 x=none->H1 dx=none->dx≠x->sp (.ref x::vs) (upd (upd H1 dx (.own x)) x (.ins C dx [])) (λ v H2=>v= .non/\Q (.ref x) H2) E):Ft C sp [] E t σ H Q:=by
  unfold Ft;simpa using h
theorem L6 {j:Nat} {D:Ends} {σ:St} {H:Hp} (h:D.nx (σ.set j none) H):(Mb j D).nx σ H:=h
theorem Mc {K:PySem.W.Frag} {CL:Addr} {len j:Nat} {tb:XK->TS} {ts:TS} {D:Ends} {σ:St} {H:Hp} (h:tb (Mh K CL len j ts D) D σ H):NG K CL len j tb ts D σ H:=h
end L2
namespace HT
open PySem PySem.Spec PyProof.Rows PySem.SeqAt
open PySem.AutoSeq1 (wpAny_loadPart')
open PySem.MeetsSeq PySem.MeetsSeq2 PySem.MeetsSeq3
section
variable {A:Around} {s:Shared}
end
end HT
namespace L2
open PySem PySem.Spec PyProof.Rows
inductive DX where
  | d (d:Dt) | dic | tdic (rest:List Dt)
inductive Rx (H:Hp) (n:Nat):V->DX->Prop
  | d {v:V} {d:Dt} (r:Rp H FT n v d):Rx H n v (.d d)
  | dic {a:Addr} (h:H a=some (.dK [])):Rx H n (.ref a) .dic
  | tdic {t a:Addr} {ws:List V} {ds:List Dt} (ht:H t=some (.tup (.ref a::ws))) (h:H a=some (.dK [])) (l:ws.length=ds.length) (e:∀ (i:Nat) (v:V) (d:Dt),ws[i]?=some v->ds[i]?=some d->Rp H FT n v d):Rx H n (.ref t) (.tdic ds)
section
variable {X:Cx} {pins:List (Addr × Obj)} {σ:St} {H:Hp} {s:Shared}
end
theorem ifE {c:Bool} {ta tb:TE} {σ:St} {H:Hp} {R:VK} (P:V->Hp->Prop) (h1:∀ v H',P v H'->R v H') (h2:∀ R':VK,(∀ v H',P v H'->R' v H')->if c=true then ta σ H R' else tb σ H R'):if c=true then ta σ H R else tb σ H R:=h2 R h1
end L2
namespace L2
open PySem PySem.Spec PyProof.Rows PySem.W
def exO (a:Addr) (o:Obj):HO:= .ext λ h=>h.get? a=some o
theorem LX {P:Program} {w:World} {H:Hp} {h:Heap} {a:Addr} {o:Obj} (e:h.get? a=some o):ObjOk P w H h a (exO a o):=⟨e,⟨o,e⟩,λ _ _ x k=>k o x⟩
theorem Kr {P:Program} {w:World} {H:Hp} {h:Heap} {a:Addr} {o:Obj} (x:ObjOk P w H h a (exO a o)):h.get? a=some o:=x.1
def cxL (P:Program) (w:World) (K:PySem.W.Frag) (mg:Str->Option Value) (base:Heap) (N:List Str) (qual:Str) (scope:Scope) (f:Addr) (cd:Value) (cl:List (Str × Addr)) (A:Around) (outer:List Env) (s:Shared) (H:Hp) (E:XK):Cx where
  prog:=P
  w:=w
  K:=K
  mg:=mg
  base:=base
  A:=A.deeper (envX qual scope s.heap.objs.size f cd cl)
  N:=N
  s₀:=s
  H₀:=H
  env:=envX qual scope s.heap.objs.size f cd cl
  outer:=outer
  stack:=envX qual scope s.heap.objs.size f cd cl::outer
  ex:=[]
  calm:=true
  fn:=λ _=>false
  pn:=[]
  xe:=λ e s'=>wpAny (model P w) (A.deeper (envX qual scope s.heap.objs.size f cd cl)) (leaving (envX qual scope s.heap.objs.size f cd cl) e) (λ _ s''=>CXE P w outer H s E e s'') (λ e' s''=>CXE P w outer H s E e' s'') s'
section
variable {P:Program} {w:World} {K:PySem.W.Frag} {mg:Str->Option Value} {base:Heap} {N:List Str} {qual:Str} {scope:Scope} {f:Addr} {cd:Value} {cl:List (Str × Addr)} {A:Around} {outer:List Env} {s:Shared} {H:Hp} {E:XK}
structure ClOkL (N:List Str) (scope:Scope) (cl:List (Str × Addr)) (h:Heap) (H:Hp) (vs:List V):Prop where
  len:vs.length=N.length
  inj:∀ x y c,cl.lookup x=some c->cl.lookup y=some c->x=y
  has:∀ x,(scope.names.lookup x=some .cell\/scope.names.lookup x=some .free)->∃ c,cl.lookup x=some c
  val:∀ (i:Nat) (x:Str) (v:V),N[i]?=some x->vs[i]?=some v->∃ c u,scope.names.lookup x=some .free/\cl.lookup x=some c/\RelV v u/\h.IsCell c (some u)
  cell:∀ x c,cl.lookup x=some c->(∃ v,h.IsCell c v)/\H c=none
theorem GR {vs:List V} {h':Heap} {tk:Nat} (hk:scope.kind= .function) (hd:A.handled=none) (e0:Env0 P w K mg base A outer s H) (C:ClOkL N scope cl s.heap H vs) (hns:h'.Ns s.heap.objs.size λ _=>none) (kp:∀ b o,s.heap.get? b=some o->h'.get? b=some o):
    Inv (cxL P w K mg base N qual scope f cd cl A outer s H E) [] (vs.map some) H { s with heap:=h',toks:=tk }:=by
  have noA:∀ b:Addr,b∉(cxL P w K mg base N qual scope f cd cl A outer s H E).ex:=λ b z=>absurd (show b∈([]:List Addr) from z) (by simp);have ic:∀ c v,s.heap.IsCell c v->h'.IsCell c v:=λ c v ⟨o,e,d⟩=>⟨o,kp _ _ e,d⟩;refine ⟨⟨e0.mod,hk,rfl,rfl,Nat.le_refl _,C.inj,C.has,λ y c z _=>(by cases z),λ _=>hd,Around.frames_deeper e0.frames, .inr ⟨rfl,rfl⟩,λ b z=>absurd z (noA b),e0.bs,e0.bsz,λ b _ _=>noA b,λ b z=>absurd z (noA b),e0.funs,e0.frf⟩,
    rfl,e0.bare,Un.kept kp,⟨_,hns,λ i y v h1 h2 h3=> ?_⟩,λ y c h=> ?_,e0.hok.fresh (Nat.le_refl _),λ y c h=>(C.cell y c h).2,λ p hp=>absurd (show p∈([]:List (Addr × Obj)) from hp) (by simp),e0.hok.kept kp,by rw [List.length_map];exact C.len⟩
  · have h2':vs[i]?=some v:=by
      rw [List.getElem?_map] at h2;cases e:vs[i]? with
      | none=>rw [e] at h2;cases h2
      | some a=>rw [e] at h2;cases h2;rfl
    obtain ⟨c,u,k,l,r,ce⟩:=C.val i y v h1 h2';exact ⟨u,r, .inr ⟨.inr k,c,l,ic _ _ ce⟩⟩
  · obtain ⟨v,z⟩:=(C.cell y c h).1;exact ⟨v,ic _ _ z⟩
theorem Jn {s₀:Shared} {H₀:Hp} {E':XK}
    (hE:∀ c o H,E c o H->E' c o H):AK (CXE P w) (cxL P w K mg base N qual scope f cd cl A outer s₀ H₀ E') E:=by
  intro pins σ H s e s' I h;obtain ⟨a,C,t,od,H',rfl,os,bare,un,hok,⟨B,fl,cov⟩,di,q⟩:=h;have hfr:(envX qual scope s₀.heap.objs.size f cd cl).frame=some s₀.heap.objs.size:=rfl;have hfs:frs (envX qual scope s₀.heap.objs.size f cd cl::outer)=s₀.heap.objs.size::frs outer:=By hfr;refine Ef I.ok.frames hfr fl λ h' fl' ups kd=> ?_;have ib:Un (frs outer) [] H₀ H s₀.heap s.heap:=I.base;have nl:∀ b o,s₀.heap.get? b=some o->b≠s₀.heap.objs.size:=λ b o e=>Nat.ne_of_lt (Heap.lt_size e);have toB:∀ b,(H' b≠none\/∃ o,s.heap.get? b=some o)->b∉frs (envX qual scope s₀.heap.objs.size f cd cl::outer)->∀ o,s'.heap.get? b=some o->h'.get? b=some o:=λ b hb hn o e=>fl'.1 b o (cov b hb hn o e);have untr:∀ b,b∈frs (envX qual scope s₀.heap.objs.size f cd cl::outer)->H' b=none:=λ b hb=>by
    obtain ⟨_,o,e,_⟩:=Ay I.stack hb;exact un.free b o e (I.stkFree b hb) (by simp)
  have hok':HOk P w H' h':=hok.on λ b u hb e=>by
    refine toB b (.inl hb) (λ z=>hb (untr b z)) u e
  refine ⟨a,C,t,od,H',rfl,os.trans I.os,bare,?_,hok',⟨B,fl',λ b hb hn o e=> ?_⟩,di.on kd (let ⟨o,e,_⟩:=fl'.there;⟨o,e⟩),hE _ _ _ q⟩
  · have notin:∀ b o,s₀.heap.get? b=some o->b∉frs outer->b∉frs (envX qual scope s₀.heap.objs.size f cd cl::outer):=λ b o e hn z=>by
      rw [hfs] at z;rcases List.mem_cons.mp z with z | z
      · exact nl b o e z
      · exact hn z
    have isin:∀ b,b∈frs outer->b∈frs (envX qual scope s₀.heap.objs.size f cd cl::outer):=λ b hb=>by rw [hfs];exact List.mem_cons_of_mem _ hb
    refine ⟨λ b o e hH hn _=> ?_,λ b o e hH hb _=> ?_,λ b o e hH _=> ?_,λ b o e _=> ?_,λ b xs e=>un.tups b xs (ib.tups b xs e),λ b o u e=>un.frzs b o u (ib.frzs b o u e),λ b ps e=> ?_⟩
    · have e1:=ib.keep b o e hH hn (by simp);exact toB b (.inr ⟨o,e1⟩) (notin b o e hn) o (un.keep b o e1 (ib.free b o e hH (by simp)) (notin b o e hn) (by simp))
    · obtain ⟨sl,e1⟩:=ib.slot b o e hH hb (by simp);obtain ⟨sl2,e2⟩:=un.slot b _ e1 (ib.free b o e hH (by simp)) (isin b hb) (by simp);obtain ⟨_,o',e',nf⟩:=Ay fl.2.2.1 (isin b hb);rw [e2] at e';cases e';obtain ⟨sl3,e3⟩:=ups b _ e2 nf;exact ⟨sl3,e3⟩
    · obtain ⟨o1,e1⟩:=ib.there b o e (by simp);exact un.free b o1 e1 (ib.free b o e hH (by simp)) (by simp)
    · obtain ⟨o1,e1⟩:=ib.there b o e (by simp);obtain ⟨o2,e2⟩:=un.there b o1 e1 (by simp);by_cases hb:b∈frs outer
      · obtain ⟨_,o',e',nf⟩:=Ay fl.2.2.1 (isin b hb);obtain ⟨sl3,e3⟩:=ups b _ e' nf;exact ⟨_,e3⟩
      · exact ⟨o2,toB b (.inr ⟨o1,e1⟩) (notin b o e hb) o2 e2⟩
    · obtain ⟨m1,e1⟩:=ib.tbls b ps e;obtain ⟨m2,e2⟩:=un.tbls b _ e1;exact ⟨m1++m2,by rw [e2,Array.append_assoc]⟩
  · have hn2:b∉frs (envX qual scope s₀.heap.objs.size f cd cl::outer):=λ z=>by
      have z0:=z;rw [hfs] at z;rcases List.mem_cons.mp z with z | z
      · rcases hb with hb | ⟨o1,e1⟩
        · exact hb (untr b z0)
        · exact nl b o1 e1 z
      · exact hn z
    obtain ⟨o2,e2,hb2⟩:∃ o2,s'.heap.get? b=some o2/\(H' b≠none\/∃ o,s.heap.get? b=some o):=by
      rcases hb with hb | ⟨o1,e1⟩
      · cases hx:H' b with
        | none=>exact absurd hx hb
        | some u=>
          obtain ⟨o2,e2⟩:=Et (hok b u hx);exact ⟨o2,e2, .inl (λ z=>by cases z)⟩
      · obtain ⟨o3,e3⟩:=ib.there b o1 e1 (by simp);obtain ⟨o2,e2⟩:=un.there b o3 e3 (by simp);exact ⟨o2,e2, .inr ⟨o3,e3⟩⟩
    have e3:=cov b hb2 hn2 o2 e2;have e4:=fl'.1 b o2 e3;rw [show h'.get? b=some o from e] at e4;cases e4;exact e3
theorem OT {k:Nat} {params:Arguments} {body:Expr} {pm ctv:Value} {c':Addr} {vs:List V} {Q:VK} {tb:TE} (ho:s.heap.get? f=some (kla_obj "<lambda>" qual params body scope cl pm c' ctv)) (hcd:s.heap.CodeRec (.ref c') qual) (hr:Room (k+1) A) (e0:Env0 P w K mg base A outer s H)
    (hk:scope.kind= .function) (hco:scope.isCoroutine=false) (hgen:scope.isGenerator=false) (hcell:∀ x∈scope.names,x.2≠ .cell) (hbind:bindArgs (kla_fn "<lambda>" qual params body scope cl pm (.ref c') ctv) ⟨[],[]⟩=pure []) (C:ClOkL N scope cl s.heap H vs)
    (hb:PE (cxL P w K mg base N qual scope f (.ref c') cl A outer s H E) body tb) (h:tb (vs.map some) H Q):codeAny (model P w) A (.call (.ref f) ⟨[],[]⟩) (CR (CXE P w) outer P w H s Q E) s:=by
  have lim:s.heap.NoLimit:=e0.mod.nolimit.keeps λ b o e=>(e0.bs b o e).1;refine kla_callFunE hr.depth ho rfl hco hgen rfl hcd ?_;rw [hbind];refine wpAny_pure (wpAny_newFunctionEnv hcell (λ x hx=>by cases hx) (λ h₁ hns hsb=>⟨lim.fresh _ hsb,?_⟩) hk);have kp:∀ b o,s.heap.get? b=some o->h₁.get? b=some o:=λ b o e=>hsb.extBut b o (Nat.ne_of_lt (Heap.lt_size e)) (Heap.get?_push_of_some _ e);show codeAny _ _ (.expr body (envX qual scope s.heap.objs.size f (.ref c') cl)) _ _;refine kla_codeExpr ?_;have I:Inv (cxL P w K mg base N qual scope f (.ref c') cl A outer s H E) [] (vs.map some) H { s with heap:=h₁,toks:=s.toks+0 }:=GR hk hr.hd e0 C hns kp;refine wpAny_mono (hb [] _ _ H Q I h) (λ u s' hs=> ?_) λ e s' hs=>hs;obtain ⟨v,H',J,rv,q⟩:=hs;exact ⟨v,H',J.os,J.bare,J.base,J.hok,rv,q⟩
end
theorem ClOkL.on {N:List Str} {scope:Scope} {cl:List (Str × Addr)} {h h':Heap} {H H':Hp} {vs:List V} (C:ClOkL N scope cl h H vs) (k:∀ x c o,cl.lookup x=some c->h.get? c=some o->h'.get? c=some o/\H' c=none):ClOkL N scope cl h' H' vs:=by
  refine ⟨C.len,C.inj,C.has,λ i x v h1 h2=> ?_,λ x c e=> ?_⟩
  · obtain ⟨c,u,k1,l,r,o,e,d⟩:=C.val i x v h1 h2;exact ⟨c,u,k1,l,r,o,(k x c o l e).1,d⟩
  · obtain ⟨⟨v,o,e1,d⟩,_⟩:=C.cell x c e;exact ⟨⟨v,o,(k x c o e e1).1,d⟩,(k x c o e e1).2⟩
def Ge (qual:Str) (oc:Obj):Prop:=∃ vs t,oc.data= .fields vs/\vs[1]?=some (.str qual t)
def Hk (f c':Addr) (oc:Obj) (vs:List V) (to tb:TE):TE:=λ σ H Q=>to σ H λ v H1=>v= .ref f/\H1 c'=some (exO c' oc)/\tb (vs.map some) H1 Q
theorem Jl {X:Cx} {k:Nat} {E:XK} {N:List Str} {qual:Str} {scope:Scope} {f c':Addr} {oc:Obj} {cl:List (Str × Addr)} {params:Arguments} {body:Expr} {pm ctv:Value} {vs:List V} {o:Expr} {to tb:TE} {pos:Pos}
    (ho:PE X o to) (hx:AK (CXE X.prog X.w) X E) (hr:Room (k+1) X.A) (hex:X.ex=[]) (hf:X.s₀.heap.get? f=some (kla_obj "<lambda>" qual params body scope cl pm c' ctv)) (hf0:X.H₀ f=none) (nf:f∉X.fs) (hoc:Ge qual oc)
    (C:ClOkL N scope cl X.s₀.heap X.H₀ vs) (nc:∀ x c,cl.lookup x=some c->c∉X.fs)
    (hk:scope.kind= .function) (hco:scope.isCoroutine=false) (hgen:scope.isGenerator=false) (hcell:∀ x∈scope.names,x.2≠ .cell) (hbind:bindArgs (kla_fn "<lambda>" qual params body scope cl pm (.ref c') ctv) ⟨[],[]⟩=pure [])
    (hb:∀ (s:Shared) (H:Hp),PE (cxL X.prog X.w X.K X.mg X.base N qual scope f (.ref c') cl X.A X.stack s H E) body tb)
    (ht:eval (.Call o [] [] pos) X.env=(do callWith pos (<-eval o X.env) [] (backTo pos (starEach [] X.env)) (backToKw pos (keywordEach [] X.env))):=by rfl):
    PE X (.Call o [] [] pos) (Hk f c' oc vs to tb):=by
  intro pins s σ H Q I h;rw [ht];refine wpAny_bind (thn (ho pins s σ H _ I h) λ u s1 ⟨x,H1,I1,rx,ex,hc,q⟩=> ?_);subst ex;obtain rfl:u=Value.ref f:=rx;have nex:∀ b:Addr,b∉X.ex:=λ b=>by rw [hex];simp
  have hf1:=I1.base.keep f _ hf hf0 nf (nex f);obtain ⟨vs',t,d,e1⟩:=hoc;have hcd:s1.heap.CodeRec (.ref c') qual:=⟨c',oc,vs',t,rfl,Kr (I1.hok c' _ hc),d,e1⟩;have C1:ClOkL N scope cl s1.heap H1 vs:=C.on λ y c o l e=>⟨I1.base.keep c o e (C.cell y c l).2 (nc y c l) (nex c),I1.base.free c o e (C.cell y c l).2 (nex c)⟩;refine callWith_F0 ⟨_,_,_,_,hf1⟩ ?_;refine wpAny_call (codeAny_mono (OT (tb:=tb) (E:=E) hf1 hcd hr I1.env0 hk hco hgen hcell hbind C1 (hb s1 H1) q) λ r s' hq=> ?_);cases r with
  | error e=>exact hx pins σ H1 s1 e s' I1 hq
  | ok fl=>
    cases fl with
    | ret u=>exact I1.after hq
    | next=>exact False.elim hq
    | brk=>exact False.elim hq
    | cont=>exact False.elim hq
theorem Mo {CX:CXT} {P:Program} {w:World} {K:PySem.W.Frag} {mg:Str->Option Value} {base:Heap} {k:Nat} {f:Addr} {name qual:Str} {params:Arguments} {body:List Stmt} {scope:Scope} {dV kV doc pm cdv ct oc:Value} {an od:Option Addr}
    {osl:Array (Option Value)} {N ps:List Str} (lk:K.lookup f=some ⟨oc,od, .func (PySem.W.fnOf name qual params body scope dV kV doc pm an cdv ct),osl⟩) (hcd:PySem.W.codeIn K cdv qual=true) (S:FnScope N ps scope)
    {A:Around} {outer:List Env} {s:Shared} {H:Hp} {args:Args} {us:List Value} {vs:List V} {Q:VK} {E:XK} {t:TS} (hr:Room (k+1) A) (e0:Env0 P w K mg base A outer s H) (hb:BindsTo s (PySem.W.fnOf name qual params body scope dV kV doc pm an cdv ct) args (ps.zip us)) (r:Vals vs us) (hl:vs.length=ps.length)
    (ht:PSs (Bo CX P w K mg base N qual scope f cdv A outer s H E) body t) (hq:t { nx:=λ _ H'=>Q .non H',rt:=Q } (start N vs) H):codeAny (model P w) A (.call (.ref f) args) (CR CX outer P w H s Q E) s:=by
  have kin:=e0.mod.kin.keeps λ b o e=>(e0.bs b o e).1;have kinds:∀ y∈ps.zip us,scope.names.lookup y.1=some .local\/(scope.names.lookup y.1=some .cell/\((cellsFrom (s.heap.objs.size+1) scope.names []).lookup y.1).isSome=true):=by
    intro y hy;exact (S.par y.1 (List.of_mem_zip hy).1).imp id λ z=>⟨z,PySem.W.cellsFrom_some _ _ _ (.inl z)⟩
  refine codeAny_call_function hr.depth (kin _ _ lk) rfl S.co S.gen rfl (PySem.W.codeRec_of kin hcd) (hb _ _ _ _ (wpAny_newFunctionEnv_cells S.kind kinds ?_));rintro _ rfl s1 x;refine ⟨(e0.mod.nolimit.keeps λ b o e=>(e0.bs b o e).1).keeps x.toInCall.keep,codeAny_func (wpAny_mono (ht [] s1 (start N vs) H _ (Fu S hr.hd e0 hl r x) hq) ?_ λ _ _ z=>z)⟩;intro fl s' z
  match fl,z with
  | .ret u,⟨v,_,H',J,rv,q⟩=>exact ⟨v,H',J.os,J.bare,J.base,J.hok,rv,q⟩
  | .next,⟨_,H',J,q⟩=>exact ⟨V.non,H',J.os,J.bare,J.base,J.hok,rfl,q⟩
  | .brk,⟨_,_,_,q⟩=>exact False.elim q
  | .cont,⟨_,_,_,q⟩=>exact False.elim q
theorem FE {p:Pos} {c cv:Value} {a b:Int} {t u:Tok}:∀ (l:List Value),TriplesOk l->codeAmong p (l++[.int a t, .int b u,c])=some cv->codeAmong p l=some cv\/cv=c
  | [],_,h=>by
    right;simp only [List.nil_append,codeAmong] at h;split at h
    · exact (Option.some.inj h).symm
    · cases h
  | .int x tx:: .int y ty::z::rest,ok,h=>by
    have h:codeAmong p (.int x tx:: .int y ty::z::(rest++[.int a t, .int b u,c]))=some cv:=h;simp only [codeAmong] at h ⊢;split at h
    · rename_i hc
      rw [if_pos hc];exact .inl h
    · rename_i hc
      rw [if_neg hc];exact FE rest ok h
def LamT (H:Hp) (P:Addr) (qual:Str):Prop:=∃ ps:Array Value,H P=some (.tbl ps)/\TriplesOk ps.toList/\∀ pos cv,codeAmong pos ps.toList=some cv->∃ c' oc,cv= .ref c'/\H c'=some (exO c' oc)/\Ge qual oc
structure LamX (X:Cx) (c P:Addr):Prop where
  code:X.env.code= .ref c
  hd:CodeHd X.base c P
  blt:X.base.BuiltinsAt X.mg P
section
variable {X:Cx} {pins:List (Addr × Obj)} {σ:St} {H:Hp} {s:Shared}
theorem mkL {c P:Addr} {params:Arguments} {body:Expr} {scope:Scope} {pos:Pos} {Q:Value->Shared->Prop} {E:Value->Shared->Prop} (L:LamX X c P) (hfree:∀ y∈scope.names,y.2= .free->X.env.kindOf y.1=some .cell) (hdef:defaultsOf params X.env=([],[]))
    (I:Inv X pins σ H s) (hT:LamT H P (X.env.qual++"<lambda>"))
    (h:∀ f c' oc pm ctv H' s',Inv X pins σ H' s'->s'.heap.get? f=some (kla_obj "<lambda>" (X.env.qual++"<lambda>") params body scope (Au X.env.cells scope.names []) pm c' ctv)->H' f=none->s.heap.objs.size<=f->H' c'=some (exO c' oc)->Ge (X.env.qual++"<lambda>") oc->
      LamT H' P (X.env.qual++"<lambda>")->(∀ b o,b≠P->H b=some o->H' b=some o)->Q (.ref f) s'):
    wpAny (model X.prog X.w) X.A (eval (.Lambda params body scope pos) X.env) Q E s:=by
  obtain ⟨ps,hP,ok,hit⟩:=hT;have hPh:s.heap.get? P=some (tabObj ps):=I.hok P _ hP;have hcl:closureFor scope X.env=pure (Au X.env.cells scope.names []):=Bp λ y hy e=>I.ok.has y.1 (.inl (hfree y hy e));have hg:s.heap.Ns mainGlobals X.mg:=I.mod.glob.keeps I.bk;have C:=L.hd.keeps I.bk;have nP:∀ b,H b=none->b≠P:=λ b n z=>by rw [z,hP] at n;cases n
  have hgP:mainGlobals≠P:=λ q=>by
    obtain ⟨o,es,ep,e,d,_⟩:=hg;rw [q,hPh] at e;cases e;cases d
  have hb:s.heap.BuiltinsAt X.mg P:=by
    obtain ⟨bm,o,a1,a2,a3,a4,a5,r⟩:=L.blt;exact ⟨bm,o,a1,a2,a3,a4,I.bk _ _ a5,r⟩
  refine kla_eval hdef ?_;cases hc:codeAmong pos ps.toList with
  | some cv=>
    obtain ⟨c',oc,rfl,hc',hoc⟩:=hit pos cv hc;refine kla_makeFunctionHit hcl I.ok.glob hg L.code C hPh ok hc hb λ ctv h' tk kp sz=> ?_;have kp2:∀ b o,s.heap.get? b=some o->(h'.push (kla_obj "<lambda>" (X.env.qual++"<lambda>") params body scope (Au X.env.cells scope.names []) ((X.mg "__name__").getD .none) c' ctv)).get? b=some o:=λ b o e=>Heap.get?_push_of_some _ (kp b o e);refine h h'.objs.size c' oc _ ctv H _ (I.un (Un.kept kp2) (I.hok.kept kp2)) (Heap.get?_push_size _ rfl) (I.hok.fresh sz) sz hc' hoc ⟨ps,hP,ok,hit⟩ λ b o _ e=>e
  | none=>
    refine kla_makeFunction hcl I.ok.glob hg L.code C hPh ok hc hgP hb λ c' ctv h' tk hx hge hlt hrec htb=> ?_;obtain ⟨c2,oc,vs,t,e2,hoc,hd,hv⟩:=hrec;cases e2;generalize hps:ps++ #[rawInt pos.line,rawInt pos.col, .ref c']=ps' at htb;have hcn:H c'=none:=I.hok.fresh hge;have ncP:c'≠P:=λ z=>by rw [z,hP] at hcn;cases hcn
    generalize hfo:kla_obj "<lambda>" (X.env.qual++"<lambda>") params body scope (Au X.env.cells scope.names []) ((X.mg "__name__").getD .none) c' ctv=fo;have kp:∀ b o,b≠P->s.heap.get? b=some o->(h'.push fo).get? b=some o:=λ b o hb e=>Heap.get?_push_of_some _ (hx b o hb e);have fz:s.heap.objs.size<=h'.objs.size:=Nat.le_of_lt (Nat.lt_of_le_of_lt hge hlt);have nc:∀ b u,H b=some u->b≠c':=λ b u q z=>by rw [z,hcn] at q;cases q
    have nT:∀ b u,H b=some u->(∀ qs,u≠ .tbl qs)->b≠P:=λ b u q n z=>by rw [z,hP] at q;cases q;exact n _ rfl
    have old:∀ b u,b≠P->H b=some u->upd (upd H c' (exO c' oc)) P (.tbl ps') b=some u:=λ b u hb q=>by rw [Aj hb,Aj (nc b u q)];exact q
    have hok':HOk X.prog X.w (upd (upd H c' (exO c' oc)) P (.tbl ps')) (h'.push fo):=λ a o e=>by
      by_cases ha:a=P
      · subst ha;rw [Ad] at e;cases e;exact Heap.get?_push_of_some _ htb
      · rw [Aj ha] at e;by_cases ha2:a=c'
        · subst ha2;rw [Ad] at e;cases e;exact LX (Heap.get?_push_of_some _ hoc)
        · rw [Aj ha2] at e;refine (I.hok a o e).stay (λ b u hb q=>kp b u ?_ q) (λ b q=>old b _ (nT b _ q λ _ z=>by cases z) q) λ b xs q=>old b _ (nT b _ q λ _ z=>by cases z) q;rcases hb with rfl | hb
          · exact ha
          · exact nT b _ hb λ _ z=>by cases z
    have I':Inv X pins σ (upd (upd H c' (exO c' oc)) P (.tbl ps')) { s with heap:=h'.push fo,toks:=tk }:=by
      refine I.step (g':=s.gens) (d':=s.drawn) (ch:=[]) (λ _ z=>nomatch z) (λ b o _ _ _ e n=>kp b o (nP b n) e) (λ b o _ _ _ e n=>⟨o.slots,kp b o (nP b n) e⟩) (λ b o _ e n=> ?_) (λ b o _ e=> ?_) (λ b xs q=>old b _ (nT b _ q λ _ z=>by cases z) q) (λ b o u q=>old b _ (nT b _ q λ _ z=>by cases z) q) (λ b qs q=> ?_) (λ m hm=> ?_) hok' I.bare
      · rw [Aj (nP b n),Aj (Nat.ne_of_lt (Nat.lt_of_lt_of_le (Heap.lt_size e) hge))];exact n
      · by_cases hb:b=P
        · subst hb;exact ⟨_,Heap.get?_push_of_some _ htb⟩
        · exact ⟨o,kp b o hb e⟩
      · by_cases hb:b=P
        · subst hb;rw [hP] at q;cases q;exact ⟨_,by rw [Ad, <-hps]⟩
        · exact ⟨#[],by rw [old b _ hb q];simp⟩
      · exact (hm.extBut hx (nP _ I.free)).push _
    subst hfo;refine h h'.objs.size c' oc _ ctv _ _ I' (Heap.get?_push_size _ rfl) ?_ fz ?_ ⟨vs,t,hd,hv⟩ ⟨ps',Ad,?_,λ p cv q=> ?_⟩ λ b o hb q=>old b o hb q
    · have hn:H h'.objs.size=none:=I.hok.fresh fz;rw [Aj (nP _ hn),Aj (Nat.ne_of_gt hlt)];exact hn
    · rw [Aj ncP,Ad]
    · rw [<-hps,Array.toList_append];exact TriplesOk_snoc _ _ _ _ ok
    · rw [<-hps,Array.toList_append] at q;rcases FE ps.toList ok q with z | rfl
      · obtain ⟨c1,oc1,e1,e2,e3⟩:=hit p cv z;exact ⟨c1,oc1,e1,old c1 _ (nT c1 _ e2 λ _ z=>by cases z) e2,e3⟩
      · exact ⟨c',oc,rfl,by rw [Aj ncP,Ad],vs,t,hd,hv⟩
end
structure LamOk (params:Arguments) (scope:Scope):Prop where
  kind:scope.kind= .function
  co:scope.isCoroutine=false
  gen:scope.isGenerator=false
  cell:∀ x∈scope.names,x.2≠ .cell
  bind:∀ (qual:Str) (body:Expr) (cl:List (Str × Addr)) (pm cdv ctv:Value),bindArgs (kla_fn "<lambda>" qual params body scope cl pm cdv ctv) ⟨[],[]⟩=pure []
def BX (P:Program) (w:World) (K:PySem.W.Frag) (mg:Str->Option Value) (base:Heap) (fc:Addr) (k kb:Nat) (sp:(XK->TE)->List V->Hp->VK->Prop):Prop:=
  keepIn K (.ref fc)=true/\∀ (A:Around) (outer:List Env) (s:Shared) (H:Hp) (f c':Addr) (oc:Obj) (N:List Str) (qual:Str) (scope:Scope) (cl:List (Str × Addr)) (params:Arguments) (body:Expr) (pm ctv:Value) (vs:List V) (tb:XK->TE) (Q:VK),
    Room k A->Env0 P w K mg base A outer s H->s.heap.get? f=some (kla_obj "<lambda>" qual params body scope cl pm c' ctv)->H f=none->f∉frs outer->H c'=some (exO c' oc)->Ge qual oc->ClOkL N scope cl s.heap H vs->(∀ x c,cl.lookup x=some c->c∉frs outer)->LamOk params scope->
    (∀ (A':Around) (outer':List Env) (s':Shared) (H':Hp) (E':XK),Room kb (A'.deeper (envX qual scope s'.heap.objs.size f (.ref c') cl))->PE (cxL P w K mg base N qual scope f (.ref c') cl A' outer' s' H' E') body (tb E'))->
    sp tb vs H Q->codeAny (model P w) A (.call (.ref fc) ⟨[.ref f],[]⟩) (CR CX0 outer P w H s Q E0) s
def F1 (P:Addr) (qual:Str) (idx:List Nat) (sp:(XK->TE)->List V->Hp->VK->Prop) (tb:XK->TE):TE:=λ σ H Q=>LamT H P qual/\∃ vs:List V,vs.length=idx.length/\(∀ (i j:Nat),idx[i]?=some j->∃ v,vs[i]?=some v/\σ[j]?=some (some v))/\
  ∀ H',LamT H' P qual->(∀ b o,b≠P->H b=some o->H' b=some o)->sp tb vs H' Q
theorem Ir {X:Cx} {x:Str} {fc c P:Addr} {k kb:Nat} {sp:(XK->TE)->List V->Hp->VK->Prop} {params:Arguments} {body:Expr} {scope:Scope} {p lpos pos:Pos} {N:List Str} {idx:List Nat} {tb:XK->TE}
    (hm:X.mg x=some (.ref fc)) (hC:BX X.prog X.w X.K X.mg X.base fc k kb sp) (hr:Room k X.A) (L:LamX X c P) (hst:X.stack=X.env::X.outer) (hfm:X.env.frame=some X.env.locals) (hfn:∀ y,X.fn y=true) (lo:LamOk params scope) (hdef:defaultsOf params X.env=([],[]))
    (hfree:∀ y∈scope.names,y.2= .free->X.env.kindOf y.1=some .cell) (hmem:∀ y,(scope.names.lookup y=some .cell\/scope.names.lookup y=some .free)->(y,NameKind.free)∈scope.names) (hlen:N.length=idx.length)
    (hN:∀ (i:Nat) (y:Str),N[i]?=some y->∃ j,idx[i]?=some j/\X.N[j]?=some y/\scope.names.lookup y=some .free/\X.env.kindOf y=some .cell)
    (hb:∀ (f c':Addr) (cl:List (Str × Addr)) (A':Around) (outer':List Env) (s':Shared) (H':Hp) (E':XK),Room kb (A'.deeper (envX (X.env.qual++"<lambda>") scope s'.heap.objs.size f (.ref c') cl))->PE (cxL X.prog X.w X.K X.mg X.base N (X.env.qual++"<lambda>") scope f (.ref c') cl A' outer' s' H' E') body (tb E'))
    (hg:Gl X x:=by rfl) (hdb:(x == ("__debug__":Str))=false:=by decide) (he:starEach [.Lambda params body scope lpos] X.env=(false,eval (.Lambda params body scope lpos) X.env)::starEach [] X.env:=by rfl):
    PE X (.Call (.Name x p) [.Lambda params body scope lpos] [] pos) (F1 P (X.env.qual++"<lambda>") idx sp tb):=by
  intro pins s σ H Q I h;obtain ⟨hT,vs,lv,hv,h⟩:=h;refine wpAny_Call_Name_kw (C6 I hg hm ?_ hdb);refine PySem.W.callWith_K (h₀:=X.base) I.ok.mod.kin hC.1 ?_ he rfl;rw [he];show wpAny _ _ (spliced ((false,eval (.Lambda params body scope lpos) X.env)::backTo pos (starEach [] X.env))) _ _ s;refine Calls.spliced_cons (mkL L hfree hdef I hT λ f c' oc pm ctv H' s' I' hf hf0 fz hc' hoc hT' old=> ?_);refine Calls.spliced_nil ⟨I'.kIn,?_⟩;have sub:∀ y a,(Au X.env.cells scope.names []).lookup y=some a->X.env.cells.lookup y=some a:=CT scope.names [] λ y a z=>by cases z
  have hfs:frs X.stack=X.env.locals::frs X.outer:=by rw [hst];exact By hfm
  have C:ClOkL N scope (Au X.env.cells scope.names []) s'.heap H' vs:=by
    refine ⟨by rw [lv,hlen],λ y z a h1 h2=>I.ok.inj y z a (sub y a h1) (sub z a h2),λ y hy=> ?_,λ i y v h1 h2=> ?_,λ y a e=>⟨I'.cell y a (sub y a e),I'.freeC y a (sub y a e)⟩⟩
    · exact BQ scope.names [] y (.inl ⟨hmem y hy,I.ok.has y (.inl (hfree _ (hmem y hy) rfl))⟩)
    · obtain ⟨j,hj,hXN,hk,hcell⟩:=hN i y h1;obtain ⟨v',hv',hσ⟩:=hv i j hj;have ev:v'=v:=Option.some.inj (hv'.symm.trans h2);subst ev;obtain ⟨m,hn,hl⟩:=id I'.loc;obtain ⟨u,r,lk⟩:=hl j y v' hXN hσ (.inr (.inl hcell));obtain ⟨a,ha⟩:=BQ (cells:=X.env.cells) scope.names [] y (.inl ⟨hmem y (.inr hk),I.ok.has y (.inl hcell)⟩);rcases lk with ⟨kk,_⟩ | ⟨_,a',e',ce⟩
      · rw [hcell] at kk;cases kk
      · have:=sub y a ha;rw [e'] at this;cases this;exact ⟨a,u,hk,ha,r,ce⟩
  have nc:∀ y a,(Au X.env.cells scope.names []).lookup y=some a->a∉frs X.stack:=λ y a e z=>by
    have e:=sub y a e;rw [hfs] at z;rcases List.mem_cons.mp z with z | z
    · exact I.cne y a e z
    · obtain ⟨_,o,ho,_⟩:=Ay I.ok.funs z;have:=I.ok.cab y a (hfn y) e;exact absurd (Nat.lt_of_lt_of_le (Heap.lt_size ho) this) (Nat.lt_irrefl _)
  have nf:f∉frs X.stack:=λ z=>by
    obtain ⟨_,o,ho,_⟩:=Ay I.stack z;exact absurd (Nat.lt_of_lt_of_le (Heap.lt_size ho) fz) (Nat.lt_irrefl _)
  refine wpAny_call (codeAny_mono (hC.2 X.A X.stack s' H' f c' oc N _ scope _ params body pm ctv vs tb Q hr I'.env0 hf hf0 nf hc' hoc C nc lo (λ A' outer' s2 H2 E' hr'=>hb f c' _ A' outer' s2 H2 E' hr') (h H' hT' old)) λ r s2 hq=> ?_);cases r with
  | error e=>exact False.elim hq
  | ok fl=>
    cases fl with
    | ret u=>exact I'.after hq
    | next=>exact False.elim hq
    | brk=>exact False.elim hq
    | cont=>exact False.elim hq
def JJ (H:Hp) (P:Addr):Prop:=∀ b,H b=none\/(∃ o xs,H b=some (.frz o (.lst xs)))\/b=P
theorem HV {P:Program} {w:World} {K:PySem.W.Frag} {mg mb:Str->Option Value} {CX:CXT} {k:Nat} {fa a c T:Addr} {fd:FuncData} {x:Str} {sp:Sp} {s₁:Shared} {vs:List Value} {ns:List Int}
    (KX:K.In s₁.heap) (hns:s₁.heap.Ns mainGlobals mg) (hb:s₁.heap.Ns builtinsNs mb) (hbb:∀ x:Str,x≠"__name__"->mb x=bootBuiltins x) (hlim:s₁.heap.NoLimit) (hg:s₁.gens= #[])
    (ha:s₁.heap.get? a=some { cls:= .type "list",data:= .seq vs.toArray }) (hi:IntsAre vs ns) (hl:ns.length<=sizeLine) (hr:Room k callerA)
    (hT:s₁.heap.get? T=some (tabObj #[])) (hC:CodeHd s₁.heap c T) (hKT:K.lookup T=none) (hTs:T≠cStatics) (hB:s₁.heap.BuiltinsAt mg T)
    (F:∀ base:Heap,K.In base->base.Ns mainGlobals mg->CodeHd base c T->base.BuiltinsAt mg T->FnOk P w K mg base CX k fa fd [x] sp) (hbind:∀ (s:Shared) (u:Value),BindsTo s fd ⟨[u],[]⟩ [(x,u)])
    (hsp:∀ H:Hp,JJ H T->H T=some (.tbl #[])->SqL K H a (ns.map V.int)->sp [.ref a] H (λ v _=>v= .bl true) λ _ _ _=>False)
    (hCX:∀ H e s',CX [] H s₁ (λ _ _ _=>False) e s'->False):
    codeAny (model P w) callerA (.call (.ref fa) ⟨[.ref a],[]⟩) (λ r s'=>r= .ok (.ret (.bool true))/\OldK s₁.heap s'.heap/\s'.os=s₁.os/\AllBare s'.gens) s₁:=by
  have rv:=Fn hi;have naT:a≠T:=λ z=>by rw [z,hT] at ha;cases ha
  have core:∀ H:Hp,JJ H T->H T=some (.tbl #[])->SqL K H a (ns.map V.int)->HOk P w H s₁.heap->(∀ b,H b≠none->b=a\/b=T)->(H a≠none->K.lookup a=none)->
      codeAny (model P w) callerA (.call (.ref fa) ⟨[.ref a],[]⟩) (λ r s'=>r= .ok (.ret (.bool true))/\OldK s₁.heap s'.heap/\s'.os=s₁.os/\AllBare s'.gens) s₁:=by
    intro H hO hHT hS hok hA hK;have free:∀ {b:Addr} {o:Obj},s₁.heap.get? b=some o->(∀ ws n,o.data≠ .seq ws n)->(∀ ws,o.data≠ .fields ws\/o.cls≠ .none)->H b=none:=λ {b o} e n1 n2=>by
      cases q:H b with
      | none=>rfl
      | some u=>
        rcases hA b (by rw [q];simp) with z | z
        · rw [z,ha] at e;cases e;exact absurd rfl (n1 _ _)
        · rw [z,hT] at e;cases e;rcases n2 #[] with z | z
          · exact absurd rfl z
          · exact absurd rfl z
    have nsK:∀ {b:Addr} {m:Str->Option Value},s₁.heap.Ns b m->(E6 s₁.heap H).Ns b m:=λ {b m} ⟨o,es,ep,e,d,r⟩=>⟨o,es,ep,Df e (free e (λ ws n=>by rw [d];simp) λ ws=> .inl (by rw [d];simp)),d,r⟩;have hKb:K.In (E6 s₁.heap H):=λ b o e=>Df (KX b o e) (by
      cases q:H b with
      | none=>rfl
      | some u=>
        rcases hA b (by rw [q];simp) with z | z
        · subst z;rw [hK (by rw [q];simp)] at e;cases e
        · subst z;rw [hKT] at e;cases e)
    have hM:Mod K mg (E6 s₁.heap H):=⟨hKb,nsK hns,⟨mb,nsK hb,hbb⟩,let ⟨mc,h1,h2⟩:=hlim;⟨mc,nsK h1,h2⟩⟩;have e0:Env0 P w K mg (E6 s₁.heap H) callerA [] s₁ H:=⟨rfl,hM,λ b o e=>K9 e,Nat.le_of_eq (ID _ _),trivial,λ b hb=>absurd (show b∈([]:List Addr) from hb) (by simp),hok, .of_eq hg⟩;have hC':CodeHd (E6 s₁.heap H) c T:=by
      obtain ⟨o,us,file,tf,flags,tg,inF,text,tt,e1,r1,r2,r⟩:=hC;exact ⟨o,us,file,tf,flags,tg,inF,text,tt,Df e1 (free e1 (λ ws n=>by rw [r2];simp) λ ws=> .inr (by rw [r1];simp)),r1,r2,r⟩
    have hB':(E6 s₁.heap H).BuiltinsAt mg T:=by
      obtain ⟨bm,o,a1,a2,a3,a4,a5,a6,a7,a8⟩:=hB;exact ⟨bm,o,a1,a2,a3,a4,Df a5 (free a5 (λ ws n=>by rw [a8];simp) λ ws=> .inl (by rw [a8];simp)),a6,a7,a8⟩
    refine codeAny_mono ((F _ hKb (nsK hns) hC' hB').run callerA [] s₁ H ⟨[.ref a],[]⟩ [.ref a] [.ref a] _ _ hr e0 (hbind s₁ (.ref a)) (.cons rfl .nil) (hsp H hO hHT hS)) λ r s' h=> ?_
    match r,h with
    | .error e,h=>exact (hCX H e s' h).elim
    | .ok .next,h=>exact False.elim h
    | .ok .brk,h=>exact False.elim h
    | .ok .cont,h=>exact False.elim h
    | .ok (.ret u),⟨v,H',os,bare,un,hok',r',q⟩=>
      have q':v= .bl true:=q;subst q';obtain rfl:u=Value.bool true:=r';have kept:∀ b o,b≠T->s₁.heap.get? b=some o->s'.heap.get? b=some o:=λ b o hb e=>by
        cases q:H b with
        | none=>exact un.keep b o e q (by intro z;exact absurd (show b∈([]:List Addr) from z) (by simp)) (by simp)
        | some u=>
          rcases hO b with z | ⟨ob,xs,z⟩ | z
          · rw [q] at z;cases z
          · obtain ⟨e1,_⟩:=hok b _ z;obtain ⟨e2,_⟩:=hok' b _ (un.frzs b ob _ z);rw [e] at e1;cases e1;exact e2
          · exact absurd z hb
      obtain ⟨more,hT'⟩:=un.tbls T _ hHT;have hT2:s'.heap.get? T=some (tabObj (#[]++more)):=hok' T _ hT';refine ⟨rfl,⟨λ b o e=> ?_,λ b o e=> ?_⟩,os,bare⟩
      · by_cases hb:b=T
        · subst hb;rw [hT] at e;cases e;exact .inr (.inl ⟨(hC.tab hT).isCodeTable,rfl, #[],more,rfl,hT2⟩)
        · exact .inl (kept b o hb e)
      · by_cases hb:b=T
        · subst hb;exact ⟨_,hT2⟩
        · exact ⟨o,kept b o hb e⟩
  cases hk:K.lookup a with
  | some o=>
    have e:=KX a o hk;rw [ha] at e;cases e;refine core (λ b=>if b=T then some (.tbl #[]) else none) (λ b=> ?_) (if_pos rfl) (.inr ⟨_,vs.toArray,_,hk,rfl,rfl,rfl,by rw [List.size_toArray,hi.length];exact hl,by simpa using rv⟩) (λ b u z=> ?_) (λ b z=> ?_) λ z=>absurd (if_neg naT) z
    · by_cases hb:b=T
      · exact .inr (.inr hb)
      · exact .inl (if_neg hb)
    · by_cases hb:b=T
      · have z':=(if_pos hb).symm.trans z;cases z';subst hb;exact hT
      · have z':=(if_neg hb).symm.trans z;cases z'
    · by_cases hb:b=T
      · exact .inr hb
      · exact absurd (if_neg hb) z
  | none=>
    refine core (λ b=>if b=T then some (.tbl #[]) else if b=a then some (.frz { cls:= .type "list",data:= .seq vs.toArray } (.lst (ns.map V.int))) else none) (λ b=> ?_) (if_pos rfl) (.inl (.inr ⟨{ cls:= .type "list",data:= .seq vs.toArray },(if_neg naT).trans (if_pos rfl)⟩)) (λ b u z=> ?_) (λ b z=> ?_) λ _=>hk
    · by_cases hb:b=T
      · exact .inr (.inr hb)
      · by_cases hb2:b=a
        · exact .inr (.inl ⟨_,_,(if_neg hb).trans (if_pos hb2)⟩)
        · exact .inl ((if_neg hb).trans (if_neg hb2))
    · by_cases hb:b=T
      · have z':=(if_pos hb).symm.trans z;cases z';subst hb;exact hT
      · by_cases hb2:b=a
        · have z':=((if_neg hb).trans (if_pos hb2)).symm.trans z;cases z';subst hb2;exact ⟨ha,by rw [List.length_map];exact hl,vs,_,rv,ha⟩
        · have z':=((if_neg hb).trans (if_neg hb2)).symm.trans z;cases z'
    · by_cases hb:b=T
      · exact .inr hb
      · by_cases hb2:b=a
        · exact .inl hb2
        · exact absurd ((if_neg hb).trans (if_neg hb2)) z
theorem MN {p:Program} {loose:List Str} {mean:ExcName->Option Value} {mg mb:Str->Option Value} {h:Heap} {T:Addr} (t:Top p loose mean mg mb h) (hT:h.get? T=some (tabObj #[])):h.BuiltinsAt mg T:=by
  obtain ⟨bm,ob,b1,b2,b3,b4,b5,b6⟩:=t.bmain;refine ⟨bm,ob,b1,b2,λ q=> ?_,λ q=> ?_,b3,b4,b5,b6⟩
  · obtain ⟨o,es,ep,e,hd,_⟩:=t.g;rw [q,e] at b3;cases b3;rw [hd] at b6;cases b6
  · rw [q,hT] at b3;cases b3;cases b4
theorem walk_ofL {l:PySem.W.OpenLaw} {n k:Nat} {q:Program} {loose:List Str} {XP:(Str->Option Value)->Heap->Prop} {YP:World->Heap->Prop} {d:DefRec} {K:Params->PySem.W.Frag} {CX:World->CXT} {sp:World->Addr->Sp} {x:Str} {ts:List Addr}
    (hn:l.most=some n) (hn2:n<=sizeLine) (hdf:d.params.defaults=[]) (hr:Room k callerA)
    (hY:∀ (w:World) (h:Heap),YP w h->(K w.params).In h) (hYt:∀ (w:World) (h:Heap),YP w h->∀ P∈ts,h.get? P=some (tabObj #[])) (hnt:∀ w:World,noTabs (K w.params)=true)
    (F:∀ (w:World) (mg:Str->Option Value) (fa:Addr) (h:Heap),(K w.params).In h->h.Ns mainGlobals mg->mg d.name=some (.ref fa)->
      ∃ (fd:FuncData) (c T:Addr),(∀ (s:Shared) (u:Value),BindsTo s fd ⟨[u],[]⟩ [(x,u)])/\T∈ts/\T≠cStatics/\(∀ h':Heap,(K w.params).In h'->CodeHd h' c T)/\
        ∀ base:Heap,(K w.params).In base->base.Ns mainGlobals mg->CodeHd base c T->base.BuiltinsAt mg T->FnOk l.prog w (K w.params) mg base (CX w) k fa fd [x] (sp w T))
    (hsp:∀ (w:World) (H:Hp) (a T:Addr) (ns:List Int),ns.length<=n->JJ H T->H T=some (.tbl #[])->SqL (K w.params) H a (ns.map V.int)->sp w T [.ref a] H (λ v _=>v= .bl true) λ _ _ _=>False)
    (hCX:∀ (w:World) (H:Hp) (s:Shared) (e:Value) (s':Shared),CX w [] H s (λ _ _ _=>False) e s'->False):
    PySem.W.WalkO q loose XP YP l.row.toRowW d [] (λ f vs=>PySem.call f vs):=by
  refine Att.attach_call hn hdf λ w s₀ s₁ mg mb fa o pm cd doc a vs ns G Y ho hd hcd hmg hobj hints hlen hg=> ?_;have KX:=hY w _ Y;obtain ⟨fd,c,T,hb,hm,hs,hC,hF⟩:=F w mg fa _ KX G.T.g hmg;have hT:=hYt w _ Y T hm;have hK:(K w.params).lookup T=none:=by
    cases e:(K w.params).lookup T with
    | none=>rfl
    | some o=>
      have e2:=KX T o e;rw [hT] at e2;cases e2;have h2:=List.all_eq_true.mp (hnt w) _ (mem_of_lookupK e);exact absurd (show false=true from h2) Bool.false_ne_true
  exact HV KX G.T.g G.T.b G.T.builtins G.T.nolimit hg hobj hints (Nat.le_trans hlen hn2) hr hT (hC _ KX) hK hs (MN G.T hT) hF hb (λ H hO h1 hS=>hsp w H a T ns hlen hO h1 hS) λ H e s'=>hCX w H s₁ e s'
theorem HR {H:Hp} {T:Addr} {qual:Str} (h:H T=some (.tbl #[])):LamT H T qual:=⟨#[],h,trivial,λ _ _ z=>by cases z⟩
section
variable {P:Program} {w:World} {K:PySem.W.Frag} {mg:Str->Option Value} {base:Heap}
theorem Fun.okL {x qual:Str} {st:Stmt} {f c:Addr} {fd:FuncData} {N ps:List Str} {k:Nat} {sp:Sp} (F:Fun K x qual st f fd) (hc:fd.code= .ref c) (S:FnScope N ps (Ah st)) (len:∀ vs H Q E,sp vs H Q E->vs.length=ps.length)
    (hbody:∀ (A:Around) (outer:List Env) (s:Shared) (H:Hp) (vs:List V) (Q:VK) (E:XK),Room k (A.deeper (envOfC qual (Ah st) s.heap.objs.size f (.ref c)))->sp vs H Q E->
      ∃ t,PSs (Bo CX0 P w K mg base N qual (Ah st) f (.ref c) A outer s H E).nox (Bk st) t/\t { nx:=λ _ H'=>Q .non H',rt:=Q } (start N vs) H):FnOk P w K mg base CX0 (k+1) f fd ps sp:=by
  obtain ⟨oc,od,kV,doc,pm,an,cdv,ct,osl,rfl,lk,hcd⟩:=F.ex;obtain rfl:cdv= .ref c:=hc;refine Jg lk hcd S len λ A outer s H vs Q E hr hsp=> ?_;obtain ⟨t,h,q⟩:=hbody A outer s H vs Q E hr hsp;exact ⟨t,h.nox,q⟩
structure ThAt (s:Shared) (H:Hp) (outer:List Env) (f c':Addr) (oc:Obj) (N:List Str) (qual:Str) (scope:Scope) (cl:List (Str × Addr)) (params:Arguments) (body:Expr) (pm ctv:Value) (vs:List V):Prop where
  hf:s.heap.get? f=some (kla_obj "<lambda>" qual params body scope cl pm c' ctv)
  hf0:H f=none
  nf:f∉frs outer
  hc:H c'=some (exO c' oc)
  hoc:Ge qual oc
  C:ClOkL N scope cl s.heap H vs
  nc:∀ x c,cl.lookup x=some c->c∉frs outer
  lo:LamOk params scope
theorem Nt {X:Cx} {kb:Nat} {E:XK} {N:List Str} {qual:Str} {scope:Scope} {f c':Addr} {oc:Obj} {cl:List (Str × Addr)} {params:Arguments} {body:Expr} {pm ctv:Value} {vs:List V} {o:Expr} {to:TE} {tb:XK->TE} {pos:Pos} (th:ThAt X.s₀ X.H₀ X.outer f c' oc N qual scope cl params body pm ctv vs)
    (ho:PE X o to) (hx:AK (CXE X.prog X.w) X E) (hr:Room (kb+1) X.A) (hex:X.ex=[])
    (hb:∀ (A':Around) (outer':List Env) (s':Shared) (H':Hp) (E':XK),Room kb (A'.deeper (envX qual scope s'.heap.objs.size f (.ref c') cl))->PE (cxL X.prog X.w X.K X.mg X.base N qual scope f (.ref c') cl A' outer' s' H' E') body (tb E'))
    (ht:eval (.Call o [] [] pos) X.env=(do callWith pos (<-eval o X.env) [] (backTo pos (starEach [] X.env)) (backToKw pos (keywordEach [] X.env))):=by rfl):
    PE X (.Call o [] [] pos) (Hk f c' oc vs to (tb E)):=
  Jl ho hx hr hex th.hf th.hf0 th.nf th.hoc th.C th.nc th.lo.kind th.lo.co th.lo.gen th.lo.cell (th.lo.bind _ _ _ _ _ _) (λ s' H'=>hb _ _ s' H' _ (hr.deeper _)) ht
theorem Fun.caught {x qual y:Str} {st:Stmt} {fc:Addr} {fd:FuncData} {N:List Str} {kb:Nat} {sp:(XK->TE)->List V->Hp->VK->Prop} (F:Fun K x qual st fc fd) (B:Binds K fd [y] []) (S:FnScope N [y] (Ah st))
    (hbody:∀ (cdv:Value) (A:Around) (outer:List Env) (s:Shared) (H:Hp) (f c':Addr) (oc:Obj) (N':List Str) (qual':Str) (scope:Scope) (cl:List (Str × Addr)) (params:Arguments) (body:Expr) (pm ctv:Value) (vs:List V) (tb:XK->TE) (Q:VK),Room (kb+1) (A.deeper (envOfC qual (Ah st) s.heap.objs.size fc cdv))->
      ThAt s H outer f c' oc N' qual' scope cl params body pm ctv vs->
      (∀ (A':Around) (outer':List Env) (s':Shared) (H':Hp) (E':XK),Room kb (A'.deeper (envX qual' scope s'.heap.objs.size f (.ref c') cl))->PE (cxL P w K mg base N' qual' scope f (.ref c') cl A' outer' s' H' E') body (tb E'))->sp tb vs H Q->
      ∃ t,PSs (Bo CX0 P w K mg base N qual (Ah st) fc cdv A outer s H E0).nox (Bk st) t/\t { nx:=λ _ H'=>Q .non H',rt:=Q } (start N [.ref f]) H):BX P w K mg base fc (kb+2) kb sp:=by
  obtain ⟨oc0,od,kV,doc,pm0,an,cdv,ct,osl,rfl,lk,hcd⟩:=F.ex;refine ⟨F.kp,λ A outer s H f c' oc N' qual' scope cl params body pm ctv vs tb Q hr e0 hf hf0 nf hc hoc C nc lo hb h=> ?_⟩;obtain ⟨t,ht,hq⟩:=hbody cdv A outer s H f c' oc N' qual' scope cl params body pm ctv vs tb Q (hr.deeper _) ⟨hf,hf0,nf,hc,hoc,C,nc,lo⟩ hb h;have kin:=e0.mod.kin.keeps λ b o e=>(e0.bs b o e).1;exact Mo (us:=[.ref f]) (vs:=[.ref f]) lk hcd S hr e0 (by have:=B s [.ref f] kin rfl;simpa using this) (.cons rfl .nil) rfl ht.nox hq
end
theorem HY {K:PySem.W.Frag} {H:Hp} {a:Addr} {xs:List V} {σ0:St} {ps:List (V × V)} (h:SqL K H a xs) (hp:∀ i,i<xs.length->∃ b,xs.getD i .non= .ref b/\H b=some (.tup [(ps.getD i (.non, .non)).1,(ps.getD i (.non, .non)).2])) (h0:σ0[0]?=some none) (h1:σ0[1]?=some none):
    SrcOk (Itl K a) (G4 K 2 (Bx (AB 0) (Bx (AB 1) Hn))) σ0 H xs.length (λ i=>(σ0.set 0 (some (ps.getD i (.non, .non)).1)).set 1 (some (ps.getD i (.non, .non)).2)) where
  go:=λ i H' hi s=>⟨xs,xs[i],s.seq h,by simp [hi]⟩
  stop:=λ H' s=>⟨xs,s.seq h,Nat.le_refl _⟩
  yld:=λ i H' x H'' R hi s y k=>by
    obtain ⟨e,hv⟩:=y;subst e;have e:x=xs.getD i .non:=by
      have:=hv xs (s.seq h);rw [List.getD_eq_getElem?_getD,this];rfl
    subst e;obtain ⟨b,eb,hb⟩:=hp i hi;rw [eb];exact ⟨b,_,rfl,SqT.of (s _ _ hb),rfl,_,_,rfl,_,_,rfl,rfl,k _ (Same.refl _)⟩
  kp:=λ i hi=>((Kp.refl _).set h0).set h1
def JT:NameKind->Bool | .free=>true | _=>false
def Mf:NameKind->Bool | .cell=>true | _=>false
def Ea:Option NameKind->Bool | some .cell=>true | _=>false
def FU:Option NameKind->Bool | some .free=>true | _=>false
def A7 (N:List Str) (idx:List Nat) (sc:List (Str × NameKind)) (XN:List Str) (Xsc:List (Str × NameKind)):Bool:=
  sc.all (λ y=> !(Mf y.2)&&(!(JT y.2)||Ea (Xsc.lookup y.1)))&&(N.length == idx.length)&&(N.zip idx).all λ p=>(XN[p.2]? == some p.1)&&FU (sc.lookup p.1)&&Ea (Xsc.lookup p.1)
theorem CI {α:Type} {x:Str} {v:α}:∀ {l:List (Str × α)},l.lookup x=some v->(x,v)∈l
  | (y,u)::l,h=>by
    rw [List.lookup_cons] at h;cases e:x == y with
    | true=>
      rw [e] at h;cases h;rw [eq_of_beq e];exact List.mem_cons_self
    | false=>
      rw [e] at h;exact List.mem_cons_of_mem _ (CI h)
theorem G1 {k:Option NameKind} (h:FU k=true):k=some .free:=by
  unfold FU at h;split at h
  · rfl
  · cases h
theorem Ex {k:Option NameKind} (h:Ea k=true):k=some .cell:=by
  unfold Ea at h;split at h
  · rfl
  · cases h
theorem GG {N:List Str} {idx:List Nat} {sc:List (Str × NameKind)} {XN:List Str} {Xsc:List (Str × NameKind)} (h:A7 N idx sc XN Xsc=true):∀ y∈sc,y.2≠ .cell:=λ y hy e=>by
  simp only [A7,Bool.and_eq_true,List.all_eq_true] at h;have:=(h.1.1 y hy).1;rw [e] at this;cases this
theorem JE {N:List Str} {idx:List Nat} {sc:List (Str × NameKind)} {XN:List Str} {Xsc:List (Str × NameKind)} (h:A7 N idx sc XN Xsc=true):∀ y∈sc,y.2= .free->Xsc.lookup y.1=some .cell:=λ y hy e=>by
  simp only [A7,Bool.and_eq_true,List.all_eq_true] at h;have:=(h.1.1 y hy).2;rw [e] at this;exact Ex (by simpa [JT] using this)
theorem HA {N:List Str} {idx:List Nat} {sc:List (Str × NameKind)} {XN:List Str} {Xsc:List (Str × NameKind)} (h:A7 N idx sc XN Xsc=true):N.length=idx.length:=by
  simp only [A7,Bool.and_eq_true] at h;exact eq_of_beq h.1.2
theorem Nj {N:List Str} {idx:List Nat} {sc:List (Str × NameKind)} {XN:List Str} {Xsc:List (Str × NameKind)} (h:A7 N idx sc XN Xsc=true) (i:Nat) (y:Str) (hy:N[i]?=some y):∃ j,idx[i]?=some j/\XN[j]?=some y/\sc.lookup y=some .free/\Xsc.lookup y=some .cell:=by
  have hl:=HA h;simp only [A7,Bool.and_eq_true,List.all_eq_true] at h;obtain ⟨hi,e⟩:=List.getElem?_eq_some_iff.mp hy;have hi2:i<idx.length:=by omega
  have hm:(y,idx[i])∈N.zip idx:=by
    refine List.mem_iff_getElem.mpr ⟨i,by rw [List.length_zip];omega,?_⟩;rw [List.getElem_zip,e]
  obtain ⟨⟨h1,h2⟩,h3⟩:=h.2 _ hm;exact ⟨idx[i],by simp [hi2],eq_of_beq h1,G1 h2,Ex h3⟩
def FY (P:Program) (w:World) (K:PySem.W.Frag) (mg:Str->Option Value) (base:Heap) (x:Str) (k kb:Nat) (sp:(XK->TE)->List V->Hp->VK->Prop):Prop:=∃ fc,mg x=some (.ref fc)/\BX P w K mg base fc k kb sp
theorem DefAt.caught {P:Program} {w:World} {K:PySem.W.Frag} {mg:Str->Option Value} {base:Heap} {x:Str} {st:Stmt} {ps:List Str} {f:Addr} {fd:FuncData} {k kb:Nat} {sp:(XK->TE)->List V->Hp->VK->Prop} (d:DefAt K mg x st ps f fd)
    (F:BX P w K mg base f k kb sp):FY P w K mg base x k kb sp:=⟨f,d.at',F⟩
theorem CK {X:Cx} {x:Str} {c P:Addr} {k kb:Nat} {sp:(XK->TE)->List V->Hp->VK->Prop} {params:Arguments} {body:Expr} {scope:Scope} {p lpos pos:Pos} {tb:XK->TE}
    (hC:FY X.prog X.w X.K X.mg X.base x k kb sp) (hr:Room k X.A) (L:LamX X c P) (N:List Str) (idx:List Nat)
    (hb:∀ (f c':Addr) (cl:List (Str × Addr)) (A':Around) (outer':List Env) (s':Shared) (H':Hp) (E':XK),Room kb (A'.deeper (envX (X.env.qual++"<lambda>") scope s'.heap.objs.size f (.ref c') cl))->PE (cxL X.prog X.w X.K X.mg X.base N (X.env.qual++"<lambda>") scope f (.ref c') cl A' outer' s' H' E') body (tb E'))
    (hchk:A7 N idx scope.names X.N X.env.scope.names=true) (hst:X.stack=X.env::X.outer:=by rfl) (hfm:X.env.frame=some X.env.locals:=by rfl) (hfn:∀ y,X.fn y=true:=by intro _;rfl)
    (hk:scope.kind= .function:=by rfl) (hco:scope.isCoroutine=false:=by rfl) (hgen:scope.isGenerator=false:=by rfl) (hbd:∀ (qual:Str) (body:Expr) (cl:List (Str × Addr)) (pm cdv ctv:Value),bindArgs (kla_fn "<lambda>" qual params body scope cl pm cdv ctv) ⟨[],[]⟩=pure []:=by intros;rfl)
    (hdef:defaultsOf params X.env=([],[]):=by rfl) (hg:Gl X x:=by rfl) (hdb:(x == ("__debug__":Str))=false:=by decide) (he:starEach [.Lambda params body scope lpos] X.env=(false,eval (.Lambda params body scope lpos) X.env)::starEach [] X.env:=by rfl):
    PE X (.Call (.Name x p) [.Lambda params body scope lpos] [] pos) (F1 P (X.env.qual++"<lambda>") idx sp tb):=by
  obtain ⟨fc,hm,hA⟩:=hC;refine Ir hm hA hr L hst hfm hfn ⟨hk,hco,hgen,GG hchk,hbd⟩ hdef (JE hchk) (λ y hy=> ?_) (HA hchk) (Nj hchk) hb hg hdb he;rcases hy with hy | hy
  · exact absurd rfl (GG hchk _ (CI hy))
  · exact CI hy
def bar (T:Addr) (H:Hp):Hp:=λ b=>if b=T then none else H b
theorem Av {T:Addr} {H:Hp} {b:Addr} {o u:HO} (h:H b=some o) (hT:H T=some u) (n:u≠o):bar T H b=some o:=by
  refine (if_neg λ z=> ?_).trans h;rw [z,hT] at h;cases h;exact n rfl
theorem Dg {T:Addr} {H:Hp}:Same (bar T H) H:=λ b o e=>by
  by_cases hb:b=T
  · have e':=(if_pos hb).symm.trans e;cases e'
  · exact (if_neg hb).symm.trans e
theorem LamT.same {H H':Hp} {T:Addr} {q:Str} (h:LamT H T q) (s:Same H H'):LamT H' T q:=by
  obtain ⟨ps,h1,h2,h3⟩:=h;refine ⟨ps,s _ _ h1,h2,λ p cv e=> ?_⟩;obtain ⟨c',oc,e1,e2,e3⟩:=h3 p cv e;exact ⟨c',oc,e1,s _ _ e2,e3⟩
theorem Dw {T:Addr} {q:Str} {idx:List Nat} {sp:(XK->TE)->List V->Hp->VK->Prop} {tb:XK->TE} {σ:St} {H:Hp} {Q:VK} (hT:LamT H T q) (vs:List V) (hl:vs.length=idx.length) (hv:∀ (i j:Nat),idx[i]?=some j->∃ v,vs[i]?=some v/\σ[j]?=some (some v))
    (k:∀ H',LamT H' T q->(∀ b o,b≠T->H b=some o->H' b=some o)->sp tb vs H' Q):F1 T q idx sp tb σ H Q:=⟨hT,vs,hl,hv,k⟩
theorem Jd {f c':Addr} {oc:Obj} {vs:List V} {to tb:TE} {σ:St} {H:Hp} {Q:VK} (h:to σ H λ v H1=>v= .ref f/\H1 c'=some (exO c' oc)/\tb (vs.map some) H1 Q):Hk f c' oc vs to tb σ H Q:=h
end L2
namespace L2
open PySem PySem.Spec PyProof.Rows
theorem Ip {its:List Value} {L m k:Nat} (hl:its.length=L*m) (hk:k<m):slicePick its.toArray (some (k:Int)) none (some (m:Int))=((List.range L).map λ i=>its.getD (k+m*i) .none).toArray:=by
  unfold slicePick;have hm:(m:Int)>0:=by omega
  have hb:sliceBounds (some (k:Int)) none (some (m:Int)) its.toArray.size=(max 0 (min (k:Int) (its.length:Nat)),((its.length:Nat):Int),(m:Int)):=by
    simp only [sliceBounds,Option.getD_some,hm,if_true,List.size_toArray,show ¬ ((k:Int)<0) by omega,if_false]
  rw [hb];congr 1;simp only [];by_cases hL:L=0
  · subst hL;have h0:its.length=0:=by rw [hl,Nat.zero_mul]
    unfold sliceRange;simp [h0]
  · have h1:m<=L*m:=Nat.le_mul_of_pos_left m (by omega);have e0:max 0 (min (k:Int) (its.length:Nat))=(k:Int):=by omega
    rw [e0];unfold sliceRange;have hlt:(k:Int)<((its.length:Nat):Int):=by omega
    have hc:(((its.length:Nat):Int) - (k:Int)+(m:Int) - 1) / (m:Int)=(L:Nat):=by
      rw [hl];have e:(((L*m:Nat):Int) - (k:Int)+(m:Int) - 1)=((m - 1 - k:Nat):Int)+(m:Int)*(L:Nat):=by
        push_cast;rw [Int.mul_comm (m:Int) (L:Int)];omega
      rw [e,Int.add_mul_ediv_left _ _ (by omega),Int.ediv_eq_zero_of_lt (by omega) (by omega)];omega
    simp only [hm,if_true,hlt,hc,Int.toNat_natCast];rw [List.filterMap_map];rw [show (List.range L).map (λ i=>its.getD (k+m*i) .none)=(List.range L).filterMap (λ i=>some (its.getD (k+m*i) .none)) by rw [<-List.filterMap_eq_map];rfl];have fc:∀ (l:List Nat) (f g:Nat->Option Value),(∀ i∈l,f i=g i)->l.filterMap f=l.filterMap g:=λ l f g=>by
      induction l with
      | nil=>intro _;rfl
      | cons a l ih=>
        intro h;rw [List.filterMap_cons,List.filterMap_cons,h a List.mem_cons_self,ih λ i hi=>h i (List.mem_cons_of_mem _ hi)]
    refine fc _ _ _ λ i hi=> ?_;have hi:=List.mem_range.mp hi;have hb:k+m*i<its.length:=by
      rw [hl];have:m*(i+1)<=m*L:=Nat.mul_le_mul_left m hi;rw [Nat.mul_add,Nat.mul_one,Nat.mul_comm m L] at this;omega
    show its.toArray[((k:Int)+(m:Int)*((i:Nat):Int)).toNat]?=_;rw [show ((k:Int)+(m:Int)*((i:Nat):Int)).toNat=k+m*i by
      have:((m:Int)*((i:Nat):Int))=((m*i:Nat):Int):=by push_cast;rfl
      rw [this];omega]
    rw [List.getElem?_toArray,List.getD_eq_getElem?_getD,List.getElem?_eq_getElem hb];rfl
theorem FF {xs:List V} {us:List Value} (r:Vals xs us) {f:Nat->Nat}:∀ (js:List Nat),(∀ j∈js,f j<xs.length)->Vals (js.map λ i=>xs.getD (f i) .non) (js.map λ i=>us.getD (f i) .none)
  | [],_=> .nil
  | j::js,h=>by
    refine .cons ?_ (FF r js λ i hi=>h i (List.mem_cons_of_mem _ hi));have hj:=h j List.mem_cons_self;have hj2:f j<us.length:=by rw [<-r.length];exact hj
    show RelV (xs.getD (f j) .non) (us.getD (f j) .none);rw [List.getD_eq_getElem?_getD,List.getD_eq_getElem?_getD,List.getElem?_eq_getElem hj,List.getElem?_eq_getElem hj2];obtain ⟨u,e1,e2⟩:=Vals.get (i:=f j) r (List.getElem?_eq_getElem hj);rw [List.getElem?_eq_getElem hj2] at e1;cases e1;exact e2
def Le (K:PySem.W.Frag) (te tl ts:TE):TE:=λ σ H Q=>te σ H λ x H1=>tl σ H1 λ y H2=>ts σ H2 λ z H3=>∃ a xs L m k,x= .ref a/\y= .int ((k:Nat):Int)/\z= .int ((m:Nat):Int)/\SqL K H3 a xs/\xs.length=L*m/\k<m/\
  ∀ q,H3 q=none->Q (.ref q) (upd H3 q (.lst ((List.range L).map λ i=>xs.getD (k+m*i) .non)))
section
variable {X:Cx} {K:PySem.W.Frag} {e lo st:Expr} {te tl ts:TE} {pos p2:Pos}
theorem KC (he:PE X e te) (hlo:PE X lo tl) (hst:PE X st ts) (hK:X.K=K:=by rfl):PE X (.Subscript e (.Slice (some lo) none (some st) p2) pos) (Le K te tl ts):=by
  subst hK;intro pins s σ H Q I h;refine Subscript_ (thn (he pins s σ H _ I h) λ v s1 ⟨x,H1,I1,r1,q1⟩=> ?_);refine wpAny_Slice ?_;rw [evalPart_some];refine thn (hlo _ s1 σ H1 _ I1 q1) λ ul s2 ⟨y,H2,I2,r2,q2⟩=> ?_;rw [evalPart_none];refine wpAny_pure ?_;rw [evalPart_some];refine thn (hst _ s2 σ H2 _ I2 q2) λ u s3 ⟨z,H3,I3,r3,q3⟩=> ?_;obtain ⟨a,xs,L,m,k,rfl,rfl,rfl,hx,hl,hk,q⟩:=q3;obtain ⟨t,rfl⟩:=r2;obtain ⟨t3,rfl⟩:=r3;cases r1;have I4:Inv X pins σ H3 { s3 with heap:=s3.heap.push { cls:= .type "slice",data:= .fields #[.int (k:Nat) t, .none, .int (m:Nat) t3] } }:=I3.kept (t':=s3.toks) λ b ob q=>Heap.get?_push_of_some _ q;obtain ⟨its,r,ht,hz⟩:=I4.list hx;have hlen:=r.length;show wpAny (model X.prog X.w) X.A (subscriptTail e (.Slice (some lo) none (some st) p2) (.ref a) (.ref s3.heap.objs.size)) (EP X pins σ Q) X.xe { s3 with heap:=s3.heap.push { cls:= .type "slice",data:= .fields #[.int (k:Nat) t, .none, .int (m:Nat) t3] } };refine tail_any (ops:=[.ref a, .ref s3.heap.objs.size]) ht.isList.typeIs slot_list_getitem.lookup ?_ (by with_unfolding_all rfl);refine wpAny_getItem_list_slice (lo:=some (k:Nat)) (hi:=none) (st:=some (m:Nat)) ht.isList (Heap.IsSliceOf.new ..) (.int _ t) .none (.int _ t3) (λ z=>by have:=Option.some.inj z;omega) ?_ (by rw [List.size_toArray] <;> omega);rw [Ip (by rw [<-hlen];exact hl) hk];refine ⟨.ref _,_,I4.laid (t':=s3.toks) (o:= .lst ((List.range L).map λ i=>xs.getD (k+m*i) .non)) (λ b ob q=>Heap.get?_push_of_some _ q) (Nat.le_refl _) ?_,rfl,q _ (I4.hok.fresh (Nat.le_refl _))⟩;have bnd:∀ j∈List.range L,k+m*j<xs.length:=λ j hj=>by
    have hj:=List.mem_range.mp hj;rw [hl];have:m*(j+1)<=m*L:=Nat.mul_le_mul_left m hj;rw [Nat.mul_add,Nat.mul_one,Nat.mul_comm m L] at this;omega
  refine ⟨?_,_,0,FF r (f:=λ i=>k+m*i) (List.range L) bnd,Heap.get?_push_size _ rfl⟩;rw [List.length_map,List.length_range];have:L<=L*m:=Nat.le_mul_of_pos_right L (by omega);omega
end
theorem KO {K:PySem.W.Frag} {te tl ts:TE} {σ:St} {H:Hp} {Q:VK} (h:te σ H λ x H1=>tl σ H1 λ y H2=>ts σ H2 λ z H3=>∃ a xs L m k,x= .ref a/\y= .int ((k:Nat):Int)/\z= .int ((m:Nat):Int)/\SqL K H3 a xs/\xs.length=L*m/\k<m/\
  ∀ q,H3 q=none->Q (.ref q) (upd H3 q (.lst ((List.range L).map λ i=>xs.getD (k+m*i) .non)))):Le K te tl ts σ H Q:=h
section
variable {J:It} {g:TG} {σ0:St} {H:Hp} {n:Nat} {st:Nat->St} {te:TE} {Q:VK} {D:Addr}
theorem Cd {Pv:Nat->V->Hp->Prop} (S:SrcOk J g σ0 H n st) (hD:H D=none) (hn:n<=100000) (stab:∀ i y H1 H2,Pv i y H1->Same H1 H2->Pv i y H2) (off:∀ i y H1 ys o,Same H H1->Pv i y H1->H1 D=some (.lst ys)->Pv i y (upd H1 D o))
    (he:∀ i H' (R:VK),i<n->Same H H'->(∃ ys,H' D=some (.lst ys))->(∀ H3 y,Same H' H3->Pv i y H3->R y H3)->te (st i) H' R)
    (hd:∀ H' ys,Same H H'->H' D=some (.lst ys)->ys.length=n->(∀ i y,ys[i]?=some y->Pv i y H')->Q (.ref D) H'):
    Da J σ0 g IB te Q H D:=by
  refine ⟨λ i k ys H'=>k=n - i/\i<=n/\Same H H'/\H' D=some (.lst ys)/\ys.length=i/\∀ (j:Nat) (y:V),ys[j]?=some y->Pv j y H',⟨_,rfl,Nat.zero_le _,DY (Same.refl _) hD,Ad,rfl,λ j y q=>by simp at q⟩,?_⟩;rintro i k ys H1 ⟨rfl,hi,s1,hl,len,el⟩;by_cases hlt:i<n
  · refine .inr ⟨S.go i H1 hlt s1,λ ys' H'=>Same H H'/\H' D=some (.lst ys')/\ys'.length=i+1/\∀ (j:Nat) (y:V),ys'[j]?=some y->Pv j y H',λ ys' H' q=>⟨n - (i+1),by omega,rfl,hlt,q⟩,λ x H2 y=> ?_⟩;refine S.yld i H1 x H2 _ hlt s1 y λ H3 s3=>⟨S.kp i hlt,?_⟩;unfold IB;refine FZ ?_;have hl3:H3 D=some (.lst ys):=s3 _ _ hl;refine he i H3 _ hlt (s1.trans s3) ⟨ys,hl3⟩ λ H5 y s5 py=> ?_;have hl5:H5 D=some (.lst ys):=s5 _ _ hl3;have s15:=s1.trans (s3.trans s5);refine ⟨hl5,?_,?_,Ad,?_,?_⟩
    · exact Nat.lt_of_le_of_lt (by omega:ys.length<=100000) (by decide)
    · exact DY s15 hD
    · rw [List.length_append,len];rfl
    · intro j z h1;by_cases hj:j<ys.length
      · rw [List.getElem?_append_left hj] at h1;exact off j z H5 ys _ s15 (stab j z H1 H5 (el j z h1) (s3.trans s5)) hl5
      · have ej:j=ys.length:=by
          have:=(List.getElem?_eq_some_iff.mp h1).1;rw [List.length_append] at this;have:([y]:List V).length=1:=rfl;omega
        subst ej;rw [List.getElem?_append_right (Nat.le_refl _),Nat.sub_self] at h1;cases h1;rw [len];exact off i _ H5 ys _ s15 py hl5
  · have e:i=n:=by omega
    subst e;exact .inl ⟨S.stop H1 s1,hd H1 ys s1 hl len el⟩
end
end L2
namespace L2
open PySem PySem.Spec PyProof.Rows PySem.W
section
variable {prog:Program} {w:World} {A:Around} {E:Value->Shared->Prop} {s:Shared}
end
section
variable {X:Cx} {pins:List (Addr × Obj)} {σ:St} {H:Hp} {s:Shared} {A:Around} {E:Value->Shared->Prop}
end
section
variable {X:Cx} {K:PySem.W.Frag}
end
end L2
namespace L2
open PySem PySem.Spec PyProof.Rows
section
variable {X:Cx} {e o:Expr} {es:List Expr} {t:TA} {to:TE} {pos:Pos} {S:Addr->Sp->Prop} {E:XK}
end
section
variable {X:Cx} {K:PySem.W.Frag} {tg l:Expr} {ta:TA} {p pos:Pos}
end
section
variable {K:PySem.W.Frag} {σ0:St} {H:Hp} {a:Addr} {xs:List V}
end
section
variable {X:Cx} {scope:Scope} {cx:Str}
end
structure FnA (K:PySem.W.Frag) (m q:Str) (st:Stmt) (ps:List Str) (f:Addr) (fd:FuncData):Prop where
  fn:Fun K m q st f fd
  bi:Binds K fd ps []
section
variable {K:PySem.W.Frag} {mg:Str->Option Value} {m q x:Str} {st:Stmt} {ps:List Str} {f:Addr} {fd:FuncData}
theorem def_mk (a:mg x=some (.ref f)) (F:Fun K x x st f fd) (b:∀ us:List Value,us.length=ps.length->bindArgs fd ⟨us,[]⟩=pure (ps.zip us)):DefAt K mg x st ps f fd:=⟨F,a, .all b⟩
theorem fnA_mk (F:Fun K m q st f fd) (b:∀ us:List Value,us.length=ps.length->bindArgs fd ⟨us,[]⟩=pure (ps.zip us)):FnA K m q st ps f fd:=⟨F, .all b⟩
theorem exc_mk {C:Addr} (a:PySem.W.isClsIn K C=true) (b:PySem.W.findIn K (.ref C) "__getattribute__"=some (some (.builtin "BaseException.__getattribute__"))) (c:PySem.W.findIn K (.ref C) "__getattr__"=some none) (d:PySem.W.mroIn K C (.type "BaseException")=some true) (e:PySem.W.findIn K (.ref C) "__class__"=some (some (.builtin "object.__class__")))
    (f:PySem.W.specialIn K (.builtin "object.__class__") "__get__"=some (some (.builtin "getset_descriptor.__get__"))) (g:PySem.W.takesIn K (.builtin "object.__class__")=some true) (h:PySem.W.mroIn K C (.type "object")=some true):HT.ExcKind K C:=⟨a,b,c,d,e,f,g,h⟩
theorem ci_mk {n:Int} {t:Tok} (h:mg x=some (.int n t)):∃ t,mg x=some (.int n t):=⟨t,h⟩
theorem cs_mk {z:Str} {t:Tok} (h:mg x=some (.str z t)):∃ t,mg x=some (.str z t):=⟨t,h⟩
theorem own_nil:Own mg []:=λ _ h=>by cases h
theorem own_cons {xs:List Str} (a:mg x=none) (h:Own mg xs):Own mg (x::xs):=λ y hy=>by
  rcases List.mem_cons.mp hy with rfl | hy
  · exact a
  · exact h y hy
end
def Nxt (N:St->Hp->Prop):St->Hp->Prop:=N
structure Cut (u:TS) (D:Ends) (N:St->Hp->Prop):Prop where
  go:∀ σ H,u D σ H->N σ H
theorem J8 {t u:TS} {D:Ends} {σ:St} {H:Hp} (h:∀ N,Cut u D N->t { D with nx:=Nxt N } σ H):Np t u D σ H:=h (u D) ⟨λ _ _ x=>x⟩
theorem LQ {u:TS} {D:Ends} {N:St->Hp->Prop} {σ:St} {H:Hp} (k:Cut u D N) (h:u D σ H):Nxt N σ H:=k.go _ _ h
end L2
open L2
local macro_rules | `(tactic| walk_at "t") => `(tactic| first | (with_reducible first | refine J8 λ _ _ => ?_ | refine LQ (by assumption) ?_ | refine LO ?_ | refine Ky ?_ | refine Ov ?_ | refine Nz ?_ | refine Mj ?_ | refine ML ?_ | refine MA ?_ | refine L9 ?_ | refine K6 ?_ | refine Nb ?_ | refine MU ?_ | refine M1 ?_ | refine Mx ?_ | refine KS ?_ | refine K2 ?_ | refine Nc ?_ | refine LT ?_ | refine Kx ?_ | refine MI ?_ | refine KR ?_ | refine Mi ?_ | refine LY ?_ | refine MT ?_ | refine KH ?_ | refine MW ?_ | refine KL ?_ | refine Iv ?_ | refine Ms ?_ | refine FZ ?_ | refine EA ?_ | refine Kt ?_ | refine Mr ?_ | refine NE ?_ | refine LA ?_ | refine Nx ?_ | refine Kb ?_ | refine LP ?_ | refine NA ?_ | refine M5 ?_ | refine M0 ?_ | refine M2 ?_ | refine MS ?_ | refine Nl ?_ | refine Nw ?_ | refine Ko ?_ | refine KI ?_ | refine JZ ?_ | refine MQ ?_ | refine LV ?_ | refine KP ?_ | refine Ki ?_) | ((with_reducible apply LM); exact rfl) | (with_reducible refine Mz (by simp only [List.length_cons, List.length_nil]; decide) ?_))
local macro_rules | `(tactic| walk_at "s") => `(tactic| first | walk_at "t" | (with_reducible refine MP ?_))
local macro_rules | `(tactic| walk_at "w") => `(tactic| repeat walk_at "s")
local macro_rules | `(tactic| wrow_has $H $n) => do let t := ((n.getId.toString.drop 1).toString); let i := λ (a : String) => Lean.mkIdent (Lean.Name.mkSimple (a ++ t)); `(tactic| (generalize e : upd $H $(i "p") _ = $(i "H"); have $(i "s"):ident : Same $H $(i "H") := (by rw [<-e]; exact Ae $(i "n")); have $(i "g"):ident := (congrFun e $(i "p")).symm.trans Ad; clear e))
local macro_rules | `(tactic| row_lines $H $n) => do let t := ((n.getId.toString.drop 1).toString); let i := λ (a : String) => Lean.mkIdent (Lean.Name.mkSimple (a ++ t)); `(tactic| (intro $(i "p"):ident $(i "n"):ident; wrow_has $H $n))
local macro_rules | `(tactic| walk_at "x") => `(tactic| repeat first | walk_at "s" | (with_reducible refine Ax (by decide) ?_))
namespace K27
open PySem L2 PySem.Spec PyProof.Rows
seal L2.PE L2.PT L2.PW L2.PA L2.PS L2.PSs L2.PI L2.PG L2.PTs L2.PGs
section
variable {P:Program} {w:World} {K:PySem.W.Frag} {mg:Str->Option Value} {base:Heap}
structure Cs where
  Cloth:Addr
  LoomError:Addr
  BadRow:Addr
  BadWord:Addr
  TooMany:Addr
  NotPlain:Addr
  NotGrown:Addr
  BadDraft:Addr
  BadCloth:Addr
  OutOfPlace:Addr
structure Txt (K:PySem.W.Frag) (mg:Str->Option Value) (c:Cs):Prop where
  own:Own mg ["isinstance","int","bool","list","tuple","len","all","range","sum","enumerate","min","max","ValueError"]
  g_Cloth:mg "Cloth"=some (.ref c.Cloth)
  kd_Cloth:Kind K c.Cloth
  is_Cloth:PySem.W.kitOne K (.ref c.Cloth) (.ref c.Cloth)=some true
  na_Cloth_width:NoAttr K c.Cloth "width"
  na_Cloth_rows:NoAttr K c.Cloth "rows"
  g_LoomError:mg "LoomError"=some (.ref c.LoomError)
  g_BadRow:mg "BadRow"=some (.ref c.BadRow)
  g_BadWord:mg "BadWord"=some (.ref c.BadWord)
  g_TooMany:mg "TooMany"=some (.ref c.TooMany)
  g_NotPlain:mg "NotPlain"=some (.ref c.NotPlain)
  g_NotGrown:mg "NotGrown"=some (.ref c.NotGrown)
  g_BadDraft:mg "BadDraft"=some (.ref c.BadDraft)
  g_BadCloth:mg "BadCloth"=some (.ref c.BadCloth)
  xk_BadCloth:HT.ExcKind K c.BadCloth
  xi_BadCloth:PySem.W.excIn K c.BadCloth [.type "ValueError", .type "Exception", .type "BaseException", .type "object"] "ValueError.__new__"=true
  xm_BadCloth_LoomError:PySem.W.exmOne K (.ref c.BadCloth) (.ref c.LoomError)=some true
  ki_BadCloth_BadRow:PySem.W.kitOne K (.ref c.BadCloth) (.ref c.BadRow)=some false
  ki_BadCloth_BadWord:PySem.W.kitOne K (.ref c.BadCloth) (.ref c.BadWord)=some false
  ki_BadCloth_TooMany:PySem.W.kitOne K (.ref c.BadCloth) (.ref c.TooMany)=some false
  ki_BadCloth_NotPlain:PySem.W.kitOne K (.ref c.BadCloth) (.ref c.NotPlain)=some false
  ki_BadCloth_NotGrown:PySem.W.kitOne K (.ref c.BadCloth) (.ref c.NotGrown)=some false
  ki_BadCloth_BadDraft:PySem.W.kitOne K (.ref c.BadCloth) (.ref c.BadDraft)=some false
  ki_BadCloth_BadCloth:PySem.W.kitOne K (.ref c.BadCloth) (.ref c.BadCloth)=some true
  ki_BadCloth_OutOfPlace:PySem.W.kitOne K (.ref c.BadCloth) (.ref c.OutOfPlace)=some false
  ki_BadCloth_ValueError:PySem.W.kitOne K (.ref c.BadCloth) (.type "ValueError")=some true
  g_OutOfPlace:mg "OutOfPlace"=some (.ref c.OutOfPlace)
  k_MOST_ENDS:∃ t,mg "MOST_ENDS"=some (.int 60 t)
  k_MOST_PICKS:∃ t,mg "MOST_PICKS"=some (.int 60 t)
def FJ (K:PySem.W.Frag) (TT:Addr):Sp:=λ vs H Q _=>∃ (a:Addr) (ns:List Int),vs=[.ref a]/\SqL K H a (ns.map V.int)/\ns.length<=63/\H TT=some (.tbl #[])/\∀ H',Q (.bl true) H'
end
section
variable {P:Program} {w:World} {K:PySem.W.Frag} {mg:Str->Option Value} {base:Heap} {c:Cs}
def Dv:Sp:=λ vs H Q _=>∃ n:Nat,vs=[.int n]/\1<=n/\n<=1000/\Q (.int ((2 ^ (n - 1):Nat):Int)) H
abbrev EH:Stmt:=top 14
theorem Iz:FnScope ["number"] ["number"] (Ah EH):=⟨rfl,rfl,rfl,by decide +kernel,rfl,by decide +kernel,by decide +kernel⟩
theorem Ik {f:Addr} {fd:FuncData} (F:Fun K "bit_of" "bit_of" EH f fd) (T:Txt K mg c):FnOk P w K mg base CX0 1 f fd ["number"] Dv:=by
  refine F.ok Iz (λ vs H Q E h=> ?_) (λ cdv A outer s H vs Q E hr h=> ?_)
  · obtain ⟨n,rfl,_⟩:=h;rfl
  · obtain ⟨n,rfl,h1,h2,q⟩:=h;refine ⟨_,(Ai (Aq (Ak FQ Af (Ak F0 (pv 0) Af)))),?_⟩;walk_at "w";refine Ax ⟨by omega,by omega,by decide⟩ ?_;rw [show ((n:Int) - 1).toNat=n - 1 by omega,Gd];exact q
def Ep (K:PySem.W.Frag):Sp:=λ vs H Q _=>∃ tp a,∃ ns:List Nat,vs=[.ref a]/\SqS tp K H a (ns.map nV)/\(∀ n∈ns,1<=n/\n<=1000)/\∀ H',Same H H'->Q (.int ((MM.mOf ns:Nat):Int)) H'
abbrev Dq:Stmt:=top 15
theorem sc_mask_of:FnScope ["numbers","mask","number"] ["numbers"] (Ah Dq):=⟨rfl,rfl,rfl,by decide +kernel,rfl,by decide +kernel,by decide +kernel⟩
theorem GT {f:Addr} {fd:FuncData} (F:Fun K "mask_of" "mask_of" Dq f fd) (T:Txt K mg c) (c_bit_of:AS P w K mg base "bit_of" 1 ["number"] Dv):FnOk P w K mg base CX0 2 f fd ["numbers"] (Ep K):=by
  refine F.ok sc_mask_of (λ vs H Q E h=> ?_) (λ cdv A outer s H vs Q E hr h=> ?_)
  · obtain ⟨tp,a,ns,rfl,_⟩:=h;rfl
  · obtain ⟨tp,a,ns,rfl,sa,hn,q⟩:=h;refine ⟨_,(Ag (An (i:=1) sc_mask_of.nd rfl (Or.inl rfl) Af)
      (Ag (Bq PassesOwn.never rfl (Lo (K:=K) (pv 0)) (AU (i:=2) sc_mask_of.nd rfl (Or.inl rfl)) (Ai (II (i:=1) sc_mask_of.nd rfl (Or.inl rfl) (Am c_bit_of hr (Aa (pv 2) Ac)) JI)))
      (Ai (Aq (pv 1))))),?_⟩
    walk_at "w";refine ⟨tp,a,rfl,⟨_,sa⟩,DZ (Jk sa) (λ i σ H3=>∃ x,σ=[some (.ref a),some (.int ((MM.mOf (ns.take i):Nat):Int)),x]/\Same H H3) ⟨_,rfl,Same.refl _⟩ (λ i σ H3 ⟨_,_,s⟩=>s) ?_ ?_⟩
    · rintro i σ H' H3 hi ⟨x,rfl,s'⟩ s3;have hi':i<ns.length:=by simpa using hi
      have hm:ns.getD i 0∈ns:=by rw [List.getD_eq_getElem?_getD,List.getElem?_eq_getElem hi'];exact List.getElem_mem hi'
      rw [Bi hi];walk_at "w";refine JO rfl ?_;walk_at "w";refine ⟨_,rfl,(hn _ hm).1,(hn _ hm).2,?_⟩;walk_at "w";rw [bO, <-MM.mOf_snoc, <-Fv hi'];exact ⟨_,rfl,s'.trans s3⟩
    · rintro σ H3 ⟨x,rfl,s3⟩;walk_at "w";rw [List.length_map,List.take_length];exact q H3 s3
def CN:Sp:=λ vs H Q _=>∃ n:Nat,vs=[.int n]/\n<=1000/\Q (.int ((2 ^ n - 1:Nat):Int)) H
abbrev Dx:Stmt:=top 16
theorem Hc:FnScope ["most"] ["most"] (Ah Dx):=⟨rfl,rfl,rfl,by decide +kernel,rfl,by decide +kernel,by decide +kernel⟩
theorem Hg {f:Addr} {fd:FuncData} (F:Fun K "mask_to" "mask_to" Dx f fd) (T:Txt K mg c):FnOk P w K mg base CX0 1 f fd ["most"] CN:=by
  refine F.ok Hc (λ vs H Q E h=> ?_) (λ cdv A outer s H vs Q E hr h=> ?_)
  · obtain ⟨n,rfl,_⟩:=h;rfl
  · obtain ⟨n,rfl,h1,q⟩:=h;refine ⟨_,(Ai (Aq (Ak F0 (Ak FQ Af (pv 0)) Af))),?_⟩;walk_at "w";refine Ax ⟨by omega,by omega,by decide⟩ ?_;walk_at "w";have hp:0<2 ^ n:=Nat.two_pow_pos n;rw [show ((n:Int)).toNat=n by omega,Gd,show ((2 ^ n:Nat):Int) - 1=((2 ^ n - 1:Nat):Int) by omega];exact q
def CD:Sp:=λ vs H Q _=>∃ m n:Nat,vs=[.int m, .int n]/\1<=n/\n<=1000/\Q (.bl (m.testBit (n - 1))) H
theorem KM (m i:Nat):(!decide (((m &&& 2 ^ i:Nat):Int)=0))=m.testBit i:=by
  have e:(m &&& 2 ^ i)=(m.testBit i).toNat*2 ^ i:=by
    refine Nat.eq_of_testBit_eq λ j=> ?_;rw [Nat.testBit_and,Nat.testBit_two_pow];by_cases h:i=j
    · subst h;cases hb:m.testBit i <;> simp
    · cases hb:m.testBit i <;> simp [h,Nat.testBit_two_pow]
  rw [e];have hp:0<2 ^ i:=Nat.two_pow_pos i;cases m.testBit i with
  | false=>simp
  | true=>
    rw [decide_eq_false (by rw [Bool.toNat_true];omega)];rfl
abbrev BH:Stmt:=top 17
theorem Fa:FnScope ["mask","number"] ["mask","number"] (Ah BH):=⟨rfl,rfl,rfl,by decide +kernel,rfl,by decide +kernel,by decide +kernel⟩
theorem E9 {f:Addr} {fd:FuncData} (F:Fun K "has_number" "has_number" BH f fd) (T:Txt K mg c) (c_bit_of:AS P w K mg base "bit_of" 1 ["number"] Dv):FnOk P w K mg base CX0 2 f fd ["mask","number"] CD:=by
  refine F.ok Fa (λ vs H Q E h=> ?_) (λ cdv A outer s H vs Q E hr h=> ?_)
  · obtain ⟨m,n,rfl,_⟩:=h;rfl
  · obtain ⟨m,n,rfl,h1,h2,q⟩:=h;refine ⟨_,(Ai (Aq (DT Lx (Ak Je (pv 0) (Am c_bit_of hr (Aa (pv 1) Ac))) Af (AE _)))),?_⟩;walk_at "w";refine ⟨n,rfl,h1,h2,?_⟩;walk_at "w";rw [bA,KM];exact q
def CA:Sp:=λ vs H Q _=>∃ m:Nat,vs=[.int m]/\m<2 ^ 900/\∀ H' p,Same H H'->H p=none->H' p=some (.lst ((MM.nOf m).map nV))->Q (.ref p) H'
abbrev BK:Stmt:=top 18
theorem EO:FnScope ["mask"] ["mask"] (Ah BK):=⟨rfl,rfl,rfl,by decide +kernel,rfl,by decide +kernel,by decide +kernel⟩
theorem EX {f:Addr} {fd:FuncData} (F:Fun K "numbers_of" "numbers_of" BK f fd) (T:Txt K mg c) (c_has_number:AS P w K mg base "has_number" 2 ["mask","number"] CD):FnOk P w K mg base CX0 3 f fd ["mask"] CA:=by
  refine F.ok EO (λ vs H Q E h=> ?_) (λ cdv A outer s H vs Q E hr h=> ?_)
  · obtain ⟨m,rfl,_⟩:=h;rfl
  · obtain ⟨m,rfl,h1,q⟩:=h;have hb:=MM.bits_le h1;refine ⟨_,(Ai (Aq (AN (Dz rfl (T.own _ (by decide)) (Aa Af (Aa (Ak AT (LG (K:=K) PySem.F.plainAttrs_int PySem.F.slot_int_bit_length PySem.F.type_int_bit_length E8 (pv 0)) Af) Ac))) (λ _ _ _ _=>(F7 (BO (Am c_has_number hr (Aa (pv 1) (Aa (pv 0) Ac)))))) (λ _ _ _ _=>(pv 0))))),?_⟩;walk_at "w";refine tyI ?_;refine Kz ?_;walk_at "w";refine ⟨_,_,rfl,⟨by decide,by decide,by omega,by omega⟩,λ D hD=> ?_⟩;rw [show ((MM.bits m:Nat)+1 - 1:Int).toNat=MM.bits m by omega];refine Ee (p:=m.testBit) (G:=λ i=>1+(i:Int)) (Dn rfl) hD (by omega) ?_ ?_ ?_
    · intro i H' R hi s k;walk_at "w";refine ⟨m,i+1,by rw [show (1:Int)+(i:Nat)=((i+1:Nat):Int) by omega],by omega,by omega,?_⟩;rw [show i+1 - 1=i by omega];exact ⟨_,rfl,k H' (Same.refl _)⟩
    · intro i H' R hi hp s k;walk_at "w";exact k H' (Same.refl _)
    · intro H' s hl;refine q H' D s hD ?_;rw [hl];unfold MM.nOf;rw [List.map_map,List.map_map];congr 2;refine List.map_congr_left λ i _=> ?_;show V.int (1+(i:Int))=V.int ((i+1:Nat):Int);congr 1;omega
def DE (K:PySem.W.Frag):Sp:=λ vs H Q _=>∃ tp a,∃ ns:List Nat,vs=[.ref a]/\SqS tp K H a (ns.map nV)/\∀ H',Same H H'->Q (.int ((MM.uOf ns:Nat):Int)) H'
abbrev CU:Stmt:=top 19
theorem sc_union_of:FnScope ["masks","union","mask"] ["masks"] (Ah CU):=⟨rfl,rfl,rfl,by decide +kernel,rfl,by decide +kernel,by decide +kernel⟩
theorem Ga {f:Addr} {fd:FuncData} (F:Fun K "union_of" "union_of" CU f fd) (T:Txt K mg c):FnOk P w K mg base CX0 1 f fd ["masks"] (DE K):=by
  refine F.ok sc_union_of (λ vs H Q E h=> ?_) (λ cdv A outer s H vs Q E hr h=> ?_)
  · obtain ⟨tp,a,ns,rfl,_⟩:=h;rfl
  · obtain ⟨tp,a,ns,rfl,sa,q⟩:=h;refine ⟨_,(Ag (An (i:=1) sc_union_of.nd rfl (Or.inl rfl) Af)
      (Ag (Bq PassesOwn.never rfl (Lo (K:=K) (pv 0)) (AU (i:=2) sc_union_of.nd rfl (Or.inl rfl)) (Ai (II (i:=1) sc_union_of.nd rfl (Or.inl rfl) (pv 2) JI)))
      (Ai (Aq (pv 1))))),?_⟩
    walk_at "w";refine ⟨tp,a,rfl,⟨_,sa⟩,DZ (Jk sa) (λ i σ H3=>∃ x,σ=[some (.ref a),some (.int ((MM.uOf (ns.take i):Nat):Int)),x]/\Same H H3) ⟨_,rfl,Same.refl _⟩ (λ i σ H3 ⟨_,_,s⟩=>s) ?_ ?_⟩
    · rintro i σ H' H3 hi ⟨x,rfl,s'⟩ s3;have hi':i<ns.length:=by simpa using hi
      rw [Bi hi];walk_at "w";refine JO rfl ?_;walk_at "w";rw [bO, <-MM.uOf_snoc, <-Fv hi'];exact ⟨_,rfl,s'.trans s3⟩
    · rintro σ H3 ⟨x,rfl,s3⟩;walk_at "w";rw [List.length_map,List.take_length];exact q H3 s3
def DI (K:PySem.W.Frag):Sp:=λ vs H Q _=>∃ x,vs=[x]/\Ty K H x/\Q (.bl (Jy x)) H
abbrev CQ:Stmt:=top 21
theorem GC:FnScope ["thing"] ["thing"] (Ah CQ):=⟨rfl,rfl,rfl,by decide +kernel,rfl,by decide +kernel,by decide +kernel⟩
theorem GK {f:Addr} {fd:FuncData} (F:Fun K "is_whole" "is_whole" CQ f fd) (T:Txt K mg c):FnOk P w K mg base CX0 1 f fd ["thing"] (DI K):=by
  refine F.ok GC (λ vs H Q E h=> ?_) (λ cdv A outer s H vs Q E hr h=> ?_)
  · obtain ⟨x,rfl,_⟩:=h;rfl
  · obtain ⟨x,rfl,⟨n,ty⟩,k⟩:=h;refine ⟨_,(Ai (Aq (G3 (Al (GS (K:=K)) rfl (T.own _ (by decide)) boot_isinstance (Aa (pv 0) (Aa (Ht rfl (T.own _ (by decide)) boot_int) Ac))) (G2 (JQ (Al (GS (K:=K)) rfl (T.own _ (by decide)) boot_isinstance (Aa (pv 0) (Aa (Ht rfl (T.own _ (by decide)) boot_bool) Ac)))))))),?_⟩;walk_at "w";refine Dd ty (Kq ty) ?_;walk_at "w";refine Hh (λ hc=> ?_) (λ hc=> ?_)
    · walk_at "w";refine Dd ty (JX ty) ?_;walk_at "w";exact Gp (by cases x <;> first | rfl | exact absurd hc Bool.false_ne_true) k
    · exact Gp (by cases x <;> first | rfl | exact absurd hc.symm Bool.false_ne_true) k
def DH (K:PySem.W.Frag):Sp:=λ vs H Q _=>∃ x a b,vs=[x, .int a, .int b]/\Ty K H x/\Q (.bl (AZ x a b)) H
abbrev CM:Stmt:=top 22
theorem Gq:FnScope ["thing","least","most"] ["thing","least","most"] (Ah CM):=⟨rfl,rfl,rfl,by decide +kernel,rfl,by decide +kernel,by decide +kernel⟩
theorem GL {f:Addr} {fd:FuncData} (F:Fun K "is_among" "is_among" CM f fd) (T:Txt K mg c) (c_is_whole:AS P w K mg base "is_whole" 1 ["thing"] (DI K)):FnOk P w K mg base CX0 2 f fd ["thing","least","most"] (DH K):=by
  refine F.ok Gq (λ vs H Q E h=> ?_) (λ cdv A outer s H vs Q E hr h=> ?_)
  · obtain ⟨x,a,b,rfl,_⟩:=h;rfl
  · obtain ⟨x,a,b,rfl,ty,k⟩:=h;refine ⟨_,(Ai (Aq (G3 (Am c_is_whole hr (Aa (pv 0) Ac)) (G2 (IS Ll Ll (pv 1) (pv 0) (pv 2)))))),?_⟩;walk_at "w";refine ⟨x,rfl,ty,?_⟩;walk_at "w";refine Hh (λ hc=> ?_) (λ hc=> ?_)
    · cases x with
      | int i=>
        walk_at "w";refine Hh (λ h1=> ?_) (λ h1=> ?_)
        · walk_at "w";exact Gp (by show _=(decide (a<=i)&&decide (i<=b));rw [h1,Bool.true_and]) k
        · walk_at "w";exact Gp (by show _=(decide (a<=i)&&decide (i<=b));rw [h1,Bool.false_and]) k
      | _=>exact absurd hc Bool.false_ne_true
    · exact Gp (by cases x <;> first | rfl | exact absurd hc.symm Bool.false_ne_true) k
def ClAt (C:Addr) (H:Hp) (x:Addr) (n:Nat) (rs:List Nat):Prop:=∃ dx t,H x=some (.ins C dx [("width",nV n),("rows", .ref t)])/\H t=some (.tup (rs.map nV))
theorem ClAt.same {C:Addr} {H H':Hp} {x:Addr} {n:Nat} {rs:List Nat} (h:ClAt C H x n rs) (s:Same H H'):ClAt C H' x n rs:=by
  obtain ⟨dx,t,h1,h2⟩:=h;exact ⟨dx,t,s _ _ h1,s _ _ h2⟩
structure ClOk (n:Nat) (rs:List Nat):Prop where
  n1:1<=n
  n2:n<=60
  p1:1<=rs.length
  p2:rs.length<=60
  lt:∀ r∈rs,r<2 ^ n
inductive ClFit (K:PySem.W.Frag) (H:Hp):V->V->Bool->Prop
  | ends {e r:V} (ty:Ty K H e) (h:AZ e 1 60=false):ClFit K H e r false
  | kind {n:Nat} {r:V} {t:Value} (h1:1<=n) (h2:n<=60) (ty:TyOf K H r t) (h:PySem.W.kitOne K t (.type "list")=some false):ClFit K H (.int n) r false
  | many {n:Nat} {a:Addr} {xs:List V} (h1:1<=n) (h2:n<=60) (ha:H a=some (.lst xs)) (h:xs.length=0\/60<xs.length):ClFit K H (.int n) (.ref a) false
  | rows {n:Nat} {a:Addr} {xs:List V} (h1:1<=n) (h2:n<=60) (ha:H a=some (.lst xs)) (l1:1<=xs.length) (l2:xs.length<=60) (ty:∀ x∈xs,Ty K H x):ClFit K H (.int n) (.ref a) (xs.all λ x=>AZ x 0 ((2 ^ n - 1:Nat):Int))
theorem ClFit.same {H H':Hp} {e r:V} {b:Bool} (h:ClFit K H e r b) (s:Same H H'):ClFit K H' e r b:=by
  cases h with
  | ends ty h=>exact .ends (ty.same s) h
  | kind h1 h2 ty h=>exact .kind h1 h2 (ty.same s) h
  | many h1 h2 ha h=>exact .many h1 h2 (s _ _ ha) h
  | rows h1 h2 ha l1 l2 ty=>exact .rows h1 h2 (s _ _ ha) l1 l2 λ x hx=>(ty x hx).same s
theorem ClFit.ok {H:Hp} {n:Nat} {a:Addr} {rs:List Nat} (ha:H a=some (.lst (rs.map nV))) (ok:ClOk n rs):ClFit K H (.int n) (.ref a) true:=by
  have e:((rs.map nV).all λ x=>AZ x 0 ((2 ^ n - 1:Nat):Int))=true:=by
    rw [List.all_eq_true];intro x hx;obtain ⟨r,hr,rfl⟩:=List.mem_map.mp hx;have:=ok.lt _ hr;have hp:0<2 ^ n:=Nat.two_pow_pos n;show (decide ((0:Int)<=(r:Nat))&&decide (((r:Nat):Int)<=((2 ^ n - 1:Nat):Int)))=true;simp only [Bool.and_eq_true,decide_eq_true_eq];omega
  rw [<-e];refine .rows ok.n1 ok.n2 ha (by rw [List.length_map];exact ok.p1) (by rw [List.length_map];exact ok.p2) λ x hx=> ?_;obtain ⟨r,hr,rfl⟩:=List.mem_map.mp hx;exact ⟨_, .int _⟩
def Cr (K:PySem.W.Frag) (c:Cs):Sp:=λ vs H Q E=>∃ (e r:V) (b:Bool),vs=[e,r]/\ClFit K H e r b/\∀ H',Same H H'->(b=true->Q .non H')/\(b=false->E (.ref c.BadCloth) none H')
theorem Dj {n:Nat} (h1:1<=n) (h2:n<=60):AZ (.int n) 1 60=true:=by
  show (decide ((1:Int)<=n)&&decide ((n:Int)<=60))=true;simp;omega
abbrev BN:Stmt:=top 24
theorem EU:FnScope ["ends","rows"] ["ends","rows"] (Ah BN):=⟨rfl,rfl,rfl,by decide +kernel,rfl,by decide +kernel,by decide +kernel⟩
theorem ES {f:Addr} {fd:FuncData} (F:Fun K "need_cloth" "need_cloth" BN f fd) (T:Txt K mg c) (c_is_among:AS P w K mg base "is_among" 2 ["thing","least","most"] (DH K)) (c_mask_to:AS P w K mg base "mask_to" 1 ["most"] CN):FnOk P w K mg base (CXE P w) 3 f fd ["ends","rows"] (Cr K c):=by
  refine Fun.okE F EU (λ vs H Q E h=> ?_) (λ cdv A outer s H vs Q E hr h=> ?_)
  · obtain ⟨e,r,b,rfl,_⟩:=h;rfl
  · obtain ⟨e,r,b,rfl,hf,k⟩:=h;have tye:Ty K H e:=by cases hf <;> first | assumption | exact ⟨_, .int _⟩
    refine ⟨_,(Ag (BR (DA (BO (Am c_is_among hr (Aa (pv 0) (Aa Af (Aa (Lh T.k_MOST_ENDS) Ac)))))) (Ai (Bz T.g_BadCloth T.xi_BadCloth (Aa AJ Ac))) AQ)
      (Ag (BR (PW.pt (HB (DA (BO (Al (GS (K:=K)) rfl (T.own _ (by decide)) boot_isinstance (Aa (pv 1) (Aa (Ht rfl (T.own _ (by decide)) EE) Ac))))) (F3 (DA (BO (Am c_is_among hr (Aa (Al (CF (K:=K)) rfl (T.own _ (by decide)) boot_len (Aa (pv 1) Ac)) (Aa Af (Aa (Lh T.k_MOST_PICKS) Ac))))))))) (Ai (Bz T.g_BadCloth T.xi_BadCloth (Aa AJ Ac))) AQ)
      (Ai (BR (DA (BO (Al (Lu (K:=K)) rfl (T.own _ (by decide)) FC (Aa (AN (B9 (K:=K) (pv 1)) (λ _ _ _ _=>AM) (λ _ _ _ _=>(Am c_is_among hr (Aa (pv 0) (Aa Af (Aa (Am c_mask_to (hr.mono (by decide)) (Aa (pv 1) Ac)) Ac)))))) Ac)))) (Ai (Bz T.g_BadCloth T.xi_BadCloth (Aa AJ Ac))) AQ)))),?_⟩
    walk_at "w";refine ⟨_,_,_,rfl,tye,?_⟩;walk_at "w";cases hf with
    | ends ty h=>
      rw [h];refine FZ ?_;exact ⟨by decide,(k H (Same.refl _)).2 rfl⟩
    | kind h1 h2 ty h=>
      rw [Dj h1 h2];refine EA ?_;walk_at "w";refine Dd ty h ?_;walk_at "w";exact ⟨by decide,(k H (Same.refl _)).2 rfl⟩
    | @many n a xs h1 h2 ha h=>
      rw [Dj h1 h2];refine EA ?_;walk_at "w";refine Dd (.lst ha) (kb (b:=true) (by decide +kernel)) ?_;walk_at "w";refine AX (SqL.of ha) ?_;walk_at "w";refine ⟨_,_,_,rfl,⟨_, .int _⟩,?_⟩;walk_at "w";have d2:AZ (.int (xs.length:Nat)) 1 60=false:=by
        show (decide ((1:Int)<=(xs.length:Nat))&&decide (((xs.length:Nat):Int)<=60))=false;rw [Bool.and_eq_false_iff,decide_eq_false_iff_not,decide_eq_false_iff_not];omega
      rw [d2];refine FZ ?_;exact ⟨by decide,(k H (Same.refl _)).2 rfl⟩
    | @rows n a xs h1 h2 ha l1 l2 ty=>
      rw [Dj h1 h2];refine EA ?_;walk_at "w";refine Dd (.lst ha) (kb (b:=true) (by decide +kernel)) ?_;walk_at "w";refine AX (SqL.of ha) ?_;walk_at "w";refine ⟨_,_,_,rfl,⟨_, .int _⟩,?_⟩;walk_at "w";rw [Dj l1 l2];refine EA ?_;walk_at "w";refine ⟨a,rfl,⟨_,SqL.of ha⟩,λ D hD=> ?_⟩;refine Gr (G:=λ i=>AZ (xs.getD i .non) 0 ((2 ^ n - 1:Nat):Int)) (AO (SqL.of ha) rfl) hD (by omega) ?_ ?_
      · intro i H' R hi s kk;walk_at "w";refine ⟨n,rfl,by omega,?_⟩;walk_at "w";refine ⟨_,_,_,rfl,(ty _ ?_).same s,?_⟩
        · rw [List.getD_eq_getElem?_getD,List.getElem?_eq_getElem hi];exact List.getElem_mem hi
        exact kk H' (Same.refl _)
      · intro H' s hl;walk_at "w";refine IQ (SqL.of hl) ?_;walk_at "w";have d4:((List.range xs.length).map λ i=>AZ (xs.getD i .non) 0 ((2 ^ n - 1:Nat):Int)).all id=xs.all λ x=>AZ x 0 ((2 ^ n - 1:Nat):Int):=by
          rw [BY (λ x:V=>AZ x 0 ((2 ^ n - 1:Nat):Int)) xs .non,List.all_map];rfl
        rw [d4];refine Hh (λ hb=> ?_) (λ hb=> ?_)
        · have hb:(xs.all λ x=>AZ x 0 ((2 ^ n - 1:Nat):Int))=false:=by simpa using hb
          exact ⟨by decide,(k H' s).2 hb⟩
        · have hb:(xs.all λ x=>AZ x 0 ((2 ^ n - 1:Nat):Int))=true:=by simpa using hb
          walk_at "w";exact (k H' s).1 hb
def Aw (K:PySem.W.Frag) (c:Cs):Sp:=λ vs H Q E=>∃ (x dx:Addr) (e r:V),vs=[.ref x,e,r]/\H x=some (.ins c.Cloth dx [])/\
  ((ClFit K H e r false/\∀ H',Same H H'->E (.ref c.BadCloth) none H')\/
  (∃ (n:Nat) (a:Addr) (rs:List Nat),e= .int n/\r= .ref a/\H a=some (.lst (rs.map nV))/\ClOk n rs/\∀ H',(∀ b o,H b=some o->b≠x->H' b=some o)->ClAt c.Cloth H' x n rs->Q .non H'))
abbrev AV:Stmt:=AC (top 25) 0
theorem De:FnScope ["self","ends","rows"] ["self","ends","rows"] (Ah AV):=⟨rfl,rfl,rfl,by decide +kernel,rfl,by decide +kernel,by decide +kernel⟩
theorem C9 {f:Addr} {fd:FuncData} (F:Fun K "__init__" "Cloth.__init__" AV f fd) (T:Txt K mg c) (c_need_cloth:Gx P w K mg base "need_cloth" 3 ["ends","rows"] (Cr K c)):FnOk P w K mg base (CXE P w) 4 f fd ["self","ends","rows"] (Aw K c):=by
  refine Fun.okE F De (λ vs H Q E h=> ?_) (λ cdv A outer s H vs Q E hr h=> ?_)
  · obtain ⟨x,dx,e,r,rfl,_⟩:=h;rfl
  · obtain ⟨x,dx,e,r,rfl,hx,h⟩:=h;refine ⟨_,(Ag (Dc (BB c_need_cloth hr IT (Aa (pv 1) (Aa (pv 2) Ac))))
      (Ag (JP (pv 0) (pv 1) rfl)
      (Ai (JP (pv 0) (Fk (J6 (K:=K)) rfl (T.own _ (by decide)) Gg (Aa (pv 2) Ac)) rfl)))),?_⟩
    walk_at "w";rcases h with ⟨hf,k⟩ | ⟨n,a,rs,rfl,rfl,ha,ok,k⟩
    · exact ⟨_,_,false,rfl,hf,λ H1 s1=>⟨λ z=>absurd z (by decide),λ _=>k H1 s1⟩⟩
    refine ⟨_,_,true,rfl, .ok ha ok,λ H1 s1=>⟨λ _=> ?_,λ z=>absurd z (by decide)⟩⟩;walk_at "w";refine IN (s1 _ _ hx) T.kd_Cloth.cl T.na_Cloth_width (by decide) ?_;walk_at "w";have nax:a≠x:=Gc ha hx (by intro z;cases z);refine Jm (SqL.of (by rw [Aj nax];exact s1 _ _ ha)) λ t ht=> ?_;walk_at "w";have nxt:x≠t:=Ar Ad ht;refine IN (by rw [Aj nxt];exact Ad) T.kd_Cloth.cl T.na_Cloth_rows (by show 1<1000;decide) ?_;walk_at "w";refine k _ (λ b o e hb=> ?_) ⟨dx,t,Ad,by rw [Aj (Ne.symm nxt),Ad]⟩;have hbt:b≠t:=λ z=>by
      subst z;rw [Aj hb,s1 _ _ e] at ht;cases ht
    rw [Aj hb,Aj hbt,Aj hb];exact s1 _ _ e
theorem Ks {c:Cs} {H:Hp} {Q:VK} {E:XK} {n:Nat} {a:Addr} {rs:List Nat} (ha:H a=some (.lst (rs.map nV))) (ok:ClOk n rs) (h:∀ H' x,Same H H'->H x=none->ClAt c.Cloth H' x n rs->Q (.ref x) H'):
    ∀ x dx,H x=none->H dx=none->dx≠x->Aw K c [.ref x, .int n, .ref a] (upd (upd H dx (.own x)) x (.ins c.Cloth dx [])) (λ v H2=>v= .non/\Q (.ref x) H2) E:=by
  intro x dx hx hdx ne;have s0:=EJ (o:=HO.ins c.Cloth dx []) (u:= .own x) hx hdx;exact ⟨x,dx,_,_,rfl,Ad, .inr ⟨n,a,rs,rfl,rfl,s0 _ _ ha,ok,λ H' kp at'=>⟨rfl,h H' x (λ b o e=>kp b o (s0 b o e) (Ar e hx)) hx at'⟩⟩⟩
theorem CB {c:Cs} {H:Hp} {R:Addr->Hp->Prop} {E:XK} {n:Nat} {a:Addr} {rs:List Nat} (ha:H a=some (.lst (rs.map nV))) (ok:ClOk n rs) (h:∀ H' x,Same H H'->H x=none->ClAt c.Cloth H' x n rs->R x H'):
    ∀ x dx,H x=none->H dx=none->dx≠x->Aw K c [.ref x, .int n, .ref a] (upd (upd H dx (.own x)) x (.ins c.Cloth dx [])) (λ v H2=>v= .non/\R x H2) E:=by
  intro x dx hx hdx ne;have s0:=EJ (o:=HO.ins c.Cloth dx []) (u:= .own x) hx hdx;exact ⟨x,dx,_,_,rfl,Ad, .inr ⟨n,a,rs,rfl,rfl,s0 _ _ ha,ok,λ H' kp at'=>⟨rfl,h H' x (λ b o e=>kp b o (s0 b o e) (Ar e hx)) hx at'⟩⟩⟩
theorem JF {c:Cs} {H:Hp} {Q:Addr->VK} {E:XK} {e r:V} (hf:ClFit K H e r false) (h:∀ H',Same H H'->E (.ref c.BadCloth) none H'):
    ∀ x dx,H x=none->H dx=none->dx≠x->Aw K c [.ref x,e,r] (upd (upd H dx (.own x)) x (.ins c.Cloth dx [])) (Q x) E:=by
  intro x dx hx hdx ne;have s0:=EJ (o:=HO.ins c.Cloth dx []) (u:= .own x) hx hdx;exact ⟨x,dx,e,r,rfl,Ad, .inl ⟨hf.same s0,λ H' s=>h H' (s0.trans s)⟩⟩
def Co (c:Cs):Sp:=λ vs H Q _=>∃ x n rs,vs=[.ref x]/\ClAt c.Cloth H x n rs/\∀ H' p l,Same H H'->H p=none->H l=none->H' p=some (.tup [nV n, .ref l])->H' l=some (.lst (rs.map nV))->Q (.ref p) H'
abbrev BE:Stmt:=AC (top 25) 1
theorem E7:FnScope ["self"] ["self"] (Ah BE):=⟨rfl,rfl,rfl,by decide +kernel,rfl,by decide +kernel,by decide +kernel⟩
theorem EZ {f:Addr} {fd:FuncData} (F:Fun K "told" "Cloth.told" BE f fd) (T:Txt K mg c):FnOk P w K mg base CX0 1 f fd ["self"] (Co c):=by
  refine F.ok E7 (λ vs H Q E h=> ?_) (λ cdv A outer s H vs Q E hr h=> ?_)
  · obtain ⟨x,n,rs,rfl,_⟩:=h;rfl
  · obtain ⟨x,n,rs,rfl,⟨dx,t,h1,h2⟩,k⟩:=h;refine ⟨_,(Ai (Aq (AH (Aa (Gt (K:=K) (pv 0) rfl) (Aa (Fk (Me (K:=K)) rfl (T.own _ (by decide)) EE (Aa (Gt (K:=K) (pv 0) rfl) Ac)) Ac))))),?_⟩;walk_at "w";refine ⟨_,_,_,_,_,rfl,h1,T.kd_Cloth.cl,T.na_Cloth_width,rfl,?_⟩;walk_at "w";refine ⟨_,_,_,_,_,rfl,h1,T.kd_Cloth.cl,T.na_Cloth_rows,rfl,?_⟩;walk_at "w";refine GU (SqT.of h2) λ l hl=> ?_;walk_at "w";intro p hp;refine k _ p l ((Ae hl).trans (Ae hp)) ((Ae hl).free hp) hl Ad ?_;rw [Aj (Ar Ad hp),Ad]
def AW (c:Cs):Sp:=λ vs H Q _=>∃ x n rs,vs=[.ref x]/\ClAt c.Cloth H x n rs/\Q (nV n) H
abbrev BI:Stmt:=AC (top 25) 2
theorem E5:FnScope ["self"] ["self"] (Ah BI):=⟨rfl,rfl,rfl,by decide +kernel,rfl,by decide +kernel,by decide +kernel⟩
theorem Fb {f:Addr} {fd:FuncData} (F:Fun K "ends" "Cloth.ends" BI f fd) (T:Txt K mg c):FnOk P w K mg base CX0 1 f fd ["self"] (AW c):=by
  refine F.ok E5 (λ vs H Q E h=> ?_) (λ cdv A outer s H vs Q E hr h=> ?_)
  · obtain ⟨x,n,rs,rfl,_⟩:=h;rfl
  · obtain ⟨x,n,rs,rfl,⟨dx,t,h1,h2⟩,k⟩:=h;refine ⟨_,(Ai (Aq (Gt (K:=K) (pv 0) rfl))),?_⟩;walk_at "w";exact ⟨_,_,_,_,_,rfl,h1,T.kd_Cloth.cl,T.na_Cloth_width,rfl,k⟩
def Bj (c:Cs):Sp:=λ vs H Q _=>∃ x n rs,vs=[.ref x]/\ClAt c.Cloth H x n rs/\Q (nV rs.length) H
abbrev Bt:Stmt:=AC (top 25) 3
theorem Eo:FnScope ["self"] ["self"] (Ah Bt):=⟨rfl,rfl,rfl,by decide +kernel,rfl,by decide +kernel,by decide +kernel⟩
theorem EF {f:Addr} {fd:FuncData} (F:Fun K "picks" "Cloth.picks" Bt f fd) (T:Txt K mg c):FnOk P w K mg base CX0 1 f fd ["self"] (Bj c):=by
  refine F.ok Eo (λ vs H Q E h=> ?_) (λ cdv A outer s H vs Q E hr h=> ?_)
  · obtain ⟨x,n,rs,rfl,_⟩:=h;rfl
  · obtain ⟨x,n,rs,rfl,⟨dx,t,h1,h2⟩,k⟩:=h;refine ⟨_,(Ai (Aq (Al (CF (K:=K)) rfl (T.own _ (by decide)) boot_len (Aa (Gt (K:=K) (pv 0) rfl) Ac)))),?_⟩;walk_at "w";refine ⟨_,_,_,_,_,rfl,h1,T.kd_Cloth.cl,T.na_Cloth_rows,rfl,?_⟩;walk_at "w";refine KA (SqT.of h2) ?_;rw [List.length_map];exact k
theorem HF (n:Nat) (G:Nat->Nat):((List.range n).map λ i=>((G i:Nat):Int)).map V.int=((List.range n).map G).map nV:=by
  rw [List.map_map,List.map_map];rfl
theorem Kv (a b:Nat):decide ((a:Int)=(b:Int))=decide (a=b):=decide_eq_decide.mpr Int.ofNat_inj
def BS (c:Cs):Sp:=λ vs H Q _=>∃ x n rs,∃ k:Nat,vs=[.ref x,nV k]/\ClAt c.Cloth H x n rs/\1<=k/\k<=rs.length/\Q (nV (rs.getD (k - 1) 0)) H
abbrev Bf:Stmt:=AC (top 25) 4
theorem DN:FnScope ["self","pick"] ["self","pick"] (Ah Bf):=⟨rfl,rfl,rfl,by decide +kernel,rfl,by decide +kernel,by decide +kernel⟩
theorem DQ {f:Addr} {fd:FuncData} (F:Fun K "row_at" "Cloth.row_at" Bf f fd) (T:Txt K mg c):FnOk P w K mg base CX0 1 f fd ["self","pick"] (BS c):=by
  refine F.ok DN (λ vs H Q E h=> ?_) (λ cdv A outer s H vs Q E hr h=> ?_)
  · obtain ⟨x,n,rs,k,rfl,_⟩:=h;rfl
  · obtain ⟨x,n,rs,k,rfl,⟨dx,t,h1,h2⟩,k1,k2,q⟩:=h;refine ⟨_,(Ai (Aq (A9 (HH (K:=K)) (Gt (K:=K) (pv 0) rfl) (Ak F0 (pv 1) Af) (λ _ _=>rfl)))),?_⟩;walk_at "w";refine ⟨_,_,_,_,_,rfl,h1,T.kd_Cloth.cl,T.na_Cloth_rows,rfl,?_⟩;walk_at "w";rw [show ((k:Nat):Int) - 1=((k - 1:Nat):Int) by omega];refine F4 (SqT.of h2) (Gf (by omega) (by omega)) ?_;rw [Int.toNat_natCast];exact q
abbrev Cl:=Nat × List Nat
abbrev cl0:Cl:=(0,[])
def ClsAt (c:Cs) (H:Hp) (a:Addr) (cs:List Cl):Prop:=∃ vs:List V,H a=some (.lst vs)/\vs.length=cs.length/\∀ i,i<cs.length->∃ x,vs.getD i .non= .ref x/\ClAt c.Cloth H x (cs.getD i cl0).1 (cs.getD i cl0).2
theorem ClsAt.same {c:Cs} {H H':Hp} {a:Addr} {cs:List Cl} (h:ClsAt c H a cs) (s:Same H H'):ClsAt c H' a cs:=by
  obtain ⟨vs,h1,h2,h3⟩:=h;refine ⟨vs,s _ _ h1,h2,λ i hi=> ?_⟩;obtain ⟨x,e,C⟩:=h3 i hi;exact ⟨x,e,C.same s⟩
def Bl (cs:List Cl):Bool:=(List.range cs.length).all λ i=>decide ((cs.getD i cl0).1=(cs.getD 0 cl0).1)&&decide ((cs.getD i cl0).2.length=(cs.getD 0 cl0).2.length)
theorem Gj {cs:List Cl} (h:Bl cs=true) {i:Nat} (hi:i<cs.length):(cs.getD i cl0).1=(cs.getD 0 cl0).1/\(cs.getD i cl0).2.length=(cs.getD 0 cl0).2.length:=by
  have:=List.all_eq_true.mp h i (List.mem_range.mpr hi);simpa using this
def BW (c:Cs):Sp:=λ vs H Q E=>∃ a cs,vs=[.ref a]/\ClsAt c H a cs/\0<cs.length/\cs.length<=10/\(Bl cs=true->∀ H',Same H H'->Q .non H')/\(Bl cs=false->∀ H',Same H H'->E (.ref c.BadCloth) none H')
abbrev Be:Stmt:=top 27
theorem sc_need_at_once:FnScope ["cloths","ends","picks"] ["cloths"] (Ah Be):=⟨rfl,rfl,rfl,by decide +kernel,rfl,by decide +kernel,by decide +kernel⟩
theorem DL {f:Addr} {fd:FuncData} (F:Fun K "need_at_once" "need_at_once" Be f fd) (T:Txt K mg c) (d_Cloth_ends:Bw P w K mg base c.Cloth "ends" 1 ["self"] (AW c)) (d_Cloth_picks:Bw P w K mg base c.Cloth "picks" 1 ["self"] (Bj c)):FnOk P w K mg base (CXE P w) 2 f fd ["cloths"] (BW c):=by
  refine Fun.okE F sc_need_at_once (λ vs H Q E h=> ?_) (λ cdv A outer s H vs Q E hr h=> ?_)
  · obtain ⟨a,cs,rfl,_⟩:=h;rfl
  · obtain ⟨a,cs,rfl,ca,l0,l1,kq,ke⟩:=h;obtain ⟨vs,ha,lv,el⟩:=id ca;obtain ⟨x,ex,C0⟩:=el 0 l0;obtain ⟨dx,tx,gx,_⟩:=id C0;have hx0:vs[0]?=some (.ref x):=by
      rw [List.getD_eq_getElem?_getD] at ex;cases e:vs[0]? with
      | none=>rw [e] at ex;cases ex
      | some v=>rw [e] at ex;exact congrArg some ex
    refine ⟨_,(Ag (BR (AG Fq (Al (CF (K:=K)) rfl (T.own _ (by decide)) boot_len (Aa (pv 0) Ac)) Af (AE _)) (Ai (Bz T.g_BadCloth T.xi_BadCloth (Aa AJ Ac))) AQ)
      (Ag (An (i:=1) sc_need_at_once.nd rfl (Or.inr rfl) (AL (A9 (BV (K:=K)) (pv 0) Af (λ _ _=>rfl)) d_Cloth_ends hr))
      (Ag (An (i:=2) sc_need_at_once.nd rfl (Or.inr rfl) (AL (A9 (BV (K:=K)) (pv 0) Af (λ _ _=>rfl)) d_Cloth_picks hr))
      (Ai (BR (DA (BO (Al (Lu (K:=K)) rfl (T.own _ (by decide)) FC (Aa (AN (B9 (K:=K) (pv 0)) (λ _ _ _ _=>AM) (λ _ _ _ _=>(G3 (DT Fq (AL (pv 0) d_Cloth_ends hr) (pv 1) (AE _)) (G2 (DT Fq (AL (pv 0) d_Cloth_picks hr) (pv 2) (AE _)))))) Ac)))) (Ai (Bz T.g_BadCloth T.xi_BadCloth (Aa AJ Ac))) AQ))))),?_⟩
    walk_at "w";refine AX (SqL.of ha) ?_;walk_at "w";rw [decide_eq_false (by omega)];walk_at "w";refine A8 (SqL.of ha) (AF (j:=0) hx0) ?_;walk_at "w";refine ⟨_,_,_,rfl,gx,rfl,?_⟩;walk_at "w";refine ⟨x,_,_,rfl,C0,?_⟩;walk_at "w";refine A8 (SqL.of ha) (AF (j:=0) hx0) ?_;walk_at "w";refine ⟨_,_,_,rfl,gx,rfl,?_⟩;walk_at "w";refine ⟨x,_,_,rfl,C0,?_⟩;walk_at "w";refine ⟨a,rfl,⟨_,SqL.of ha⟩,λ D hD=> ?_⟩;refine Gr (G:=λ i=>decide ((cs.getD i cl0).1=(cs.getD 0 cl0).1)&&decide ((cs.getD i cl0).2.length=(cs.getD 0 cl0).2.length)) (AO (SqL.of ha) rfl) hD (by omega) ?_ ?_
    · intro i H' R hi s kk;obtain ⟨y,ey,Cy⟩:=el i (by omega);rw [ey];have Cy:=Cy.same s;obtain ⟨dy,ty,gy,_⟩:=id Cy;walk_at "w";refine ⟨_,_,_,rfl,gy,rfl,?_⟩;walk_at "w";refine ⟨y,_,_,rfl,Cy,?_⟩;walk_at "w";by_cases e1:(cs.getD i cl0).1=(cs.getD 0 cl0).1
      · rw [decide_eq_true e1,Bool.true_and] at kk;rw [decide_eq_true (by omega)];refine FZ ?_;walk_at "w";refine ⟨_,_,_,rfl,gy,rfl,?_⟩;walk_at "w";refine ⟨y,_,_,rfl,Cy,?_⟩;walk_at "w";rw [Kv];exact kk H' (Same.refl _)
      · rw [decide_eq_false e1,Bool.false_and] at kk;rw [decide_eq_false (by omega)];refine EA ?_;exact kk H' (Same.refl _)
    · intro H' s hl;walk_at "w";refine IQ (SqL.of hl) ?_;walk_at "w";rw [lv,List.all_map];have el2:(List.range cs.length).all (id∘λ i=>decide ((cs.getD i cl0).1=(cs.getD 0 cl0).1)&&decide ((cs.getD i cl0).2.length=(cs.getD 0 cl0).2.length))=Bl cs:=rfl;rw [el2];cases hb:Bl cs with
      | false=>
        refine FZ ?_;exact ⟨by decide,ke hb H' s⟩
      | true=>
        refine EA ?_;walk_at "w";exact kq hb H' s
def upN (n row place own:Nat):List Nat:=if place=own then MM.nOf row else if place<own then MM.nOf (2 ^ n - 1) else []
theorem IR {n row place own e:Nat} (hr:row<2 ^ n) (h:e∈upN n row place own):1<=e/\e<=n:=by
  unfold upN at h;split at h
  · obtain ⟨h1,h2⟩:=(MM.nOf_mem _ _).mp h;refine ⟨h1,?_⟩;rcases Nat.lt_or_ge (e - 1) n with z | z
    · omega
    · rw [Nat.testBit_lt_two_pow (Nat.lt_of_lt_of_le hr (Nat.pow_le_pow_right (by decide) z))] at h2;cases h2
  · split at h
    · obtain ⟨h1,h2⟩:=(MM.nOf_mem _ _).mp h;rw [MM.full_bit] at h2;have:=of_decide_eq_true h2;omega
    · cases h
theorem KN {n row place own:Nat} (hr:row<2 ^ n):(upN n row place own).length<=n:=by
  unfold upN;split
  · exact MM.nOf_len hr
  · split
    · exact MM.nOf_len (by have:=Nat.two_pow_pos n;omega)
    · exact Nat.zero_le _
def EM (c:Cs):Sp:=λ vs H Q _=>∃ x n rs,∃ pl p o:Nat,vs=[.ref x,nV pl,nV p,nV o]/\ClAt c.Cloth H x n rs/\ClOk n rs/\1<=p/\p<=rs.length/\∀ H' l,Same H H'->H' l=some (.lst ((upN n (rs.getD (p - 1) 0) pl o).map nV))->Q (.ref l) H'
abbrev Dm:Stmt:=top 28
theorem G0:FnScope ["cloth","place","pick","own"] ["cloth","place","pick","own"] (Ah Dm):=⟨rfl,rfl,rfl,by decide +kernel,rfl,by decide +kernel,by decide +kernel⟩
theorem GW {f:Addr} {fd:FuncData} (F:Fun K "up_ends" "up_ends" Dm f fd) (T:Txt K mg c) (c_numbers_of:AS P w K mg base "numbers_of" 3 ["mask"] CA) (c_mask_to:AS P w K mg base "mask_to" 1 ["most"] CN) (d_Cloth_row_at:Bw P w K mg base c.Cloth "row_at" 1 ["self","pick"] (BS c)) (d_Cloth_ends:Bw P w K mg base c.Cloth "ends" 1 ["self"] (AW c)):FnOk P w K mg base CX0 4 f fd ["cloth","place","pick","own"] (EM c):=by
  refine F.ok G0 (λ vs H Q E h=> ?_) (λ cdv A outer s H vs Q E hr h=> ?_)
  · obtain ⟨x,n,rs,pl,p,o,rfl,_⟩:=h;rfl
  · obtain ⟨x,n,rs,pl,p,o,rfl,cx,ok,p1,p2,k⟩:=h;obtain ⟨dx,tx,gx,_⟩:=id cx;have n2:=ok.n2;have hrow:=ok.lt (rs.getD (p - 1) 0) (Bh (show p - 1<rs.length by omega));have hbig:∀ m,m<2 ^ n->m<2 ^ 900:=λ m hm=>Nat.lt_of_lt_of_le hm (Nat.pow_le_pow_right (by decide) (by omega));refine ⟨_,(Ag (BR (AG Fq (pv 1) (pv 3) (AE _)) (Ai (Aq (Am c_numbers_of hr (Aa (IY (pv 0) d_Cloth_row_at (hr.mono (by decide)) (Aa (pv 2) Ac)) Ac)))) AQ)
      (Ai (Aq (CZ (AG Gb (pv 1) (pv 3) (AE _)) (Am c_numbers_of hr (Aa (Am c_mask_to (hr.mono (by decide)) (Aa (AL (pv 0) d_Cloth_ends (hr.mono (by decide))) Ac)) Ac)) (Ap Ac))))),?_⟩
    walk_at "w";unfold upN at k;by_cases e1:pl=o
    · rw [if_pos e1] at k;rw [decide_eq_true (by omega)];walk_at "w";refine ⟨_,_,_,rfl,gx,rfl,?_⟩;walk_at "w";refine ⟨x,n,rs,p,rfl,cx,p1,p2,?_⟩;walk_at "w";exact ⟨_,rfl,hbig _ hrow,λ H' l s _ g=>k H' l s g⟩
    · rw [if_neg e1] at k;rw [decide_eq_false (by omega)];walk_at "w";by_cases e2:pl<o
      · rw [if_pos e2] at k;rw [decide_eq_true (by omega)];walk_at "w";refine ⟨_,_,_,rfl,gx,rfl,?_⟩;walk_at "w";refine ⟨x,n,rs,rfl,cx,?_⟩;walk_at "w";refine ⟨n,rfl,by omega,?_⟩;walk_at "w";exact ⟨_,rfl,hbig _ (by have:=Nat.two_pow_pos n;omega),λ H' l s _ g=>k H' l s g⟩
      · rw [if_neg e2] at k;rw [decide_eq_false (by omega)];walk_at "w";intro l hl;exact k _ l (Ae hl) Ad
def Ed (es:List Nat) (pl many:Nat):Nat:=MM.mOf (es.map λ e=>(e - 1)*many+pl)
def Cm:Sp:=λ vs H Q _=>∃ a,∃ es:List Nat,∃ pl many:Nat,vs=[.ref a,nV pl,nV many]/\H a=some (.lst (es.map nV))/\es.length<=60/\(∀ e∈es,1<=e/\e<=60)/\1<=pl/\pl<=10/\many<=10/\∀ H',Same H H'->Q (nV (Ed es pl many)) H'
abbrev BD:Stmt:=top 29
theorem EY:FnScope ["ends","place","many"] ["ends","place","many"] (Ah BD):=⟨rfl,rfl,rfl,by decide +kernel,rfl,by decide +kernel,by decide +kernel⟩
theorem EQ {f:Addr} {fd:FuncData} (F:Fun K "whole_ends" "whole_ends" BD f fd) (T:Txt K mg c) (c_mask_of:AS P w K mg base "mask_of" 2 ["numbers"] (Ep K)):FnOk P w K mg base CX0 3 f fd ["ends","place","many"] Cm:=by
  refine F.ok EY (λ vs H Q E h=> ?_) (λ cdv A outer s H vs Q E hr h=> ?_)
  · obtain ⟨a,es,pl,many,rfl,_⟩:=h;rfl
  · obtain ⟨a,es,pl,many,rfl,ha,le,he,h1,h2,h3,k⟩:=h;refine ⟨_,(Ai (Aq (Am c_mask_of hr (Aa (AN (B9 (K:=K) (pv 0)) (λ _ _ _ _=>AM) (λ _ _ _ _=>(Ak AT (Ak Br (Ak F0 (pv 0) Af) (pv 1)) (pv 2)))) Ac)))),?_⟩;walk_at "w";refine ⟨a,rfl,⟨_,SqL.of ha⟩,λ D hD=> ?_⟩;refine BA (G:=λ i=>(((es.getD i 0 - 1)*many+pl:Nat):Int)) (AO (SqL.of ha) rfl) hD (by rw [List.length_map];omega) ?_ ?_
    · intro i H' R hi s kk;have hi':i<es.length:=by simpa using hi
      obtain ⟨a1,a2⟩:=he (es.getD i 0) (Bh hi');rw [Bi hi];walk_at "w";refine Ax (.inl ⟨by omega,by omega⟩) ?_;walk_at "w";rw [show ((es.getD i 0:Nat):Int) - 1=((es.getD i 0 - 1:Nat):Int) by omega,show ((es.getD i 0 - 1:Nat):Int)*((many:Nat):Int)+((pl:Nat):Int)=(((es.getD i 0 - 1)*many+pl:Nat):Int) by push_cast;rfl];exact kk H' (Same.refl _)
    · intro H' s hl;rw [HF,List.length_map] at hl;walk_at "w";refine ⟨false,D,_,rfl,SqL.of hl,λ v hv=> ?_,λ H2 s2=> ?_⟩
      · obtain ⟨i,hi,rfl⟩:=List.mem_map.mp hv;obtain ⟨a1,a2⟩:=he (es.getD i 0) (Bh (List.mem_range.mp hi));have:(es.getD i 0 - 1)*many<=60*10:=Nat.mul_le_mul (by omega) h3;omega
      · have e:=BY (λ e=>(e - 1)*many+pl) es 0;rw [e];exact k H2 (s.trans s2)
def G9 (cs:List Cl) (p o:Nat):Nat:=MM.uOf ((List.range cs.length).map λ i=>Ed (upN (cs.getD i cl0).1 ((cs.getD i cl0).2.getD p 0) (i+1) o) (i+1) cs.length)
def Jx (cs:List Cl):Prop:=∀ i,i<cs.length->ClOk (cs.getD i cl0).1 (cs.getD i cl0).2
def CV (c:Cs):Sp:=λ vs H Q _=>∃ a cs,∃ p o:Nat,vs=[.ref a,nV p,nV o]/\ClsAt c H a cs/\Jx cs/\cs.length<=10/\1<=p/\(∀ i,i<cs.length->p<=(cs.getD i cl0).2.length)/\∀ H',Same H H'->Q (nV (G9 cs (p - 1) o)) H'
abbrev B5:Stmt:=top 30
theorem sc_whole_row:FnScope ["cloths","pick","own","many"] ["cloths","pick","own"] (Ah B5):=⟨rfl,rfl,rfl,by decide +kernel,rfl,by decide +kernel,by decide +kernel⟩
theorem FI {f:Addr} {fd:FuncData} (F:Fun K "whole_row" "whole_row" B5 f fd) (T:Txt K mg c) (c_union_of:AS P w K mg base "union_of" 1 ["masks"] (DE K)) (c_whole_ends:AS P w K mg base "whole_ends" 3 ["ends","place","many"] Cm) (c_up_ends:AS P w K mg base "up_ends" 4 ["cloth","place","pick","own"] (EM c)):FnOk P w K mg base CX0 5 f fd ["cloths","pick","own"] (CV c):=by
  refine F.ok sc_whole_row (λ vs H Q E h=> ?_) (λ cdv A outer s H vs Q E hr h=> ?_)
  · obtain ⟨a,cs,p,o,rfl,_⟩:=h;rfl
  · obtain ⟨a,cs,p,o,rfl,ca,ok,l1,p1,p2,k⟩:=h;obtain ⟨vs,ha,lv,el⟩:=id ca;refine ⟨_,(Ag (An (i:=3) sc_whole_row.nd rfl (Or.inr rfl) (Al (CF (K:=K)) rfl (T.own _ (by decide)) boot_len (Aa (pv 0) Ac)))
      (Ai (Aq (Am c_union_of (hr.mono (by decide)) (Aa (Ez (K:=K) (Jh (K:=K) rfl (T.own _ (by decide)) (Aa (pv 0) Ac)) (λ _ _ _ _=>AM) (λ _ _ _ _=>(Am c_whole_ends (hr.mono (by decide)) (Aa (Am c_up_ends hr (Aa (pv 1) (Aa (pv 0) (Aa (pv 4) (Aa (pv 3) Ac))))) (Aa (pv 0) (Aa (pv 2) Ac)))))) Ac))))),?_⟩
    walk_at "w";refine AX (SqL.of ha) ?_;walk_at "w";refine ⟨false,a,rfl,⟨_,SqL.of ha⟩,λ D hD=> ?_⟩;refine BA (G:=λ i=>((Ed (upN (cs.getD i cl0).1 ((cs.getD i cl0).2.getD (p - 1) 0) (i+1) o) (i+1) cs.length:Nat):Int)) (HL (tp:=false) (SqL.of ha) rfl rfl) hD (by omega) ?_ ?_
    · intro i H' R hi s kk;have hi':i<cs.length:=by omega
      obtain ⟨x,ex,Cx⟩:=el i hi';have okx:=ok i hi';have n2:=okx.n2;rw [ex];walk_at "w";refine ⟨x,_,_,i+1,p,o,rfl,Cx.same s,okx,p1,p2 i hi',λ H3 l s3 g3=> ?_⟩;walk_at "w";rw [lv];have hrow:=okx.lt ((cs.getD i cl0).2.getD (p - 1) 0) (Bh (by have:=p2 i hi';omega));refine ⟨l,_,i+1,cs.length,rfl,g3,Nat.le_trans (KN hrow) n2,λ e he=> ?_,by omega,by omega,l1,λ H4 s4=>kk H4 (s3.trans s4)⟩;obtain ⟨a1,a2⟩:=IR hrow he;omega
    · intro H' s hl;rw [HF,lv] at hl;walk_at "w";refine ⟨false,D,_,rfl,SqL.of hl,λ H2 s2=> ?_⟩;exact k H2 (s.trans s2)
def Bc (cs:List Cl):Nat->List Nat
  | 0=>[]
  | i+1=>Bc cs i++(List.range cs.length).map λ j=>G9 cs i (j+1)
theorem Cj (cs:List Cl):∀ i,(Bc cs i).length=i*cs.length
  | 0=>by simp [Bc]
  | i+1=>by
    show (Bc cs i++_).length=_;rw [List.length_append,Cj cs i,List.length_map,List.length_range,Nat.succ_mul]
def Di (cs:List Cl) (p o t:Nat):Bool:=decide (t%cs.length<o)||(decide (t%cs.length=o)&&((cs.getD o cl0).2.getD p 0).testBit (t / cs.length))
theorem upN_mem {n row pl own e:Nat}:e∈upN n row pl own↔1<=e/\((pl=own/\row.testBit (e - 1)=true)\/(pl<own/\e<=n)):=by
  unfold upN;by_cases h1:pl=own
  · rw [if_pos h1,MM.nOf_mem];constructor
    · rintro ⟨a,b⟩;exact ⟨a, .inl ⟨h1,b⟩⟩
    · rintro ⟨a,b | b⟩
      · exact ⟨a,b.2⟩
      · omega
  · rw [if_neg h1];by_cases h2:pl<own
    · rw [if_pos h2,MM.nOf_mem,MM.full_bit,decide_eq_true_eq];constructor
      · rintro ⟨a,b⟩;exact ⟨a, .inr ⟨h2,by omega⟩⟩
      · rintro ⟨a,b | b⟩
        · exact absurd b.1 h1
        · exact ⟨a,by omega⟩
    · rw [if_neg h2];constructor
      · intro h;cases h
      · rintro ⟨a,b | b⟩
        · exact absurd b.1 h1
        · exact absurd b.1 h2
theorem J2 {cs:List Cl} {n p o t:Nat} (hn:∀ i,i<cs.length->(cs.getD i cl0).1=n) (h0:0<cs.length) (ht:t<n*cs.length):(G9 cs p (o+1)).testBit t=Di cs p o t:=by
  have hd:t / cs.length<n:=by rw [Nat.div_lt_iff_lt_mul h0];exact ht
  have hm:=Nat.mod_lt t h0;unfold G9 Di;rw [MM.uOf_bit,List.any_map,Bool.eq_iff_iff,List.any_eq_true];have one:∀ i,i<cs.length->((Ed (upN (cs.getD i cl0).1 ((cs.getD i cl0).2.getD p 0) (i+1) (o+1)) (i+1) cs.length).testBit t=true↔i=t%cs.length/\(t / cs.length+1)∈upN (cs.getD i cl0).1 ((cs.getD i cl0).2.getD p 0) (i+1) (o+1)):=λ i hi=>by
    unfold Ed;rw [MM.mOf_bit,List.any_map,List.any_eq_true];constructor
    · rintro ⟨e,he,h⟩;have h:(e - 1)*cs.length+(i+1) - 1=t:=of_decide_eq_true h;have e1:=(upN_mem.mp he).1;have h':cs.length*(e - 1)+i=t:=by rw [Nat.mul_comm];omega
      have d1:t / cs.length=e - 1:=by rw [<-h',Nat.mul_add_div h0,Nat.div_eq_of_lt hi,Nat.add_zero]
      have d2:t%cs.length=i:=by rw [<-h',Nat.mul_add_mod,Nat.mod_eq_of_lt hi]
      refine ⟨d2.symm,?_⟩;rw [d1,show e - 1+1=e by omega];exact he
    · rintro ⟨rfl,he⟩;refine ⟨_,he,decide_eq_true ?_⟩;show (t / cs.length+1 - 1)*cs.length+(t%cs.length+1) - 1=t;have:=Nat.div_add_mod t cs.length;rw [Nat.mul_comm] at this;rw [Nat.add_sub_cancel];omega
  rw [Bool.or_eq_true,Bool.and_eq_true,decide_eq_true_eq,decide_eq_true_eq];constructor
  · rintro ⟨i,hi,h⟩;obtain ⟨e,he⟩:=(one i (List.mem_range.mp hi)).mp h;obtain ⟨_,h | h⟩:=upN_mem.mp he
    · refine .inr ⟨by omega,?_⟩;have:i=o:=by omega
      subst this;simpa using h.2
    · exact .inl (by omega)
  · rintro (h | ⟨h1,h2⟩)
    · refine ⟨t%cs.length,List.mem_range.mpr hm,(one _ hm).mpr ⟨rfl,upN_mem.mpr ⟨Nat.le_add_left 1 _, .inr ⟨by omega,?_⟩⟩⟩⟩;rw [hn _ hm];omega
    · refine ⟨t%cs.length,List.mem_range.mpr hm,(one _ hm).mpr ⟨rfl,upN_mem.mpr ⟨Nat.le_add_left 1 _, .inl ⟨by omega,?_⟩⟩⟩⟩;rw [h1];simpa using h2
theorem Hs {cs:List Cl} {n p o:Nat} (hn:∀ i,i<cs.length->(cs.getD i cl0).1=n) (hr:∀ i,i<cs.length->(cs.getD i cl0).2.getD p 0<2 ^ n):G9 cs p o<2 ^ (n*cs.length):=by
  refine Nat.lt_pow_two_of_testBit _ λ t ht=> ?_;unfold G9;rw [MM.uOf_bit,List.any_map,List.any_eq_false];intro i hi;have hi:=List.mem_range.mp hi;show ¬ (Ed (upN (cs.getD i cl0).1 ((cs.getD i cl0).2.getD p 0) (i+1) o) (i+1) cs.length).testBit t=true;unfold Ed;rw [MM.mOf_bit,List.any_map,List.any_eq_true];rintro ⟨e,he,h⟩;have h:(e - 1)*cs.length+(i+1) - 1=t:=of_decide_eq_true h;rw [hn i hi] at he;obtain ⟨a1,a2⟩:=IR (hr i hi) he;have:(e - 1+1)*cs.length<=n*cs.length:=Nat.mul_le_mul_right _ (by omega);rw [Nat.succ_mul] at this;omega
theorem GE {cs:List Cl} {n P:Nat} (hn:∀ i,i<cs.length->(cs.getD i cl0).1=n) (hr:∀ p i,p<P->i<cs.length->(cs.getD i cl0).2.getD p 0<2 ^ n):∀ m,m<=P->∀ r∈Bc cs m,r<2 ^ (n*cs.length)
  | 0,_,r,h=>by cases h
  | m+1,hm,r,h=>by
    rcases List.mem_append.mp h with h | h
    · exact GE hn hr m (by omega) r h
    · obtain ⟨j,hj,rfl⟩:=List.mem_map.mp h;exact Hs hn λ i hi=>hr m i (by omega) hi
def DS (cs:List Cl):Bool:=Bl cs&&decide ((cs.getD 0 cl0).1*cs.length<=60)&&decide ((cs.getD 0 cl0).2.length*cs.length<=60)
def Bu (c:Cs):Sp:=λ vs H Q E=>∃ a cs,vs=[.ref a]/\ClsAt c H a cs/\Jx cs/\0<cs.length/\cs.length<=10/\
  (DS cs=true->∀ H' u,Same H H'->H u=none->ClAt c.Cloth H' u ((cs.getD 0 cl0).1*cs.length) (Bc cs (cs.getD 0 cl0).2.length)->Q (.ref u) H')/\(DS cs=false->∀ H',Same H H'->E (.ref c.BadCloth) none H')
abbrev A6:Stmt:=top 31
theorem sc_woven_at_once:FnScope ["cloths","rows","pick"] ["cloths"] (Ah A6):=⟨rfl,rfl,rfl,by decide +kernel,rfl,by decide +kernel,by decide +kernel⟩
theorem Du {f:Addr} {fd:FuncData} (F:Fun K "woven_at_once" "woven_at_once" A6 f fd) (T:Txt K mg c) (c_need_at_once:Gx P w K mg base "need_at_once" 2 ["cloths"] (BW c)) (c_whole_row:AS P w K mg base "whole_row" 5 ["cloths","pick","own"] (CV c)) (m_Cloth:Hu P w K mg base "Cloth" c.Cloth 4 ["self","ends","rows"] (Aw K c)) (d_Cloth_ends:Bw P w K mg base c.Cloth "ends" 1 ["self"] (AW c)) (d_Cloth_picks:Bw P w K mg base c.Cloth "picks" 1 ["self"] (Bj c)):FnOk P w K mg base (CXE P w) 6 f fd ["cloths"] (Bu c):=by
  refine Fun.okE F sc_woven_at_once (λ vs H Q E h=> ?_) (λ cdv A outer s H vs Q E hr h=> ?_)
  · obtain ⟨a,cs,rfl,_⟩:=h;rfl
  · obtain ⟨a,cs,rfl,ca,ok,l0,l1,kq,ke⟩:=h;obtain ⟨vs,ha,lv,el⟩:=id ca;obtain ⟨x,ex,C0⟩:=el 0 l0;obtain ⟨dx,tx,gx,_⟩:=id C0;have hx0:vs[0]?=some (.ref x):=by
      rw [List.getD_eq_getElem?_getD] at ex;cases e:vs[0]? with
      | none=>rw [e] at ex;cases ex
      | some v=>rw [e] at ex;exact congrArg some ex
    have ok0:=ok 0 l0;have n2:=ok0.n2;have p2:=ok0.p2;refine ⟨_,(Ag (Dc (BB c_need_at_once (hr.mono (by decide)) IT (Aa (pv 0) Ac)))
      (Ag (An (i:=1) sc_woven_at_once.nd rfl (Or.inl rfl) (Ap Ac))
      (Ag (Bq PassesOwn.leaving rfl (Dz rfl (T.own _ (by decide)) (Aa Af (Aa (Ak AT (AL (A9 (BV (K:=K)) (pv 0) Af (λ _ _=>rfl)) d_Cloth_picks (hr.mono (by decide))) Af) Ac))) (AU (i:=2) sc_woven_at_once.nd rfl (Or.inr rfl)) (Ai (Dc (LD (K:=K) PySem.F.plainAttrs_list PySem.F.slot_list_extend PySem.F.type_list_extend Il (pv 1) (Aa (AN (Dz rfl (T.own _ (by decide)) (Aa Af (Aa (Ak AT (Al (CF (K:=K)) rfl (T.own _ (by decide)) boot_len (Aa (pv 0) Ac)) Af) Ac))) (λ _ _ _ _=>AM) (λ _ _ _ _=>(Am c_whole_row hr (Aa (pv 1) (Aa (pv 2) (Aa (pv 0) Ac)))))) Ac)))))
      (Ai (Aq (AI m_Cloth hr IT (Aa (Ak Br (AL (A9 (BV (K:=K)) (pv 0) Af (λ _ _=>rfl)) d_Cloth_ends (hr.mono (by decide))) (Al (CF (K:=K)) rfl (T.own _ (by decide)) boot_len (Aa (pv 0) Ac))) (Aa (pv 1) Ac)))))))),?_⟩
    walk_at "w";refine ⟨a,cs,rfl,ca,l0,l1,λ like H1 s1=> ?_,λ bad H1 s1=>ke (by unfold DS;rw [bad];rfl) H1 s1⟩;have hL:∀ i,i<cs.length->(cs.getD i cl0).1=(cs.getD 0 cl0).1/\(cs.getD i cl0).2.length=(cs.getD 0 cl0).2.length:=λ i hi=>Gj like hi;generalize hN:(cs.getD 0 cl0).1=N at*;generalize hP:(cs.getD 0 cl0).2=R0 at*;walk_at "w";intro q hq;have s2:=Ae (o:=HO.lst []) hq;have g2:upd H1 q (HO.lst []) q=some (.lst ((Bc cs 0).map nV)):=Ad;generalize upd H1 q (HO.lst [])=H2 at s2 g2 ⊢;have s12:=s1.trans s2;walk_at "w";refine A8 (SqL.of (s12 _ _ ha)) (AF (j:=0) hx0) ?_;walk_at "w";refine ⟨_,_,_,rfl,s12 _ _ gx,rfl,?_⟩;walk_at "w";refine ⟨x,_,_,rfl,C0.same s12,?_⟩;walk_at "w";refine ⟨_,_,rfl,⟨by decide,by decide,by omega,by omega⟩,?_⟩;rw [show (((R0.length:Nat):Int)+1 - 1).toNat=R0.length by omega];refine Bv (H0:=H1) (GH (n:=R0.length)) (λ i σ H3=>∃ u,σ=[some (.ref a),some (.ref q),u]/\Same H1 H3/\H3 q=some (.lst ((Bc cs i).map nV))/\i<=R0.length) ⟨_,rfl,s2,g2,Nat.zero_le _⟩ (λ i σ H3 ⟨_,_,s,_⟩=>s) ?_ ?_
    · rintro i σ H' H3 hi ⟨u,rfl,s',g',_⟩ s3;have sH:=s'.trans s3;have sH0:=s1.trans sH;rw [show (1:Int)+((i:Nat):Int)=((i+1:Nat):Int) by omega];walk_at "w";refine tyL (SqL.of (s3 _ _ g')) ?_;walk_at "w";refine AX (SqL.of (sH0 _ _ ha)) ?_;walk_at "w";refine ⟨_,_,rfl,⟨by decide,by decide,by omega,by omega⟩,λ D hD=> ?_⟩;rw [show (((vs.length:Nat):Int)+1 - 1).toNat=cs.length by omega];refine BA (G:=λ j=>((G9 cs i (j+1):Nat):Int)) (Dn rfl) hD (by omega) ?_ ?_
      · intro j H4 R hj s4 kk;rw [show (1:Int)+((j:Nat):Int)=((j+1:Nat):Int) by omega];walk_at "w";refine ⟨a,cs,i+1,j+1,rfl,ca.same (sH0.trans s4),ok,l1,by omega,λ i' hi'=> ?_,λ H5 s5=> ?_⟩
        · rw [(hL i' hi').2];omega
        · rw [show i+1 - 1=i by omega];exact kk H5 s5
      intro H4 s4 hl4;rw [HF] at hl4;walk_at "w";have g4:=s4 _ _ (s3 _ _ g');have lg:(Bc cs i).length<=600:=by
        rw [Cj];exact Nat.mul_le_mul (by omega:i<=60) l1
      refine LZ g4 hl4 (by simp;omega) ?_;walk_at "w";refine ⟨_,rfl,λ b o e=> ?_,?_,by omega⟩
      · rw [Aj (λ z=>by rw [z,hq] at e;cases e)];exact s4 _ _ (sH _ _ e)
      · rw [Ad, <-List.map_append];rfl
    · rintro σ H3 ⟨u,rfl,s3,g3,_⟩;have s03:=s1.trans s3;walk_at "w";refine IZ ?_;walk_at "w";refine A8 (SqL.of (s03 _ _ ha)) (AF (j:=0) hx0) ?_;walk_at "w";refine ⟨_,_,_,rfl,s03 _ _ gx,rfl,?_⟩;walk_at "w";refine ⟨x,_,_,rfl,C0.same s03,?_⟩;walk_at "w";refine AX (SqL.of (s03 _ _ ha)) ?_;walk_at "w";rw [lv];refine Ax (.inl ⟨by omega,by omega⟩) ?_;rw [show ((N:Nat):Int)*((cs.length:Nat):Int)=((N*cs.length:Nat):Int) by push_cast;rfl];walk_at "w";have lr:=Cj cs R0.length;have n1:=ok0.n1;have p1:=ok0.p1;have m1:1<=N*cs.length:=Nat.mul_pos n1 l0;have m2:1<=R0.length*cs.length:=Nat.mul_pos p1 l0;have wf:DS cs=(decide (N*cs.length<=60)&&decide (R0.length*cs.length<=60)):=by
        unfold DS;rw [like,hN,hP,Bool.true_and]
      by_cases hw:N*cs.length<=60
      · by_cases hh:R0.length*cs.length<=60
        · have okg:ClOk (N*cs.length) (Bc cs R0.length):=⟨m1,hw,by omega,by omega,GE (P:=R0.length) (λ i hi=>(hL i hi).1) (λ p i hp hi=>by
            have:=(ok i hi).lt ((cs.getD i cl0).2.getD p 0) (Bh (by rw [(hL i hi).2];exact hp));rw [(hL i hi).1] at this;exact this) _ (Nat.le_refl _)⟩
          exact Ks g3 okg λ H4 v s4 hv C4=>kq (by rw [wf,decide_eq_true hw,decide_eq_true hh];rfl) H4 v (s03.trans s4) (s03.free hv) C4
        · exact JF (.many m1 hw g3 (.inr (by rw [List.length_map,lr];omega))) λ H4 s4=>ke (by rw [wf,decide_eq_false hh,Bool.and_false]) H4 (s03.trans s4)
      · refine JF (.ends ⟨_, .int _⟩ ?_) λ H4 s4=>ke (by rw [wf,decide_eq_false hw,Bool.false_and]) H4 (s03.trans s4);show (decide ((1:Int)<=(N*cs.length:Nat))&&decide (((N*cs.length:Nat):Int)<=60))=false;rw [Bool.and_eq_false_iff,decide_eq_false_iff_not,decide_eq_false_iff_not];omega
def Dy (x k:Int):Int:=(x%1000000007+7919*k+13)*(x%1000000007+7919*k+13)%1000000007*48271%2147483647
def Cv:Sp:=λ vs H Q _=>∃ x k:Int,vs=[.int x, .int k]/\(0<=k/\k<=1000)/\Q (.int (Dy x k)) H
abbrev BG:Stmt:=top 33
theorem sc__law_mixed:FnScope ["_law_cell","_law_k"] ["_law_cell","_law_k"] (Ah BG):=⟨rfl,rfl,rfl,by decide +kernel,rfl,by decide +kernel,by decide +kernel⟩
theorem EN {f:Addr} {fd:FuncData} (F:Fun K "_law_mixed" "_law_mixed" BG f fd) (T:Txt K mg c):FnOk P w K mg base CX0 1 f fd ["_law_cell","_law_k"] Cv:=by
  refine F.ok sc__law_mixed (λ vs H Q E h=> ?_) (λ cdv A outer s H vs Q E hr h=> ?_)
  · obtain ⟨x,k,rfl,_⟩:=h;rfl
  · obtain ⟨x,k,rfl,hk,q⟩:=h;refine ⟨_,(Ag (An (i:=0) sc__law_mixed.nd rfl (Or.inl rfl) (Ak AT (Ak AT (Ak A0 (pv 0) Af) (Ak Br Af (pv 1))) Af))
      (Ai (Aq (Ak A0 (Ak Br (Ak A0 (Ak Br (pv 0) (pv 0)) Af) Af) Af)))),?_⟩
    have b1:=Int.emod_nonneg x (show (1000000007:Int)≠0 by decide);have b2:=Int.emod_lt_of_pos x (show (0:Int)<1000000007 by decide);walk_at "w";refine Ax (by decide) ?_;walk_at "w";refine Ax (.inl ⟨by decide,by decide⟩) ?_;walk_at "w";refine Ax (.inl ⟨?_,?_⟩) ?_
    · show -(2 ^ 64)<x%1000000007+7919*k+13;omega
    · show x%1000000007+7919*k+13<2 ^ 64;omega
    walk_at "w";refine Ax (by decide) ?_;walk_at "w";refine Ax (.inr ⟨by decide,by decide⟩) ?_;walk_at "w";refine Ax (by decide) ?_;exact q
def CC (c:Cs):Sp:=λ vs H Q _=>∃ a,vs=[.ref a]/\H a=some (E4 a c.BadCloth none)/\∀ H' l,Same H H'->H l=none->H' l=some (.lst [.str "cloth"])->Q (.ref l) H'
abbrev BM:Stmt:=top 34
theorem sc__law_kinds:FnScope ["_law_error","_law_kinds_here"] ["_law_error"] (Ah BM):=⟨rfl,rfl,rfl,by decide +kernel,rfl,by decide +kernel,by decide +kernel⟩
theorem ET {f:Addr} {fd:FuncData} (F:Fun K "_law_kinds" "_law_kinds" BM f fd) (T:Txt K mg c):FnOk P w K mg base CX0 1 f fd ["_law_error"] (CC c):=by
  refine F.ok sc__law_kinds (λ vs H Q E h=> ?_) (λ cdv A outer s H vs Q E hr h=> ?_)
  · obtain ⟨a,rfl,_⟩:=h;rfl
  · obtain ⟨a,rfl,ha,k⟩:=h;refine ⟨_,(Ag (An (i:=1) sc__law_kinds.nd rfl (Or.inl rfl) (Ap (Aa (AH (Aa AJ (Aa (Al (Ba (K:=K)) rfl (T.own _ (by decide)) boot_isinstance (Aa (pv 0) (Aa (Dh T.g_BadRow) Ac))) Ac))) (Aa (AH (Aa AJ (Aa (Al (Ba (K:=K)) rfl (T.own _ (by decide)) boot_isinstance (Aa (pv 0) (Aa (Dh T.g_BadWord) Ac))) Ac))) Ac))))
      (Ag (An (i:=1) sc__law_kinds.nd rfl (Or.inl rfl) (Ak (Es (K:=K)) (pv 1) (Ap (Aa (AH (Aa AJ (Aa (Al (Ba (K:=K)) rfl (T.own _ (by decide)) boot_isinstance (Aa (pv 0) (Aa (Dh T.g_TooMany) Ac))) Ac))) (Aa (AH (Aa AJ (Aa (Al (Ba (K:=K)) rfl (T.own _ (by decide)) boot_isinstance (Aa (pv 0) (Aa (Dh T.g_NotPlain) Ac))) Ac))) Ac)))))
      (Ag (An (i:=1) sc__law_kinds.nd rfl (Or.inl rfl) (Ak (Es (K:=K)) (pv 1) (Ap (Aa (AH (Aa AJ (Aa (Al (Ba (K:=K)) rfl (T.own _ (by decide)) boot_isinstance (Aa (pv 0) (Aa (Dh T.g_NotGrown) Ac))) Ac))) (Aa (AH (Aa AJ (Aa (Al (Ba (K:=K)) rfl (T.own _ (by decide)) boot_isinstance (Aa (pv 0) (Aa (Dh T.g_BadDraft) Ac))) Ac))) Ac)))))
      (Ag (An (i:=1) sc__law_kinds.nd rfl (Or.inl rfl) (Ak (Es (K:=K)) (pv 1) (Ap (Aa (AH (Aa AJ (Aa (Al (Ba (K:=K)) rfl (T.own _ (by decide)) boot_isinstance (Aa (pv 0) (Aa (Dh T.g_BadCloth) Ac))) Ac))) (Aa (AH (Aa AJ (Aa (Al (Ba (K:=K)) rfl (T.own _ (by decide)) boot_isinstance (Aa (pv 0) (Aa (Dh T.g_OutOfPlace) Ac))) Ac))) Ac)))))
      (Ag (An (i:=1) sc__law_kinds.nd rfl (Or.inl rfl) (Ak (Es (K:=K)) (pv 1) (Ap (Aa (AH (Aa AJ (Aa (JQ (Al (Ba (K:=K)) rfl (T.own _ (by decide)) boot_isinstance (Aa (pv 0) (Aa (Ht rfl (T.own _ (by decide)) DR) Ac)))) Ac))) Ac))))
      (Ai (Aq (Ez (K:=K) (B9 (K:=K) (pv 1)) (λ _ _ _ _=>(F7 (BO (pv 1)))) (λ _ _ _ _=>(pv 0)))))))))),?_⟩
    walk_at "w";refine AY ((Same.refl H) _ _ ha) T.xk_BadCloth T.ki_BadCloth_BadRow ?_;walk_at "w";intro t_row ht_row;have z1:=Ae (o:=HO.tup [V.str "row",V.bl false]) ht_row;have g_t_row:upd H t_row (HO.tup [V.str "row",V.bl false]) t_row=_:=Ad;generalize upd H t_row (HO.tup [V.str "row",V.bl false])=H1 at z1 g_t_row ⊢;have y1:Same H H1:=(Same.refl H).trans z1;walk_at "w";refine AY (y1 _ _ ha) T.xk_BadCloth T.ki_BadCloth_BadWord ?_;walk_at "w";intro t_word ht_word;have z2:=Ae (o:=HO.tup [V.str "word",V.bl false]) ht_word;have g_t_word:upd H1 t_word (HO.tup [V.str "word",V.bl false]) t_word=_:=Ad;generalize upd H1 t_word (HO.tup [V.str "word",V.bl false])=H2 at z2 g_t_word ⊢;have y2:Same H H2:=y1.trans z2;walk_at "w";intro l0 hl0;have z3:=Ae (o:=HO.lst [V.ref t_row,V.ref t_word]) hl0;have g_l0:upd H2 l0 (HO.lst [V.ref t_row,V.ref t_word]) l0=_:=Ad;generalize upd H2 l0 (HO.lst [V.ref t_row,V.ref t_word])=H3 at z3 g_l0 ⊢;have y3:Same H H3:=y2.trans z3;walk_at "w";refine AY (y3 _ _ ha) T.xk_BadCloth T.ki_BadCloth_TooMany ?_;walk_at "w";intro t_many ht_many;have z4:=Ae (o:=HO.tup [V.str "many",V.bl false]) ht_many;have g_t_many:upd H3 t_many (HO.tup [V.str "many",V.bl false]) t_many=_:=Ad;generalize upd H3 t_many (HO.tup [V.str "many",V.bl false])=H4 at z4 g_t_many ⊢;have y4:Same H H4:=y3.trans z4;walk_at "w";refine AY (y4 _ _ ha) T.xk_BadCloth T.ki_BadCloth_NotPlain ?_;walk_at "w";intro t_plain ht_plain;have z5:=Ae (o:=HO.tup [V.str "plain",V.bl false]) ht_plain;have g_t_plain:upd H4 t_plain (HO.tup [V.str "plain",V.bl false]) t_plain=_:=Ad;generalize upd H4 t_plain (HO.tup [V.str "plain",V.bl false])=H5 at z5 g_t_plain ⊢;have y5:Same H H5:=y4.trans z5;walk_at "w";intro l1 hl1;have z6:=Ae (o:=HO.lst [V.ref t_many,V.ref t_plain]) hl1;have g_l1:upd H5 l1 (HO.lst [V.ref t_many,V.ref t_plain]) l1=_:=Ad;generalize upd H5 l1 (HO.lst [V.ref t_many,V.ref t_plain])=H6 at z6 g_l1 ⊢;have y6:Same H H6:=y5.trans z6;walk_at "w";refine CO (SqL.of (z6 _ _ (z5 _ _ (z4 _ _ g_l0)))) (SqL.of g_l1) (by simp) λ m1 hm1=> ?_;have z7:=Ae (o:=HO.lst ([V.ref t_row,V.ref t_word]++[V.ref t_many,V.ref t_plain])) hm1;have g_m1:upd H6 m1 (HO.lst ([V.ref t_row,V.ref t_word]++[V.ref t_many,V.ref t_plain])) m1=some (.lst [V.ref t_row,V.ref t_word,V.ref t_many,V.ref t_plain]):=Ad;generalize upd H6 m1 (HO.lst ([V.ref t_row,V.ref t_word]++[V.ref t_many,V.ref t_plain]))=H7 at z7 g_m1 ⊢;have y7:Same H H7:=y6.trans z7;walk_at "w";refine AY (y7 _ _ ha) T.xk_BadCloth T.ki_BadCloth_NotGrown ?_;walk_at "w";intro t_grown ht_grown;have z8:=Ae (o:=HO.tup [V.str "grown",V.bl false]) ht_grown;have g_t_grown:upd H7 t_grown (HO.tup [V.str "grown",V.bl false]) t_grown=_:=Ad;generalize upd H7 t_grown (HO.tup [V.str "grown",V.bl false])=H8 at z8 g_t_grown ⊢;have y8:Same H H8:=y7.trans z8;walk_at "w";refine AY (y8 _ _ ha) T.xk_BadCloth T.ki_BadCloth_BadDraft ?_;walk_at "w";intro t_draft ht_draft;have z9:=Ae (o:=HO.tup [V.str "draft",V.bl false]) ht_draft;have g_t_draft:upd H8 t_draft (HO.tup [V.str "draft",V.bl false]) t_draft=_:=Ad;generalize upd H8 t_draft (HO.tup [V.str "draft",V.bl false])=H9 at z9 g_t_draft ⊢;have y9:Same H H9:=y8.trans z9;walk_at "w";intro l2 hl2;have z10:=Ae (o:=HO.lst [V.ref t_grown,V.ref t_draft]) hl2;have g_l2:upd H9 l2 (HO.lst [V.ref t_grown,V.ref t_draft]) l2=_:=Ad;generalize upd H9 l2 (HO.lst [V.ref t_grown,V.ref t_draft])=H10 at z10 g_l2 ⊢;have y10:Same H H10:=y9.trans z10;walk_at "w";refine CO (SqL.of (z10 _ _ (z9 _ _ (z8 _ _ g_m1)))) (SqL.of g_l2) (by simp) λ m2 hm2=> ?_;have z11:=Ae (o:=HO.lst ([V.ref t_row,V.ref t_word,V.ref t_many,V.ref t_plain]++[V.ref t_grown,V.ref t_draft])) hm2;have g_m2:upd H10 m2 (HO.lst ([V.ref t_row,V.ref t_word,V.ref t_many,V.ref t_plain]++[V.ref t_grown,V.ref t_draft])) m2=some (.lst [V.ref t_row,V.ref t_word,V.ref t_many,V.ref t_plain,V.ref t_grown,V.ref t_draft]):=Ad;generalize upd H10 m2 (HO.lst ([V.ref t_row,V.ref t_word,V.ref t_many,V.ref t_plain]++[V.ref t_grown,V.ref t_draft]))=H11 at z11 g_m2 ⊢;have y11:Same H H11:=y10.trans z11;walk_at "w";refine AY (y11 _ _ ha) T.xk_BadCloth T.ki_BadCloth_BadCloth ?_;walk_at "w";intro t_cloth ht_cloth;have z12:=Ae (o:=HO.tup [V.str "cloth",V.bl true]) ht_cloth;have g_t_cloth:upd H11 t_cloth (HO.tup [V.str "cloth",V.bl true]) t_cloth=_:=Ad;generalize upd H11 t_cloth (HO.tup [V.str "cloth",V.bl true])=H12 at z12 g_t_cloth ⊢;have y12:Same H H12:=y11.trans z12;walk_at "w";refine AY (y12 _ _ ha) T.xk_BadCloth T.ki_BadCloth_OutOfPlace ?_;walk_at "w";intro t_place ht_place;have z13:=Ae (o:=HO.tup [V.str "place",V.bl false]) ht_place;have g_t_place:upd H12 t_place (HO.tup [V.str "place",V.bl false]) t_place=_:=Ad;generalize upd H12 t_place (HO.tup [V.str "place",V.bl false])=H13 at z13 g_t_place ⊢;have y13:Same H H13:=y12.trans z13;walk_at "w";intro l3 hl3;have z14:=Ae (o:=HO.lst [V.ref t_cloth,V.ref t_place]) hl3;have g_l3:upd H13 l3 (HO.lst [V.ref t_cloth,V.ref t_place]) l3=_:=Ad;generalize upd H13 l3 (HO.lst [V.ref t_cloth,V.ref t_place])=H14 at z14 g_l3 ⊢;have y14:Same H H14:=y13.trans z14;walk_at "w";refine CO (SqL.of (z14 _ _ (z13 _ _ (z12 _ _ g_m2)))) (SqL.of g_l3) (by simp) λ m3 hm3=> ?_;have z15:=Ae (o:=HO.lst ([V.ref t_row,V.ref t_word,V.ref t_many,V.ref t_plain,V.ref t_grown,V.ref t_draft]++[V.ref t_cloth,V.ref t_place])) hm3;have g_m3:upd H14 m3 (HO.lst ([V.ref t_row,V.ref t_word,V.ref t_many,V.ref t_plain,V.ref t_grown,V.ref t_draft]++[V.ref t_cloth,V.ref t_place])) m3=some (.lst [V.ref t_row,V.ref t_word,V.ref t_many,V.ref t_plain,V.ref t_grown,V.ref t_draft,V.ref t_cloth,V.ref t_place]):=Ad;generalize upd H14 m3 (HO.lst ([V.ref t_row,V.ref t_word,V.ref t_many,V.ref t_plain,V.ref t_grown,V.ref t_draft]++[V.ref t_cloth,V.ref t_place]))=H15 at z15 g_m3 ⊢;have y15:Same H H15:=y14.trans z15;walk_at "w";refine IC (y15 _ _ ha) T.xk_BadCloth T.ki_BadCloth_ValueError ?_;walk_at "w";intro t_other ht_other;have z16:=Ae (o:=HO.tup [V.str "other",V.bl (!true)]) ht_other;have g_t_other:upd H15 t_other (HO.tup [V.str "other",V.bl (!true)]) t_other=some (.tup [V.str "other",V.bl false]):=Ad;generalize upd H15 t_other (HO.tup [V.str "other",V.bl (!true)])=H16 at z16 g_t_other ⊢;have y16:Same H H16:=y15.trans z16;walk_at "w";intro l4 hl4;have z17:=Ae (o:=HO.lst [V.ref t_other]) hl4;have g_l4:upd H16 l4 (HO.lst [V.ref t_other]) l4=_:=Ad;generalize upd H16 l4 (HO.lst [V.ref t_other])=H17 at z17 g_l4 ⊢;have y17:Same H H17:=y16.trans z17;walk_at "w";refine CO (SqL.of (z17 _ _ (z16 _ _ g_m3))) (SqL.of g_l4) (by simp) λ m4 hm4=> ?_;have z18:=Ae (o:=HO.lst ([V.ref t_row,V.ref t_word,V.ref t_many,V.ref t_plain,V.ref t_grown,V.ref t_draft,V.ref t_cloth,V.ref t_place]++[V.ref t_other])) hm4;have g_m4:upd H17 m4 (HO.lst ([V.ref t_row,V.ref t_word,V.ref t_many,V.ref t_plain,V.ref t_grown,V.ref t_draft,V.ref t_cloth,V.ref t_place]++[V.ref t_other])) m4=some (.lst [V.ref t_row,V.ref t_word,V.ref t_many,V.ref t_plain,V.ref t_grown,V.ref t_draft,V.ref t_cloth,V.ref t_place,V.ref t_other]):=Ad;generalize upd H17 m4 (HO.lst ([V.ref t_row,V.ref t_word,V.ref t_many,V.ref t_plain,V.ref t_grown,V.ref t_draft,V.ref t_cloth,V.ref t_place]++[V.ref t_other]))=H18 at z18 g_m4 ⊢;have y18:Same H H18:=y17.trans z18;walk_at "w";refine ⟨m4,rfl,⟨_,SqL.of g_m4⟩,λ D hD=> ?_⟩;have pr:∀ i,i<9->∃ b,[V.ref t_row,V.ref t_word,V.ref t_many,V.ref t_plain,V.ref t_grown,V.ref t_draft,V.ref t_cloth,V.ref t_place,V.ref t_other].getD i V.non= .ref b/\H18 b=some (.tup [([(V.str "row",V.bl false),(V.str "word",V.bl false),(V.str "many",V.bl false),(V.str "plain",V.bl false),(V.str "grown",V.bl false),(V.str "draft",V.bl false),(V.str "cloth",V.bl true),(V.str "place",V.bl false),(V.str "other",V.bl false)].getD i (V.non,V.non)).1,([(V.str "row",V.bl false),(V.str "word",V.bl false),(V.str "many",V.bl false),(V.str "plain",V.bl false),(V.str "grown",V.bl false),(V.str "draft",V.bl false),(V.str "cloth",V.bl true),(V.str "place",V.bl false),(V.str "other",V.bl false)].getD i (V.non,V.non)).2]):=by
      intro i hi
      match i,hi with
      | 0,_=>exact ⟨t_row,rfl,(z18 _ _ (z17 _ _ (z16 _ _ (z15 _ _ (z14 _ _ (z13 _ _ (z12 _ _ (z11 _ _ (z10 _ _ (z9 _ _ (z8 _ _ (z7 _ _ (z6 _ _ (z5 _ _ (z4 _ _ (z3 _ _ (z2 _ _ g_t_row)))))))))))))))))⟩
      | 1,_=>exact ⟨t_word,rfl,(z18 _ _ (z17 _ _ (z16 _ _ (z15 _ _ (z14 _ _ (z13 _ _ (z12 _ _ (z11 _ _ (z10 _ _ (z9 _ _ (z8 _ _ (z7 _ _ (z6 _ _ (z5 _ _ (z4 _ _ (z3 _ _ g_t_word))))))))))))))))⟩
      | 2,_=>exact ⟨t_many,rfl,(z18 _ _ (z17 _ _ (z16 _ _ (z15 _ _ (z14 _ _ (z13 _ _ (z12 _ _ (z11 _ _ (z10 _ _ (z9 _ _ (z8 _ _ (z7 _ _ (z6 _ _ (z5 _ _ g_t_many))))))))))))))⟩
      | 3,_=>exact ⟨t_plain,rfl,(z18 _ _ (z17 _ _ (z16 _ _ (z15 _ _ (z14 _ _ (z13 _ _ (z12 _ _ (z11 _ _ (z10 _ _ (z9 _ _ (z8 _ _ (z7 _ _ (z6 _ _ g_t_plain)))))))))))))⟩
      | 4,_=>exact ⟨t_grown,rfl,(z18 _ _ (z17 _ _ (z16 _ _ (z15 _ _ (z14 _ _ (z13 _ _ (z12 _ _ (z11 _ _ (z10 _ _ (z9 _ _ g_t_grown))))))))))⟩
      | 5,_=>exact ⟨t_draft,rfl,(z18 _ _ (z17 _ _ (z16 _ _ (z15 _ _ (z14 _ _ (z13 _ _ (z12 _ _ (z11 _ _ (z10 _ _ g_t_draft)))))))))⟩
      | 6,_=>exact ⟨t_cloth,rfl,(z18 _ _ (z17 _ _ (z16 _ _ (z15 _ _ (z14 _ _ (z13 _ _ g_t_cloth))))))⟩
      | 7,_=>exact ⟨t_place,rfl,(z18 _ _ (z17 _ _ (z16 _ _ (z15 _ _ (z14 _ _ g_t_place)))))⟩
      | 8,_=>exact ⟨t_other,rfl,(z18 _ _ (z17 _ _ g_t_other))⟩
    refine Do (m:=0) (p:=λ i=>decide (i=6)) (G:=λ i=> .str ([("row":Str),("word":Str),("many":Str),("plain":Str),("grown":Str),("draft":Str),("cloth":Str),("place":Str),("other":Str)].getD i "")) (HY (ps:=[(V.str "row",V.bl false),(V.str "word",V.bl false),(V.str "many",V.bl false),(V.str "plain",V.bl false),(V.str "grown",V.bl false),(V.str "draft",V.bl false),(V.str "cloth",V.bl true),(V.str "place",V.bl false),(V.str "other",V.bl false)]) (SqL.of g_m4) pr rfl rfl) hD (by simp) ?_ ?_ ?_
    · intro i H' R hi s kk;have hi9:i<9:=hi
      match i,hi9 with
      | 0,_=>walk_at "w";exact ⟨_,rfl,kk H' (Same.refl _)⟩
      | 1,_=>walk_at "w";exact ⟨_,rfl,kk H' (Same.refl _)⟩
      | 2,_=>walk_at "w";exact ⟨_,rfl,kk H' (Same.refl _)⟩
      | 3,_=>walk_at "w";exact ⟨_,rfl,kk H' (Same.refl _)⟩
      | 4,_=>walk_at "w";exact ⟨_,rfl,kk H' (Same.refl _)⟩
      | 5,_=>walk_at "w";exact ⟨_,rfl,kk H' (Same.refl _)⟩
      | 6,_=>walk_at "w";exact ⟨_,rfl,kk H' (Same.refl _)⟩
      | 7,_=>walk_at "w";exact ⟨_,rfl,kk H' (Same.refl _)⟩
      | 8,_=>walk_at "w";exact ⟨_,rfl,kk H' (Same.refl _)⟩
    · intro i H' R hi hp s kk;obtain rfl:i=6:=of_decide_eq_true hp;walk_at "w";exact kk H' _ (Same.refl _) (.str _)
    · intro H' ys s hl r;obtain ⟨b,eb,hb,_⟩:=MV (zs:=["cloth"]) r;cases eb;exact k H' D (y18.trans s) (y18.free hD) hb
theorem MG (s:Nat):(0:Int)<1*2 ^ ((s:Nat):Int).toNat:=by
  rw [Int.one_mul];exact Int.pow_pos (by decide)
theorem GV (s:Nat):(1:Int)*2 ^ ((s:Nat):Int).toNat=((2 ^ s:Nat):Int):=by
  rw [Int.one_mul,Int.toNat_natCast];simp
theorem My (x:Int) (s:Nat):x%(1*2 ^ ((s:Nat):Int).toNat)=(((x%(2 ^ s:Nat)).toNat:Nat):Int):=by
  rw [GV];have:=Int.emod_nonneg x (show ((2 ^ s:Nat):Int)≠0 by have:=Nat.two_pow_pos s;omega);omega
theorem M9 (x:Int) (s:Nat):(x%(2 ^ s:Nat)).toNat<2 ^ s:=by
  have h0:=Nat.two_pow_pos s;have:=Int.emod_lt_of_pos x (show (0:Int)<((2 ^ s:Nat):Int) by omega);have:=Int.emod_nonneg x (show ((2 ^ s:Nat):Int)≠0 by omega);omega
theorem K4 (m s:Nat):((m:Nat):Int) / 2 ^ ((s:Nat):Int).toNat=((m >>> s:Nat):Int):=by
  rw [Int.toNat_natCast,Nat.shiftRight_eq_div_pow];push_cast;rfl
def Cz (K:PySem.W.Frag):Sp:=λ vs H Q _=>∃ (a:Addr) (ns:List Int),vs=[.ref a]/\SqL K H a (ns.map V.int)/\ns.length<=63/\∀ H' W,Same H H'->Q (.int W) H'
abbrev BF:Stmt:=top 35
theorem EV:FnScope ["_law_script"] ["_law_script"] (Ah BF):=⟨rfl,rfl,rfl,by decide +kernel,rfl,by decide +kernel,by decide +kernel⟩
theorem ER {f:Addr} {fd:FuncData} (F:Fun K "_law_whole" "_law_whole" BF f fd) (T:Txt K mg c):FnOk P w K mg base CX0 1 f fd ["_law_script"] (Cz K):=by
  refine F.ok EV (λ vs H Q E h=> ?_) (λ cdv A outer s H vs Q E hr h=> ?_)
  · obtain ⟨a,ns,rfl,_⟩:=h;rfl
  · obtain ⟨a,ns,rfl,sa,hn,k⟩:=h;refine ⟨_,(Ai (Aq (Al (MZ (K:=K)) rfl (T.own _ (by decide)) boot_sum (Aa (Ez (K:=K) (Kn (K:=K) rfl (T.own _ (by decide)) (Aa (pv 0) Ac)) (λ _ _ _ _=>AM) (λ _ _ _ _=>(Ak Br (Ak A0 (pv 1) Af) (Ak AT (pv 0) Af)))) Ac)))),?_⟩;walk_at "w";refine ⟨a,rfl,⟨_,sa⟩,λ D0 hD0=> ?_⟩;refine BA (G:=λ i=>ns.getD i 0%1000000007*((i:Int)+1)) (JR sa rfl rfl) hD0 (by rw [List.length_map];omega) ?_ ?_
    · intro i H' R hi s kk;have b1:=Int.emod_nonneg (ns.getD i 0) (show (1000000007:Int)≠0 by decide);have b2:=Int.emod_lt_of_pos (ns.getD i 0) (show (0:Int)<1000000007 by decide);rw [Eu hi];walk_at "w";refine Ax (by decide) ?_;walk_at "w";refine Ax (.inl ⟨by omega,by omega⟩) ?_;exact kk H' (Same.refl _)
    intro H1 s1 hl1;walk_at "w";refine MB (SqL.of hl1) ?_;exact k _ _ s1
def Em:Sp:=λ vs H Q _=>∃ (a:Addr) (rs:List Nat) (e p:Nat),vs=[.ref a,nV e,nV p]/\H a=some (.lst (rs.map nV))/\p<rs.length/\Q (.bl ((rs.getD p 0).testBit e)) H
abbrev DB:Stmt:=top 36
theorem He:FnScope ["_law_rows","_law_end","_law_pick"] ["_law_rows","_law_end","_law_pick"] (Ah DB):=⟨rfl,rfl,rfl,by decide +kernel,rfl,by decide +kernel,by decide +kernel⟩
theorem GX {f:Addr} {fd:FuncData} (F:Fun K "_law_up" "_law_up" DB f fd) (T:Txt K mg c):FnOk P w K mg base CX0 1 f fd ["_law_rows","_law_end","_law_pick"] Em:=by
  refine F.ok He (λ vs H Q E h=> ?_) (λ cdv A outer s H vs Q E hr h=> ?_)
  · obtain ⟨a,rs,e,p,rfl,_⟩:=h;rfl
  · obtain ⟨a,rs,e,p,rfl,ha,hp,k⟩:=h;refine ⟨_,(Ai (Aq (DT Fq (Ak Je (Ak LS (A9 (BV (K:=K)) (pv 0) (pv 2) (λ _ _=>rfl)) (pv 1)) Af) Af (AE _)))),?_⟩;walk_at "w";refine A8 (SqL.of ha) (Gf (by omega) (by omega)) ?_;walk_at "w";rw [Int.toNat_natCast];refine Ax (by show (0:Int)<=_;omega) ?_;rw [K4];walk_at "w";rw [show (1:Int)=((1:Nat):Int) from rfl,bA,Nat.and_one_is_mod,Nat.shiftRight_eq_div_pow,MM.bit_div];have e2:decide ((((rs.getD p 0).testBit e).toNat:Int)=((1:Nat):Int))=(rs.getD p 0).testBit e:=by
      cases (rs.getD p 0).testBit e <;> rfl
    rw [e2];exact k
def B6 (c:Cs):(XK->TE)->List V->Hp->VK->Prop:=λ tb vs H Q=>(∀ (E':XK) (R:VK),(∀ H1,Same H H1->E' (.ref c.BadCloth) none H1)->tb E' (vs.map some) H R)/\∀ H2 p l e,Same H H2->H2 p=some (.tup [.ref l,e])->H2 l=some (.lst [.str "cloth"])->Q (.ref p) H2
abbrev Bs:Stmt:=top 37
theorem sc__law_caught:FnScope ["_law_asked","_law_wrong","e"] ["_law_asked"] (Ah Bs):=⟨rfl,rfl,rfl,by decide +kernel,rfl,by decide +kernel,by decide +kernel⟩
theorem Ei {f:Addr} {fd:FuncData} (F:Fun K "_law_caught" "_law_caught" Bs f fd) (B:Binds K fd ["_law_asked"] []) (T:Txt K mg c) (c__law_kinds:AS P w K mg base "_law_kinds" 1 ["_law_error"] (CC c)):BX P w K mg base f 8 6 (B6 c):=by
  refine Fun.caught F B sc__law_caught (λ cdv A outer s H fl c' oc N' qual' scope cl params body pm ctv vs tb Q hr th hb h=> ?_);obtain ⟨h1,k⟩:=h;refine ⟨_,(Ag (An (i:=1) sc__law_caught.nd rfl (Or.inl rfl) IX)
      (Ag (Ma (j:=2) rfl rfl T.g_LoomError sc__law_caught.nd rfl rfl (λ _ _ _ hp=>(Ai (Dc (Nt th (pv 0) hp hr rfl hb)))) (λ _ _=>(Ai (An (i:=1) sc__law_caught.nd rfl (Or.inl rfl) (pv 2)))))
      (Ai (Aq (AH (Aa (CZ (AG MR (pv 1) IX (AE _)) (Ap Ac) (Am c__law_kinds (hr.mono (by decide)) (Aa (pv 1) Ac))) (Aa (pv 1) Ac))))))),?_⟩
  walk_at "w";refine Mc ?_;walk_at "w";refine Jd ?_;walk_at "w";refine ⟨rfl,th.hc,h1 _ _ λ H1 s1=>⟨_,rfl,T.xm_BadCloth_LoomError,λ a σ ha hl=> ?_⟩⟩;obtain ⟨x0,x1,x2,rfl⟩:∃ x0 x1 x2,σ=[x0,x1,x2]:=by
    match σ,hl with
    | [x0,x1,x2],_=>exact ⟨x0,x1,x2,rfl⟩
  have s2:=Ae (o:=E4 a c.BadCloth none) ha;walk_at "w";refine L6 ?_;walk_at "w";refine ⟨rfl,_,rfl,?_⟩;walk_at "w";rw [decide_eq_false (by intro z;cases z)];refine EA ?_;walk_at "w";refine ⟨a,rfl,Ad,λ H2 l s3 hl2 g2=> ?_⟩;walk_at "w";intro p hp;exact k _ p l _ (s1.trans (s2.trans (s3.trans (Ae hp)))) Ad (Ae hp _ _ g2)
def LsAt (H:Hp) (a:Addr) (cs:List Cl):Prop:=∃ vs:List V,H a=some (.lst vs)/\vs.length=cs.length/\∀ i,i<cs.length->∃ x,vs.getD i .non= .ref x/\H x=some (.lst ((cs.getD i cl0).2.map nV))
theorem LsAt.same {H H':Hp} {a:Addr} {cs:List Cl} (h:LsAt H a cs) (s:Same H H'):LsAt H' a cs:=by
  obtain ⟨vs,h1,h2,h3⟩:=h;refine ⟨vs,s _ _ h1,h2,λ i hi=> ?_⟩;obtain ⟨x,e,C⟩:=h3 i hi;exact ⟨x,e,s _ _ C⟩
theorem getD_some {vs:List V} {i:Nat} {x:Addr} (h:vs.getD i .non= .ref x):vs[i]?=some (.ref x):=by
  rw [List.getD_eq_getElem?_getD] at h;cases e:vs[i]? with
  | none=>rw [e] at h;cases h
  | some v=>rw [e] at h;exact congrArg some h
def dW (cs:List Cl) (n t:Nat):Nat:=MM.ofB (Di cs (t / cs.length) (t%cs.length)) (n*cs.length)
theorem GQ {cs:List Cl} {n P:Nat} (hn:∀ i,i<cs.length->(cs.getD i cl0).1=n) (h0:0<cs.length) (hr:∀ p i,p<P->i<cs.length->(cs.getD i cl0).2.getD p 0<2 ^ n):∀ m,m<=P->Bc cs m=(List.range (m*cs.length)).map (dW cs n)
  | 0,_=>by simp [Bc]
  | m+1,hm=>by
    show Bc cs m++_=_;rw [GQ hn h0 hr m (by omega),Nat.succ_mul,List.range_add,List.map_append,List.map_map];congr 1;refine List.map_congr_left λ j hj=> ?_;have hj:=List.mem_range.mp hj;have e1:(m*cs.length+j) / cs.length=m:=by
      rw [Nat.mul_comm,Nat.mul_add_div h0,Nat.div_eq_of_lt hj,Nat.add_zero]
    have e2:(m*cs.length+j)%cs.length=j:=by
      rw [Nat.mul_comm,Nat.mul_add_mod,Nat.mod_eq_of_lt hj]
    show _=MM.ofB (Di cs ((m*cs.length+j) / cs.length) ((m*cs.length+j)%cs.length)) (n*cs.length);rw [e1,e2];exact MM.eq_ofB (Hs hn λ i hi=>hr m i (by omega) hi) λ t ht=>J2 hn h0 ht
def DC:Sp:=λ vs H Q _=>∃ (a:Addr) (cs:List Cl) (wide P:Nat),vs=[.ref a,nV wide]/\LsAt H a cs/\0<cs.length/\cs.length<=10/\wide<=60/\P<=60/\(∀ i,i<cs.length->(cs.getD i cl0).2.length=P)/\
  ∀ H' l,Same H H'->H l=none->H' l=some (.lst (((List.range (P*cs.length)).map (dW cs wide)).map nV))->Q (.ref l) H'
abbrev CJ:Stmt:=top 38
theorem sc__law_due:FnScope ["_law_cloths","_law_wide","_law_many","_law_found","_law_pick","_law_row","_law_end","_law_own"] ["_law_cloths","_law_wide"] (Ah CJ):=⟨rfl,rfl,rfl,by decide +kernel,rfl,by decide +kernel,by decide +kernel⟩
theorem Gy {f:Addr} {fd:FuncData} (F:Fun K "_law_due" "_law_due" CJ f fd) (T:Txt K mg c) (c__law_up:AS P w K mg base "_law_up" 1 ["_law_rows","_law_end","_law_pick"] Em):FnOk P w K mg base CX0 2 f fd ["_law_cloths","_law_wide"] DC:=by
  refine F.ok sc__law_due (λ vs H Q E h=> ?_) (λ cdv A outer s H vs Q E hr h=> ?_)
  · obtain ⟨a,cs,wide,P,rfl,_⟩:=h;rfl
  · obtain ⟨a,cs,wide,Pk,rfl,ca,l0,l1,hw,hP,lP,k⟩:=h;obtain ⟨vs,ha,lv,el⟩:=id ca;obtain ⟨x,ex,g0⟩:=el 0 l0;have hx0:=getD_some ex;refine ⟨_,(Ag (An (i:=2) sc__law_due.nd rfl (Or.inl rfl) (Al (CF (K:=K)) rfl (T.own _ (by decide)) boot_len (Aa (pv 0) Ac)))
      (Ag (An (i:=3) sc__law_due.nd rfl (Or.inl rfl) (Ap Ac))
      (Ag (Bq PassesOwn.never rfl (Ds rfl (T.own _ (by decide)) (Aa (Ak Br (Al (CF (K:=K)) rfl (T.own _ (by decide)) boot_len (Aa (A9 (BV (K:=K)) (pv 0) Af (λ _ _=>rfl)) Ac)) (pv 2)) Ac)) (AU (i:=4) sc__law_due.nd rfl (Or.inl rfl)) (Ag (An (i:=5) sc__law_due.nd rfl (Or.inl rfl) Af)
      (Ag (Bq PassesOwn.never rfl (Ds rfl (T.own _ (by decide)) (Aa (Ak Br (pv 1) (pv 2)) Ac)) (AU (i:=6) sc__law_due.nd rfl (Or.inl rfl)) (Ag (An (i:=7) sc__law_due.nd rfl (Or.inl rfl) (Ak A0 (pv 4) (pv 2)))
      (Ai (BR (PW.pt (HB (AG Gb (Ak A0 (pv 6) (pv 2)) (pv 7) (AE _)) (F3 (PW.pt (MJ (AG Fq (Ak A0 (pv 6) (pv 2)) (pv 7) (AE _)) (Kk (BO (Am c__law_up hr (Aa (A9 (BV (K:=K)) (pv 0) (pv 7) (λ _ _=>rfl)) (Aa (Ak Cc (pv 6) (pv 2)) (Aa (Ak Cc (pv 4) (pv 2)) Ac))))))))))) (Ai (An (i:=5) sc__law_due.nd rfl (Or.inl rfl) (Ak AT (pv 5) (Ak FQ Af (pv 6))))) AQ))))
      (Ai (Dc (LD (K:=K) PySem.F.plainAttrs_list PySem.F.slot_list_append PySem.F.type_list_append Fm (pv 3) (Aa (pv 5) Ac)))))))
      (Ai (Aq (pv 3)))))),?_⟩
    walk_at "w";refine AX (SqL.of ha) ?_;walk_at "w";rw [lv];intro q hq;have s1:=Ae (o:=HO.lst []) hq;have g1:upd H q (HO.lst []) q=some (.lst (((List.range 0).map (dW cs wide)).map nV)):=Ad;generalize upd H q (HO.lst [])=H1 at s1 g1 ⊢;walk_at "w";refine A8 (SqL.of (s1 _ _ ha)) (AF (j:=0) hx0) ?_;walk_at "w";refine AX (SqL.of (s1 _ _ g0)) ?_;walk_at "w";rw [List.length_map,lP 0 l0];refine Ax (.inl ⟨by omega,by omega⟩) ?_;rw [show ((Pk:Nat):Int)*((cs.length:Nat):Int)=((Pk*cs.length:Nat):Int) by push_cast;rfl];have m1:Pk*cs.length<=600:=Nat.mul_le_mul hP l1;have m2:wide*cs.length<=600:=Nat.mul_le_mul hw l1;walk_at "w";refine ⟨_,rfl,by omega,by omega,?_⟩;rw [Int.toNat_natCast];refine Bv (H0:=H) (Fx (n:=Pk*cs.length)) (λ i σ H3=>∃ u1 u2 u3 u4,σ=[some (.ref a),some (nV wide),some (nV cs.length),some (.ref q),u1,u2,u3,u4]/\Same H H3/\H3 q=some (.lst (((List.range i).map (dW cs wide)).map nV))) ⟨_,_,_,_,rfl,s1,g1⟩ (λ i σ H3 ⟨_,_,_,_,_,s,_⟩=>s) ?_ ?_
    · rintro i σ H' H3 hi ⟨u1,u2,u3,u4,rfl,s',g'⟩ s3;have sH:=s'.trans s3;walk_at "w";refine Ax (.inl ⟨by omega,by omega⟩) ?_;rw [show ((wide:Nat):Int)*((cs.length:Nat):Int)=((wide*cs.length:Nat):Int) by push_cast;rfl];walk_at "w";refine ⟨_,rfl,by omega,by omega,?_⟩;rw [Int.toNat_natCast];have hd:i / cs.length<Pk:=by rw [Nat.div_lt_iff_lt_mul l0];exact hi
      have hm:=Nat.mod_lt i l0;refine DZ (Fx (n:=wide*cs.length)) (λ e σ H4=>∃ u3 u4,σ=[some (.ref a),some (nV wide),some (nV cs.length),some (.ref q),some (nV i),some (nV (MM.ofB (Di cs (i / cs.length) (i%cs.length)) e)),u3,u4]/\Same H3 H4) ⟨_,_,rfl,Same.refl _⟩ (λ i σ H4 ⟨_,_,_,z⟩=>z) ?_ ?_
      · rintro e σ H4 H5 he ⟨u3,u4,rfl,s4⟩ s5;have s35:=s4.trans s5;have sH:=sH.trans s35;have finT:Di cs (i / cs.length) (i%cs.length) e=true->nV (MM.ofB (Di cs (i / cs.length) (i%cs.length)) (e+1))= .int (((MM.ofB (Di cs (i / cs.length) (i%cs.length)) e:Nat):Int)+((2 ^ e:Nat):Int)):=λ hb=>by
          rw [MX hb];rfl
        have finF:Di cs (i / cs.length) (i%cs.length) e=false->nV (MM.ofB (Di cs (i / cs.length) (i%cs.length)) (e+1))=nV (MM.ofB (Di cs (i / cs.length) (i%cs.length)) e):=λ hb=>by
          rw [NH hb]
        generalize MM.ofB (Di cs (i / cs.length) (i%cs.length)) (e+1)=Z at finT finF ⊢;generalize MM.ofB (Di cs (i / cs.length) (i%cs.length)) e=Y0 at finT finF ⊢;walk_at "w";refine Ax (by show (0:Int)<_;omega) ?_;rw [show ((i:Nat):Int)%((cs.length:Nat):Int)=((i%cs.length:Nat):Int) by push_cast;rfl];walk_at "w";refine Ax (by show (0:Int)<_;omega) ?_;rw [show ((e:Nat):Int)%((cs.length:Nat):Int)=((e%cs.length:Nat):Int) by push_cast;rfl];walk_at "w";have emod:((e:Nat):Int)%((cs.length:Nat):Int)=((e%cs.length:Nat):Int):=by push_cast;rfl
        unfold Di at finT finF;generalize hE:e%cs.length=eM at*;generalize hO:i%cs.length=oM at*;by_cases c1:eM<oM
        · rw [decide_eq_true (by omega)];rw [decide_eq_true c1,Bool.true_or] at finT;refine FZ ?_;walk_at "w";refine Ax ⟨by omega,by omega,by decide⟩ ?_;walk_at "w";rw [GV, <-finT rfl];exact ⟨_,_,rfl,s35⟩
        · rw [decide_eq_false (by omega)];rw [decide_eq_false c1,Bool.false_or] at finT finF;refine EA ?_;walk_at "w";refine Ax (by show (0:Int)<_;omega) ?_;rw [emod];walk_at "w";by_cases c2:eM=oM
          · rw [decide_eq_true (by omega)];rw [decide_eq_true c2,Bool.true_and] at finT finF;refine FZ ?_;obtain ⟨y,ey,gy⟩:=el oM hm;walk_at "w";refine A8 (SqL.of (sH _ _ ha)) (AF (j:=oM) (getD_some ey)) ?_;walk_at "w";refine Ax ⟨by omega,by omega⟩ ?_;rw [show ((e:Nat):Int) / ((cs.length:Nat):Int)=((e / cs.length:Nat):Int) by push_cast;rfl];walk_at "w";refine Ax ⟨by omega,by omega⟩ ?_;rw [show ((i:Nat):Int) / ((cs.length:Nat):Int)=((i / cs.length:Nat):Int) by push_cast;rfl];walk_at "w";refine ⟨y,_,e / cs.length,i / cs.length,rfl,sH _ _ gy,by rw [lP oM hm];exact hd,?_⟩;walk_at "w";refine Hh (λ hb2=> ?_) (λ hb2=> ?_)
            · walk_at "w";refine Ax ⟨by omega,by omega,by decide⟩ ?_;walk_at "w";rw [GV, <-finT hb2];exact ⟨_,_,rfl,s35⟩
            · walk_at "w";rw [<-finF hb2];exact ⟨_,_,rfl,s35⟩
          · rw [decide_eq_false (by omega)];rw [decide_eq_false c2,Bool.false_and] at finF;refine EA ?_;walk_at "w";rw [<-finF rfl];exact ⟨_,_,rfl,s35⟩
      · rintro σ H4 ⟨u3,u4,rfl,s4⟩;have g4:=s4 _ _ (s3 _ _ g');walk_at "w";refine tyL (SqL.of g4) ?_;walk_at "w";refine Mn g4 (by simp;omega) ?_;walk_at "w";refine ⟨_,_,_,_,rfl,λ x o ex=> ?_,?_⟩
        · rw [Aj (λ z=>by rw [z,hq] at ex;cases ex)];exact s4 _ _ (sH _ _ ex)
        · rw [Ad,List.range_succ,List.map_append,List.map_append];rfl
    · rintro σ H3 ⟨u1,u2,u3,u4,rfl,s3,g3⟩;walk_at "w";exact k H3 q s3 hq g3
abbrev lq:Str:=(envOfC "law" (Ah (top 39)) 0 0 .none).qual++"<lambda>"
theorem Kl {A B m L:Nat} (hB:0<B) (hA:m*A<=L):∃ s:Nat,(if (if (B:Int)<(A:Int) then (B:Int) else (A:Int))>1 then (if (B:Int)<(A:Int) then (B:Int) else (A:Int)) else 1)=(s:Nat)/\1<=s/\s<=B/\s*m<=L+m:=by
  have key:∀ C:Nat,C<=A->C<=B->∃ s:Nat,(if (C:Int)>1 then (C:Int) else 1)=(s:Nat)/\1<=s/\s<=B/\s*m<=L+m:=λ C hc hb=>by
    by_cases y:(C:Int)>1
    · refine ⟨C,if_pos y,by omega,hb,?_⟩;have:C*m<=A*m:=Nat.mul_le_mul_right m hc;rw [Nat.mul_comm A m] at this;omega
    · exact ⟨1,if_neg y,by omega,by omega,by omega⟩
  by_cases z:(B:Int)<(A:Int)
  · simp only [if_pos z];exact key B (by omega) (Nat.le_refl _)
  · simp only [if_neg z];exact key A (Nat.le_refl _) (by omega)
def IJ (os:List Nat) (m:Nat):List Nat:=((List.range 4).filter λ i=>decide (os.getD i 0<m)).map λ i=>os.getD i 0
theorem Km {os:List Nat} (ho:os=[0,1,2,3]\/os=[3,2,1,0]) {m:Nat} (h1:1<=m) (h4:m<=4):(IJ os m).length=m/\∀ k∈IJ os m,k<m:=by
  rcases (show m=1\/m=2\/m=3\/m=4 by omega) with rfl | rfl | rfl | rfl <;> rcases ho with rfl | rfl <;> decide
theorem HQ {cs:List Cl} {π:List Nat} {i:Nat} (h:i<π.length):(π.map λ k=>cs.getD k cl0).getD i cl0=cs.getD (π.getD i 0) cl0:=by
  rw [List.getD_eq_getElem?_getD,List.getElem?_map,List.getElem?_eq_getElem h,List.getD_eq_getElem?_getD (l:=π),List.getElem?_eq_getElem h];rfl
theorem Lc {cs:List Cl} (h:Bl cs=false):DS cs=false:=by unfold DS;rw [h];rfl
theorem Ec {c:Cs} {H:Hp} {a:Addr} {xs:List Addr} {cs:List Cl} (g:H a=some (.lst (xs.map V.ref))) (l:xs.length=cs.length) (h:∀ i,i<cs.length->ClAt c.Cloth H (xs.getD i 0) (cs.getD i cl0).1 (cs.getD i cl0).2):ClsAt c H a cs:=by
  refine ⟨_,g,by rw [List.length_map];exact l,λ i hi=>⟨xs.getD i 0,?_,h i hi⟩⟩;have e:=List.getElem?_eq_getElem (l:=xs) (i:=i) (by omega);rw [List.getD_eq_getElem?_getD,List.getElem?_map,e,List.getD_eq_getElem?_getD,e];rfl
theorem F2 {K:PySem.W.Frag} {H:Hp} {Q:VK} {l p:Addr} {as bs:List Str} (c:SqL K H l (as.map V.str)) (d:SqL K H p (bs.map V.str)) (h:Q (.bl (!decide (as=bs))) H):Ku K true (.ref l) (.ref p) H Q:=
  ⟨l,p,_,_,rfl,rfl,c,d,by simp [Cp],by simp [Cp],by rw [Ie];exact h⟩
abbrev Fd:Stmt:=top 39
theorem sc_law:FnScope ["_law_script","_law_whole_here","_law_many","_law_wide","_law_high","_law_cells","_law_rows","_law_some","_law_asked","_law_found","_law_due_here","_law_one","_law_taller","_law_broad","_law_tall","_law_handed","_law_order","_law_other"] ["_law_script"] (Ah Fd):=⟨rfl,rfl,rfl,by decide +kernel,rfl,by decide +kernel,by decide +kernel⟩
theorem MO {f:Addr} {fd:FuncData} {cc TT:Addr} (hc:fd.code= .ref cc) (hd:PySem.W.CodeHd base cc TT) (hbt:base.BuiltinsAt mg TT) (F:Fun K "law" "law" Fd f fd) (T:Txt K mg c) (c__law_whole:AS P w K mg base "_law_whole" 1 ["_law_script"] (Cz K)) (c__law_mixed:AS P w K mg base "_law_mixed" 1 ["_law_cell","_law_k"] Cv) (c__law_due:AS P w K mg base "_law_due" 2 ["_law_cloths","_law_wide"] DC) (m_Cloth:Hu P w K mg base "Cloth" c.Cloth 4 ["self","ends","rows"] (Aw K c)) (c_woven_at_once:Gx P w K mg base "woven_at_once" 6 ["cloths"] (Bu c)) (d_Cloth_told:Bw P w K mg base c.Cloth "told" 1 ["self"] (Co c)) (c__law_caught:FY P w K mg base "_law_caught" 8 6 (B6 c)):FnOk P w K mg base CX0 9 f fd ["_law_script"] (FJ K TT):=by
  refine Fun.okL F hc sc_law (λ vs H Q E h=> ?_) (λ A outer s H vs Q E hr h=> ?_)
  · obtain ⟨a,ns,rfl,_⟩:=h;rfl
  · obtain ⟨a,ns,rfl,sa,hl,hT,k⟩:=h;have hu:=hr.units0;refine ⟨_,(Ag (An (i:=1) sc_law.nd rfl (Or.inl rfl) (Am c__law_whole (hr.mono (by decide)) (Aa (pv 0) Ac)))
      (Ag (An (i:=2) sc_law.nd rfl (Or.inr rfl) (Ak AT Af (Ak A0 (Am c__law_mixed (hr.mono (by decide)) (Aa (pv 1) (Aa Af Ac))) Af)))
      (Ag (An (i:=3) sc_law.nd rfl (Or.inr rfl) (Ak AT Af (Ak A0 (Am c__law_mixed (hr.mono (by decide)) (Aa (pv 1) (Aa Af Ac))) (Ak Cc Af (pv 2)))))
      (Ag (An (i:=4) sc_law.nd rfl (Or.inl rfl) (Al Ml rfl (T.own _ (by decide)) Ih (Aa Af (Aa (Al LH rfl (T.own _ (by decide)) HN (Aa (Ak Cc (Al (CF (K:=K)) rfl (T.own _ (by decide)) boot_len (Aa (pv 0) Ac)) (pv 2)) (Aa (Ak Cc Af (pv 2)) Ac))) Ac))))
      (Ag (An (i:=5) sc_law.nd rfl (Or.inr rfl) (Ju (ND (K:=K)) (Ak (Es (K:=K)) (pv 0) (Ak FX (Ap (Aa Af Ac)) (pv 2))) J7 (K0 (Ak Br (pv 4) (pv 2)))))
      (Ag (An (i:=6) sc_law.nd rfl (Or.inr rfl) (AN (Ds rfl (T.own _ (by decide)) (Aa (pv 2) Ac)) (λ _ _ _ _=>AM) (λ _ _ _ _=>(Io (fr:=[("_law_wide",3)]) (B9 (K:=K) (KC (K:=K) (pv 1) (pv 0) (pv 2))) (λ _ _ _ _=>AM) (λ _ _ _ _=>(Ak A0 (pv 0) (Ak FQ Af (pv 1))))))))
      (Ag (An (i:=15) sc_law.nd rfl (Or.inr rfl) (AN (B9 (K:=K) (pv 6)) (λ _ _ _ _=>AM) (λ _ _ _ _=>(AI m_Cloth (hr.mono (by decide)) B4 (Aa (pv 1) (Aa (pv 0) Ac))))))
      (Ag (Bq PassesOwn.never rfl (GD (K:=K) (AH (Aa (Ap (Aa Af (Aa Af (Aa Af (Aa Af Ac))))) (Aa (Ap (Aa Af (Aa Af (Aa Af (Aa Af Ac))))) (Aa (Ap (Aa Af (Aa Af (Aa Af (Aa Af Ac))))) Ac))))) (AU (i:=16) sc_law.nd rfl (Or.inr rfl)) (Ag (GF (i:=7) sc_law.nd rfl (Or.inl rfl) (B9 (K:=K) (pv 16)) (λ _ _ _ _=>(F7 (AG Gb (pv 0) (pv 1) (AE _)))) (λ _ _ _ _=>(pv 0)))
      (Ag (GF (i:=8) sc_law.nd rfl (Or.inl rfl) (B9 (K:=K) (pv 7)) (λ _ _ _ _=>AM) (λ _ _ _ _=>(A9 (BV (K:=K)) (pv 1) (pv 0) (λ _ _=>rfl))))
      (Ag (An (i:=9) sc_law.nd rfl (Or.inl rfl) (BB c_woven_at_once (hr.mono (by decide)) B4 (Aa (pv 8) Ac)))
      (Ag (An (i:=10) sc_law.nd rfl (Or.inl rfl) (Am c__law_due (hr.mono (by decide)) (Aa (AN (B9 (K:=K) (pv 7)) (λ _ _ _ _=>AM) (λ _ _ _ _=>(A9 (BV (K:=K)) (pv 1) (pv 0) (λ _ _=>rfl)))) (Aa (pv 3) Ac))))
      (Ag (BR (PW.pt (HB (DA (BO (Al (Ke (K:=K)) rfl (T.own _ (by decide)) boot_isinstance (Aa (pv 9) (Aa (Dh T.g_Cloth) Ac))))) (F3 (AG (Jf hr.units) (AL (pv 9) d_Cloth_told (hr.mono (by decide))) (AH (Aa (Ak Br (pv 3) (pv 2)) (Aa (pv 10) Ac))) (AE _))))) (Ai (Aq Fe)) AQ)
      (Ai (BR (PW.pt (HB (AG Lx (Al (CF (K:=K)) rfl (T.own _ (by decide)) boot_len (Aa (pv 8) Ac)) (pv 2) (AE _)) (F3 (AG (Jf hr.units) (AN (B9 (K:=K) (pv 15)) (λ _ _ _ _=>AM) (λ _ _ _ _=>(AL (pv 0) d_Cloth_told (hr.mono (by decide))))) (AN (B9 (K:=K) (pv 6)) (λ _ _ _ _=>AM) (λ _ _ _ _=>(AH (Aa (pv 1) (Aa (pv 0) Ac))))) (AE _))))) (Ai (Aq Fe)) AQ))))))))
      (Ag (An (i:=12) sc_law.nd rfl (Or.inl rfl) (AI m_Cloth (hr.mono (by decide)) B4 (Aa (pv 3) (Aa (Ak FX (Ap (Aa Af Ac)) (CZ (AG Gb (pv 4) Af (AE _)) (Ak AT (pv 4) Af) Af)) Ac))))
      (Ag (Bq PassesOwn.never rfl (GD (K:=K) (AH (Aa (AI m_Cloth (hr.mono (by decide)) B4 (Aa (CZ (AG Gb (pv 3) Af (AE _)) (Ak AT (pv 3) Af) Af) (Aa (Ak FX (Ap (Aa Af Ac)) (pv 4)) Ac))) (Aa (pv 12) Ac)))) (AU (i:=17) sc_law.nd rfl (Or.inr rfl)) (Ai (BR (AG (JD hu (K:=K)) (A9 (HH (K:=K)) (CK c__law_caught hr ⟨rfl,hd,hbt⟩ ["_law_other","_law_handed"] [17,15] (λ _ _ _ _ _ _ _ _ hrL=>(BB c_woven_at_once (hrL.mono (by decide)) (Jn λ _ _ _ h=>h) (Aa (Ap (Aa (A9 (BV (K:=K)) (pv 1) Af (λ _ _=>rfl)) (Aa (pv 0) Ac))) Ac))) (show A7 _ _ _ ["_law_script","_law_whole_here","_law_many","_law_wide","_law_high","_law_cells","_law_rows","_law_some","_law_asked","_law_found","_law_due_here","_law_one","_law_taller","_law_broad","_law_tall","_law_handed","_law_order","_law_other"] (Ah Fd).names=true by decide +kernel)) Af (λ _ _=>rfl)) (Ap (Aa AJ Ac)) (AE _)) (Ai (Aq Fe)) AQ)))
      (Ag (An (i:=7) sc_law.nd rfl (Or.inl rfl) (Ap (Aa (AI m_Cloth (hr.mono (by decide)) B4 (Aa Af (Aa (Ap (Aa Af Ac)) Ac))) (Aa (AI m_Cloth (hr.mono (by decide)) B4 (Aa Af (Aa (Ap (Aa Af Ac)) Ac))) (Aa (AI m_Cloth (hr.mono (by decide)) B4 (Aa Af (Aa (Ap (Aa Af Ac)) Ac))) Ac)))))
      (Ag (Bq PassesOwn.never rfl (GD (K:=K) (AH (Aa (AI m_Cloth (hr.mono (by decide)) B4 (Aa Af (Aa (Ap (Aa Af Ac)) Ac))) (Aa (AI m_Cloth (hr.mono (by decide)) B4 (Aa Af (Aa (Ap (Aa Af (Aa Af Ac))) Ac))) Ac)))) (AU (i:=17) sc_law.nd rfl (Or.inr rfl)) (Ai (Bq PassesOwn.never rfl (GD (K:=K) (AH (Aa (Ap (Aa (A9 (BV (K:=K)) (pv 7) Af (λ _ _=>rfl)) (Aa (A9 (BV (K:=K)) (pv 7) Af (λ _ _=>rfl)) (Aa (pv 17) Ac)))) (Aa (Ak (Es (K:=K)) (pv 7) (Ap (Aa (pv 17) Ac))) (Aa (Ak (Es (K:=K)) (Ap (Aa (pv 17) Ac)) (pv 7)) Ac))))) (AU (i:=16) sc_law.nd rfl (Or.inr rfl)) (Ai (BR (AG (JD hu (K:=K)) (A9 (HH (K:=K)) (CK c__law_caught hr ⟨rfl,hd,hbt⟩ ["_law_order"] [16] (λ _ _ _ _ _ _ _ _ hrL=>(BB c_woven_at_once (hrL.mono (by decide)) (Jn λ _ _ _ h=>h) (Aa (pv 0) Ac))) (show A7 _ _ _ ["_law_script","_law_whole_here","_law_many","_law_wide","_law_high","_law_cells","_law_rows","_law_some","_law_asked","_law_found","_law_due_here","_law_one","_law_taller","_law_broad","_law_tall","_law_handed","_law_order","_law_other"] (Ah Fd).names=true by decide +kernel)) Af (λ _ _=>rfl)) (Ap (Aa AJ Ac)) (AE _)) (Ai (Aq Fe)) AQ)))))
      (Ag (An (i:=13) sc_law.nd rfl (Or.inl rfl) (AI m_Cloth (hr.mono (by decide)) B4 (Aa (Ak AT Af (Ak A0 (Am c__law_mixed (hr.mono (by decide)) (Aa (pv 1) (Aa Af Ac))) Af)) (Aa (Ap (Aa Af Ac)) Ac))))
      (Ag (An (i:=14) sc_law.nd rfl (Or.inl rfl) (AI m_Cloth (hr.mono (by decide)) B4 (Aa Af (Aa (Ak FX (Ap (Aa Af Ac)) (Ak AT Af (Ak A0 (Am c__law_mixed (hr.mono (by decide)) (Aa (pv 1) (Aa Af Ac))) Af))) Ac))))
      (Ag (Bq PassesOwn.never rfl (GD (K:=K) (AH (Aa (pv 13) (Aa (pv 14) Ac)))) (AU (i:=11) sc_law.nd rfl (Or.inr rfl)) (Ai (BR (AG (JD hu (K:=K)) (A9 (HH (K:=K)) (CK c__law_caught hr ⟨rfl,hd,hbt⟩ ["_law_one"] [11] (λ _ _ _ _ _ _ _ _ hrL=>(BB c_woven_at_once (hrL.mono (by decide)) (Jn λ _ _ _ h=>h) (Aa (Ap (Aa (pv 0) (Aa (pv 0) (Aa (pv 0) Ac)))) Ac))) (show A7 _ _ _ ["_law_script","_law_whole_here","_law_many","_law_wide","_law_high","_law_cells","_law_rows","_law_some","_law_asked","_law_found","_law_due_here","_law_one","_law_taller","_law_broad","_law_tall","_law_handed","_law_order","_law_other"] (Ah Fd).names=true by decide +kernel)) Af (λ _ _=>rfl)) (Ap (Aa AJ Ac)) (AE _)) (Ai (Aq Fe)) AQ)))
      (Ai (Aq Fe))))))))))))))))),?_⟩
    walk_at "w";refine ⟨a,ns,rfl,sa,hl,λ H1 W s1=> ?_⟩;walk_at "w";refine ⟨W,1,rfl,⟨by decide,by decide⟩,?_⟩;walk_at "w";refine Ax (by decide) ?_;walk_at "w";obtain ⟨many,eM,o1,o2⟩:∃ s:Nat,1+Dy W 1%4=(s:Nat)/\1<=s/\s<=4:=by
      have h0:=Int.emod_nonneg (Dy W 1) (show (4:Int)≠0 by decide);have h1:=Int.emod_lt_of_pos (Dy W 1) (show (0:Int)<4 by decide);exact ⟨(1+Dy W 1%4).toNat,by omega,by omega,by omega⟩
    rw [eM];refine ⟨W,2,rfl,⟨by decide,by decide⟩,?_⟩;walk_at "w";refine Ax ⟨by omega,by omega⟩ ?_;have dO:0<60 / many:=by
      rw [Nat.div_pos_iff];omega
    have dO2:many*(60 / many)<=60:=Nat.mul_div_le 60 many;have dO3:60 / many<=60:=Nat.div_le_self _ _;have e60:(60:Int) / ((many:Nat):Int)=((60 / many:Nat):Int):=by push_cast;rfl
    rw [e60];walk_at "w";refine Ax (by show (0:Int)<_;omega) ?_;walk_at "w";obtain ⟨wide,eW,w1,w2⟩:∃ s:Nat,1+Dy W 2%((60 / many:Nat):Int)=(s:Nat)/\1<=s/\s<=60 / many:=by
      have h0:=Int.emod_nonneg (Dy W 2) (show ((60 / many:Nat):Int)≠0 by omega);have h1:=Int.emod_lt_of_pos (Dy W 2) (show (0:Int)<((60 / many:Nat):Int) by omega);exact ⟨(1+Dy W 2%((60 / many:Nat):Int)).toNat,by omega,by omega,by omega⟩
    rw [eW];walk_at "w";refine AX (s1.seq sa) ?_;walk_at "w";rw [List.length_map];refine Ax ⟨by omega,by omega⟩ ?_;rw [show ((ns.length:Nat):Int) / ((many:Nat):Int)=((ns.length / many:Nat):Int) by push_cast;rfl];walk_at "w";refine Ax ⟨by omega,by omega⟩ ?_;rw [e60];walk_at "w";have lm1:many*(ns.length / many)<=ns.length:=Nat.mul_div_le _ _;obtain ⟨high,eHi,h1,h2,h3⟩:∃ s:Nat,(if (if ((60 / many:Nat):Int)<((ns.length / many:Nat):Int) then ((60 / many:Nat):Int) else ((ns.length / many:Nat):Int))>1 then (if ((60 / many:Nat):Int)<((ns.length / many:Nat):Int) then ((60 / many:Nat):Int) else ((ns.length / many:Nat):Int)) else 1)=(s:Nat)/\1<=s/\s<=60 / many/\s*many<=ns.length+many:=by
      exact Kl dO lm1
    rw [eHi];clear eHi;intro l1 hl1;have s2:=Ae (o:=HO.lst [V.int 1]) hl1;have k1:upd H1 l1 (HO.lst [V.int 1]) l1=_:=Ad;generalize upd H1 l1 (HO.lst [V.int 1])=H2 at s2 k1 ⊢;walk_at "w";refine FK k1 (by omega) (by omega) (by simp) λ l2 hl2=> ?_;rw [show (List.replicate ((many:Nat):Int).toNat [V.int 1]).flatten=(List.replicate many (1:Int)).map V.int by
      rw [Int.toNat_natCast,List.map_replicate];simp]
    have s3:=Ae (o:=HO.lst ((List.replicate many (1:Int)).map V.int)) hl2;have k2:upd H2 l2 (HO.lst ((List.replicate many (1:Int)).map V.int)) l2=_:=Ad;generalize upd H2 l2 (HO.lst ((List.replicate many (1:Int)).map V.int))=H3 at s3 k2 ⊢;have s13:=s1.trans (s2.trans s3);walk_at "w";refine CO (s13.seq sa) (SqL.of k2) (by simp;omega) λ l3 hl3=> ?_;rw [<-List.map_append];have s4:=Ae (o:=HO.lst ((ns++List.replicate many (1:Int)).map V.int)) hl3;have k3:upd H3 l3 (HO.lst ((ns++List.replicate many (1:Int)).map V.int)) l3=_:=Ad;generalize upd H3 l3 (HO.lst ((ns++List.replicate many (1:Int)).map V.int))=H4 at s4 k3 ⊢;walk_at "w";have hb:high*many<=60:=by
      rw [Nat.mul_comm];exact Nat.le_trans (Nat.mul_le_mul_left many h2) dO2
    have hb2:high<=60:=Nat.le_trans h2 dO3;refine Ax (.inl ⟨by omega,by omega⟩) ?_;rw [show ((high:Nat):Int)*((many:Nat):Int)=((high*many:Nat):Int) by push_cast;rfl];walk_at "w";refine Mv (SqL.of k3) λ l4 hl4=> ?_;rw [MC (by omega),Int.toNat_natCast, <-List.map_take];have lc:((ns++List.replicate many (1:Int)).take (high*many)).length=high*many:=by
      rw [List.length_take,List.length_append,List.length_replicate];omega
    generalize (ns++List.replicate many (1:Int)).take (high*many)=cells at lc ⊢;have s5:=Ae (o:=HO.lst (cells.map V.int)) hl4;have k4:upd H4 l4 (HO.lst (cells.map V.int)) l4=_:=Ad;generalize upd H4 l4 (HO.lst (cells.map V.int))=H5 at s5 k4 ⊢;have s15:=s13.trans (s4.trans s5);have qT:=s15 _ _ hT;have hw60:wide<=60:=Nat.le_trans w2 dO3;clear k1 k2 k3 hl1 hl2 hl3 hl4 s1 s2 s3 s4 s5 s13 s15 sa hT h3 lm1;walk_at "w";refine ⟨_,rfl,by omega,by omega,λ D hD=> ?_⟩;rw [Int.toNat_natCast];refine Cd (Pv:=λ i y H'=>∃ x,y= .ref x/\x≠D/\H' x=some (.lst (((List.range high).map λ j=>(cells.getD (i+many*j) 0%(2 ^ wide:Nat)).toNat).map nV))) (GZ rfl) hD (by omega) ?_ ?_ ?_ ?_
    · rintro i y Ha Hb ⟨x,e1,e2,e3⟩ s;exact ⟨x,e1,e2,s _ _ e3⟩
    · rintro i y Ha ys o s ⟨x,e1,e2,e3⟩ _;exact ⟨x,e1,e2,by rw [Aj e2];exact e3⟩
    · rintro i H' R hi s ⟨ys,hys⟩ kk;walk_at "w";refine KO ?_;walk_at "w";refine ⟨l4,_,high,many,i,rfl,rfl,rfl,SqL.of (s _ _ k4),by rw [List.length_map];exact lc,hi,λ q hq=> ?_⟩;have z1:=Ae (o:=HO.lst ((List.range high).map λ j=>(cells.map V.int).getD (i+many*j) .non)) hq;have bnd:∀ j,j<high->i+many*j<cells.length:=λ j hj=>by
        rw [lc];have:many*(j+1)<=many*high:=Nat.mul_le_mul_left many hj;rw [Nat.mul_add,Nat.mul_one,Nat.mul_comm many high] at this;omega
      have kq:upd H' q (HO.lst ((List.range high).map λ j=>(cells.map V.int).getD (i+many*j) .non)) q=some (.lst (((List.range high).map λ j=>cells.getD (i+many*j) 0).map V.int)):=by
        rw [Ad,List.map_map];refine congrArg (λ z=>some (HO.lst z)) (List.map_congr_left λ j hj=> ?_);exact Eu (by rw [List.length_map];exact bnd j (List.mem_range.mp hj))
      generalize upd H' q (HO.lst ((List.range high).map λ j=>(cells.map V.int).getD (i+many*j) .non))=H6 at z1 kq ⊢;walk_at "w";refine ⟨q,rfl,⟨_,SqL.of kq⟩,λ D2 hD2=> ?_⟩;refine BA (G:=λ j=>(((cells.getD (i+many*j) 0%(2 ^ wide:Nat)).toNat:Nat):Int)) (AO (SqL.of kq) rfl) hD2 (by simp;omega) ?_ ?_
      · intro j H7 R7 hj s7 kk7;rw [Eu hj];have hj':j<high:=by simpa using hj
        rw [show ((List.range high).map λ j=>cells.getD (i+many*j) 0).getD j 0=cells.getD (i+many*j) 0 from HW (λ j=>cells.getD (i+many*j) 0) hj'];walk_at "w";refine Ax ⟨by omega,by omega,by decide⟩ ?_;walk_at "w";refine Ax (MG wide) ?_;rw [My];exact kk7 H7 (Same.refl _)
      · intro H7 s7 hl7;rw [HF,List.length_map,List.length_map,List.length_range] at hl7;refine kk H7 _ (z1.trans s7) ⟨D2,rfl,λ z=> ?_,hl7⟩;rw [z,z1 _ _ hys] at hD2;cases hD2
    intro H6 rs6 s6 g6 lr el6;obtain ⟨cs,lcs,ecs⟩:∃ cs:List Cl,cs.length=many/\∀ i,i<many->(cs.getD i cl0).1=wide/\(cs.getD i cl0).2=(List.range high).map λ j=>(cells.getD (i+many*j) 0%(2 ^ wide:Nat)).toNat:=by
      refine ⟨(List.range many).map λ i=>(wide,(List.range high).map λ j=>(cells.getD (i+many*j) 0%(2 ^ wide:Nat)).toNat),by simp,λ i hi=> ?_⟩;have e:=List.getElem?_eq_getElem (l:=(List.range many).map λ i=>((wide,(List.range high).map λ j=>(cells.getD (i+many*j) 0%(2 ^ wide:Nat)).toNat):Cl)) (i:=i) (by simpa using hi);rw [List.getD_eq_getElem?_getD,e];simp
    have cW:∀ i,i<many->(cs.getD i cl0).1=wide:=λ i hi=>(ecs i hi).1;have cL:∀ i,i<many->(cs.getD i cl0).2.length=high:=λ i hi=>by rw [(ecs i hi).2];simp
    have cOk:∀ i,i<many->ClOk wide (cs.getD i cl0).2:=λ i hi=>⟨w1,hw60,by rw [cL i hi];exact h1,by rw [cL i hi];exact hb2,λ r hr=>by
      rw [(ecs i hi).2] at hr;obtain ⟨j,_,rfl⟩:=List.mem_map.mp hr;exact M9 _ _⟩
    have La:LsAt H6 D cs:=⟨rs6,g6,by omega,λ i hi=>by
      have e:=List.getElem?_eq_getElem (l:=rs6) (i:=i) (by omega);obtain ⟨x,e1,_,e3⟩:=el6 i _ e;refine ⟨x,by rw [List.getD_eq_getElem?_getD,e,e1];rfl,?_⟩;rw [(ecs i (by omega)).2];exact e3⟩
    have qT:=s6 _ _ qT;clear el6 ecs g6 k4 lr;walk_at "w";obtain ⟨vr,gr,lvr,er⟩:=id La;refine ⟨D,rfl,⟨_,SqL.of gr⟩,λ dh hdh=> ?_⟩;refine Cd (Pv:=λ i y H'=>∃ x,y= .ref x/\ClAt c.Cloth H' x wide (cs.getD i cl0).2) (AO (SqL.of gr) rfl) hdh (by omega) ?_ ?_ ?_ ?_
    · rintro i y Ha Hb ⟨x,e1,e2⟩ s;exact ⟨x,e1,e2.same s⟩
    · rintro i y Ha ys o s ⟨x,e1,⟨dx,t,g1,g2⟩⟩ g3;refine ⟨x,e1,dx,t,?_,?_⟩
      · rw [Aj (Gc g1 g3 (by intro z;cases z))];exact g1
      · rw [Aj (Gc g2 g3 (by intro z;cases z))];exact g2
    · rintro i H' R hi s ⟨ys,hys⟩ kk;obtain ⟨x,ex,gx⟩:=er i (by omega);rw [ex];walk_at "w";exact CB (s _ _ gx) (cOk i (by omega)) λ H7 y s7 _ C7=>kk H7 _ s7 ⟨y,rfl,C7⟩
    intro H7 hs7 s7 g7 lh el7;have Ca:∀ i,i<many->∃ x,hs7.getD i .non= .ref x/\ClAt c.Cloth H7 x wide (cs.getD i cl0).2:=λ i hi=>by
      have e:=List.getElem?_eq_getElem (l:=hs7) (i:=i) (by omega);obtain ⟨x,e1,e3⟩:=el7 i _ e;exact ⟨x,by rw [List.getD_eq_getElem?_getD,e,e1];rfl,e3⟩
    have lh7:hs7.length=many:=by omega
    have La:=La.same s7;have qT:=s7 _ _ qT;clear el7 lh er gr lvr s7 s6;walk_at "w";intro l1 hl1;have s1:=Ae (o:=HO.lst [V.int 0,V.int 1,V.int 2,V.int 3]) hl1;have j1:upd H7 l1 (HO.lst [V.int 0,V.int 1,V.int 2,V.int 3]) l1=_:=Ad;generalize upd H7 l1 (HO.lst [V.int 0,V.int 1,V.int 2,V.int 3])=H8 at s1 j1 ⊢;walk_at "w";intro l2 hl2;have s2:=Ae (o:=HO.lst [V.int 3,V.int 2,V.int 1,V.int 0]) hl2;have j2:upd H8 l2 (HO.lst [V.int 3,V.int 2,V.int 1,V.int 0]) l2=_:=Ad;generalize upd H8 l2 (HO.lst [V.int 3,V.int 2,V.int 1,V.int 0])=H9 at s2 j2 ⊢;walk_at "w";intro l3 hl3;have s3:=Ae (o:=HO.lst [V.int 0,V.int 1,V.int 2,V.int 3]) hl3;have j3:upd H9 l3 (HO.lst [V.int 0,V.int 1,V.int 2,V.int 3]) l3=_:=Ad;generalize upd H9 l3 (HO.lst [V.int 0,V.int 1,V.int 2,V.int 3])=H10 at s3 j3 ⊢;walk_at "w";intro lt hlt;have s4:=Ae (o:=HO.tup [V.ref l1,V.ref l2,V.ref l3]) hlt;have gt:upd H10 lt (HO.tup [V.ref l1,V.ref l2,V.ref l3]) lt=_:=Ad;generalize upd H10 lt (HO.tup [V.ref l1,V.ref l2,V.ref l3])=H11 at s4 gt ⊢;have sm:∀ i,i<3->∃ l,∃ os:List Nat,[V.ref l1,V.ref l2,V.ref l3].getD i .non= .ref l/\H11 l=some (.lst (os.map nV))/\(os=[0,1,2,3]\/os=[3,2,1,0]):=by
      intro i hi
      match i,hi with
      | 0,_=>exact ⟨l1,[0,1,2,3],rfl,s4 _ _ (s3 _ _ (s2 _ _ j1)), .inl rfl⟩
      | 1,_=>exact ⟨l2,[3,2,1,0],rfl,s4 _ _ (s3 _ _ j2), .inr rfl⟩
      | 2,_=>exact ⟨l3,[0,1,2,3],rfl,s4 _ _ j3, .inl rfl⟩
    have sB:Same H7 H11:=s1.trans (s2.trans (s3.trans s4));clear j1 j2 j3 s1 s2 s3 s4 hl1 hl2 hl3 hlt;refine ⟨lt,rfl,⟨_,SqT.of gt⟩,DZ (Er (SqT.of gt)) (λ i σ H3=>∃ u1 u2 u3 u4 u5,σ=[some (.ref a),some (.int W),some (nV many),some (nV wide),some (nV high),some (.ref l4),some (.ref D),u1,u2,u3,u4,none,none,none,none,some (.ref dh),u5,none]/\Same H11 H3) ⟨_,_,_,_,_,rfl,Same.refl _⟩ (λ i σ H3 ⟨_,_,_,_,_,_,s⟩=>s) ?_ ?_⟩
    · rintro i σ H' H12 hi3 ⟨u1,u2,u3,u4,u5,rfl,s'⟩ s12;obtain ⟨l,os,el,gl,ho⟩:=sm i hi3;have sC:=s'.trans s12;have sD:=sB.trans sC;rw [el];clear el;have gl:=sC _ _ gl;have los:os.length=4:=by rcases ho with rfl | rfl <;> rfl
      obtain ⟨lπ,bπ⟩:=Km ho o1 o2;walk_at "w";refine ⟨l,rfl,⟨_,SqL.of gl⟩,λ D1 hD1=> ?_⟩;refine Ee (p:=λ i=>decide (os.getD i 0<many)) (G:=λ i=>((os.getD i 0:Nat):Int)) (AO (SqL.of gl) rfl) hD1 (by rw [List.length_map,los];decide) ?_ ?_ ?_
      · intro i H' R hi s kk;rw [Bi hi];walk_at "w";rw [show decide (((os.getD i 0:Nat):Int)<((many:Nat):Int))=decide (os.getD i 0<many) from decide_eq_decide.mpr Int.ofNat_lt];exact kk H' (Same.refl _)
      · intro i H' R hi hp s kk;rw [Bi hi];walk_at "w";exact kk H' (Same.refl _)
      intro H13 s13 gπ;have gπ:H13 D1=some (.lst ((IJ os many).map nV)):=by
        rw [gπ,List.length_map,los];unfold IJ;rw [List.map_map,List.map_map];rfl
      generalize IJ os many=π at lπ bπ gπ;have bg:∀ i,i<many->π.getD i 0<many:=λ i hi=>bπ _ (Bh (by omega));have sE:=sD.trans s13;walk_at "w";refine ⟨D1,rfl,⟨_,SqL.of gπ⟩,λ D2 hD2=> ?_⟩;refine Cd (Pv:=λ i y H'=>∃ x,y= .ref x/\ClAt c.Cloth H' x wide (cs.getD (π.getD i 0) cl0).2) (AO (SqL.of gπ) rfl) hD2 (by rw [List.length_map];omega) ?_ ?_ ?_ ?_
      · rintro i y Ha Hb ⟨x,e1,e2⟩ s;exact ⟨x,e1,e2.same s⟩
      · rintro i y Ha ys o s ⟨x,e1,⟨dx,t,g1,g2⟩⟩ g3;refine ⟨x,e1,dx,t,?_,?_⟩
        · rw [Aj (Gc g1 g3 (by intro z;cases z))];exact g1
        · rw [Aj (Gc g2 g3 (by intro z;cases z))];exact g2
      · rintro i H' R hi s ⟨ys,hys⟩ kk;have hi':i<many:=by simpa [lπ] using hi
        rw [Bi hi];obtain ⟨x,ex,Cx⟩:=Ca (π.getD i 0) (bg i hi');walk_at "w";refine A8 (SqL.of (s _ _ (sE _ _ g7))) (AF (j:=π.getD i 0) (getD_some ex)) ?_;exact kk H' _ (Same.refl _) ⟨x,rfl,Cx.same (sE.trans s)⟩
      intro H14 as s14 gA lA elA;rw [List.length_map] at lA;have lC:(π.map λ k=>cs.getD k cl0).length=many:=by rw [List.length_map];exact lπ
      have gC:∀ i,i<many->(π.map λ k=>cs.getD k cl0).getD i cl0=cs.getD (π.getD i 0) cl0:=λ i hi=>HQ (by omega);generalize (π.map λ k=>cs.getD k cl0)=cp at lC gC;have pW:∀ i,i<cp.length->(cp.getD i cl0).1=wide:=λ i hi=>by rw [gC i (by omega)];exact cW _ (bg i (by omega))
      have pL:∀ i,i<cp.length->(cp.getD i cl0).2.length=high:=λ i hi=>by rw [gC i (by omega)];exact cL _ (bg i (by omega))
      have pOk:∀ i,i<cp.length->ClOk wide (cp.getD i cl0).2:=λ i hi=>by rw [gC i (by omega)];exact cOk _ (bg i (by omega))
      have As:ClsAt c H14 D2 cp:=⟨as,gA,by omega,λ i hi=>by
        have e:=List.getElem?_eq_getElem (l:=as) (i:=i) (by omega);obtain ⟨x,e1,e3⟩:=elA i _ e;refine ⟨x,by rw [List.getD_eq_getElem?_getD,e,e1];rfl,?_⟩;rw [pW i hi,gC i (by omega)];exact e3⟩
      have fitC:DS cp=true:=by
        unfold DS Bl;rw [pW 0 (by omega),pL 0 (by omega),lC,decide_eq_true (by rw [Nat.mul_comm];exact Nat.le_trans (Nat.mul_le_mul_left many w2) dO2),decide_eq_true hb,Bool.and_true,Bool.and_true,List.all_eq_true];intro i hi;have hi:=List.mem_range.mp hi;rw [pW i (by omega),pL i (by omega)];simp
      walk_at "w";refine ⟨D2,cp,rfl,As,λ i hi=>by rw [pW i hi];exact pOk i hi,by omega,by omega,λ _ H15 u s15 hu15 Cu=> ?_,λ n=>(by rw [fitC] at n;cases n)⟩;rw [pW 0 (by omega),pL 0 (by omega),lC] at Cu;have sF:=s14.trans s15;have sG:=sE.trans sF;walk_at "w";have gπ5:=sF _ _ gπ;obtain ⟨vr,gr,lvr,er⟩:=La.same sG;refine ⟨D1,rfl,⟨_,SqL.of gπ5⟩,λ D3 hD3=> ?_⟩;refine Cd (Pv:=λ i y H'=>∃ x,y= .ref x/\x≠D3/\H' x=some (.lst ((cs.getD (π.getD i 0) cl0).2.map nV))) (AO (SqL.of gπ5) rfl) hD3 (by rw [List.length_map];omega) ?_ ?_ ?_ ?_
      · rintro i y Ha Hb ⟨x,e1,e2,e3⟩ s;exact ⟨x,e1,e2,s _ _ e3⟩
      · rintro i y Ha ys o s ⟨x,e1,e2,e3⟩ _;exact ⟨x,e1,e2,by rw [Aj e2];exact e3⟩
      · rintro i H' R hi s ⟨ys,hys⟩ kk;have hi':i<many:=by simpa [lπ] using hi
        rw [Bi hi];obtain ⟨x,ex,gx⟩:=er (π.getD i 0) (by rw [lcs];exact bg i hi');walk_at "w";refine A8 (SqL.of (s _ _ gr)) (AF (j:=π.getD i 0) (getD_some ex)) ?_;exact kk H' _ (Same.refl _) ⟨x,rfl,(λ z=>by rw [z,hD3] at gx;cases gx),s _ _ gx⟩
      intro H16 bs s16 gB lB elB;rw [List.length_map] at lB;have Lp:LsAt H16 D3 cp:=⟨bs,gB,by omega,λ i hi=>by
        have e:=List.getElem?_eq_getElem (l:=bs) (i:=i) (by omega);obtain ⟨x,e1,_,e3⟩:=elB i _ e;refine ⟨x,by rw [List.getD_eq_getElem?_getD,e,e1];rfl,?_⟩;rw [gC i (by omega)];exact e3⟩
      walk_at "w";refine ⟨D3,cp,wide,high,rfl,Lp,by omega,by omega,hw60,hb2,pL,λ H17 dDue s17 hDue gDue=> ?_⟩;rw [<-GQ (P:=high) pW (by omega) (λ p i hp hi=>(pOk i hi).lt ((cp.getD i cl0).2.getD p 0) (Bh (by rw [pL i hi];exact hp))) high (Nat.le_refl _)] at gDue;have sH:=s16.trans s17;have sI:=sG.trans sH;have Cu:=Cu.same sH;obtain ⟨du,tu,gu,gu2⟩:=id Cu;walk_at "w";refine Jq (T.kd_Cloth.ty gu) T.is_Cloth ?_;walk_at "w";refine ⟨_,_,_,rfl,gu,rfl,?_⟩;walk_at "w";refine ⟨u,_,_,rfl,Cu,λ H18 pt lt2 s18 hpt hlt2 q1 q2=> ?_⟩;walk_at "w";have mwb:wide*many<=60:=by rw [Nat.mul_comm];exact Nat.le_trans (Nat.mul_le_mul_left many w2) dO2
      refine Ax (.inl ⟨by omega,by omega⟩) ?_;rw [show ((wide:Nat):Int)*((many:Nat):Int)=((wide*many:Nat):Int) by push_cast;rfl];walk_at "w";intro pE hpE;have s19:=Ae (o:=HO.tup [nV (wide*many),V.ref dDue]) hpE;have gE:upd H18 pE (HO.tup [nV (wide*many),V.ref dDue]) pE=_:=Ad;generalize upd H18 pE (HO.tup [nV (wide*many),V.ref dDue])=H19 at s19 gE ⊢;have lgr:=Cj cp high;rw [lC] at lgr;walk_at "w";refine ⟨2, .tup [dN (wide*many),dL (Bc cp high)], .tup [dN (wide*many),dL (Bc cp high)],by decide,DU (s19 _ _ q1) (.int _) (J4 (s19 _ _ q2) trivial (by omega)),DU gE (.int _) (J4 (s19 _ _ (s18 _ _ gDue)) trivial (by omega)),rfl,?_⟩;rw [BZ,if_pos rfl];walk_at "w";have sJ:=sH.trans (s18.trans s19);have sK:=sG.trans sJ;refine AX (SqL.of (sJ _ _ (s15 _ _ gA))) ?_;walk_at "w";rw [decide_eq_true (by omega)];refine LA ?_;have gh:=sK _ _ g7;walk_at "w";refine ⟨dh,rfl,⟨_,SqL.of gh⟩,λ D4 hD4=> ?_⟩;refine Ej (m:=2) (G:=λ i=>Dt.tup [dN wide,dL (cs.getD i cl0).2]) (AO (SqL.of gh) rfl) hD4 (by omega) ?_ ?_
      · intro i H' R hi s kk;obtain ⟨x,ex,Cx⟩:=Ca i (by omega);rw [ex];have C':=Cx.same (sK.trans s);obtain ⟨dx,tx,gx,_⟩:=id C';walk_at "w";refine ⟨_,_,_,rfl,gx,rfl,?_⟩;walk_at "w";refine ⟨x,_,_,rfl,C',λ H3 p l s3 hp hl q1 q2=> ?_⟩;exact kk H3 _ s3 (DU q1 (.int _) (J4 q2 hl (by rw [cL i (by omega)];omega)))
      intro H20 ys s20 gD4 rD4;obtain ⟨vr,gr,lvr,er⟩:=La.same (sK.trans s20);walk_at "w";refine ⟨D,rfl,⟨_,SqL.of gr⟩,λ D5 hD5=> ?_⟩;refine Cd (Pv:=λ i y H'=>Rp H' (λ a=>a≠D5) 2 y (Dt.tup [dN wide,dL (cs.getD i cl0).2])) (AO (SqL.of gr) rfl) hD5 (by omega) ?_ ?_ ?_ ?_
      · intro i y Ha Hb r s;exact r.same s
      · intro i y Ha ys o s r g;exact r.off g λ z=>z rfl
      · rintro i H' R hi s ⟨ys,hys⟩ kk;obtain ⟨x,ex,gx⟩:=er i (by omega);rw [ex];walk_at "w";intro p hp;have sp:=Ae (o:=HO.tup [nV wide,V.ref x]) hp;exact kk _ _ sp (DU Ad (.int _) (J4 (sp _ _ (s _ _ gx)) (λ z=>by rw [z,hD5] at gx;cases gx) (by rw [cL i (by omega)];omega)))
      intro H21 zs s21 gD5 lz elz;walk_at "w";have sL:Same H11 H21:=sC.trans (s13.trans (sF.trans (sJ.trans (s20.trans s21))));have r2:Rp H21 FT 3 (.ref D5) (.lst ((List.range many).map λ i=>Dt.tup [dN wide,dL (cs.getD i cl0).2])):=by
        refine .lst gD5 trivial (by omega) (by rw [List.length_map,List.length_range];omega) λ i v d e1 e2=> ?_;have hi:i<many:=by
          have:=(List.getElem?_eq_some_iff.mp e2).1;simpa using this
        rw [List.getElem?_map,List.getElem?_range hi] at e2;cases e2;exact (elz i v e1).any
      rw [lh7] at rD4;refine ⟨3,_,_,by decide,rD4.any.same s21,r2,rfl,?_⟩;rw [BZ,if_pos rfl];walk_at "w";exact ⟨_,_,_,_,_,rfl,sL⟩
    · rintro σ H12 ⟨u1,u2,u3,u4,u5,rfl,s12⟩;have s12:=sB.trans s12;have zOk:∀ n t:Nat,1<=n->n<=60->1<=t->t<=60->ClOk n (List.replicate t 0):=λ n t a1 a2 a3 a4=>⟨a1,a2,by simpa using a3,by simpa using a4,λ r hr=>by rw [(List.mem_replicate.mp hr).2];exact Nat.two_pow_pos _⟩;clear sm gt La;walk_at "w";intro l0 hl0;have z1:=Ae (o:=HO.lst [V.int 0]) hl0;have k0:upd H12 l0 (HO.lst [V.int 0]) l0=_:=Ad;generalize upd H12 l0 (HO.lst [V.int 0])=H13 at z1 k0 ⊢;walk_at "w";refine ifE (λ v H'=>∃ t:Nat,v=nV t/\H'=H13/\1<=t/\t<=60/\t≠high) ?_ (λ R key=> ?_);rotate_left
      · refine Hh (λ hb=> ?_) (λ hb=> ?_)
        · have hb:=of_decide_eq_true hb;walk_at "w";exact key _ _ ⟨high+1,rfl,rfl,by omega,by omega,by omega⟩
        · have hb:=of_decide_eq_false hb;walk_at "w";exact key _ _ ⟨1,rfl,rfl,by omega,by omega,by omega⟩
      rintro v H' ⟨ta,rfl,rfl,t1,t2,t3⟩;walk_at "w";refine FK k0 (by omega) (by omega) (by simp) λ l1 hl1=> ?_;rw [show (List.replicate ((ta:Nat):Int).toNat [V.int 0]).flatten=(List.replicate ta 0).map nV by
        rw [Int.toNat_natCast,List.map_replicate];simp]
      have z2:=Ae (o:=HO.lst ((List.replicate ta 0).map nV)) hl1;have gl1:upd H' l1 (HO.lst ((List.replicate ta 0).map nV)) l1=_:=Ad;generalize upd H' l1 (HO.lst ((List.replicate ta 0).map nV))=H14 at z2 gl1 ⊢;walk_at "w";refine CB gl1 (zOk wide ta w1 hw60 t1 t2) λ H15 ct z3 hct Ct=> ?_;have sA:Same H12 H15:=z1.trans (z2.trans z3);clear k0 gl1 hl0 hl1 z1 z2 z3 hct;walk_at "w";refine ifE (λ v H'=>∃ t:Nat,v=nV t/\H'=H15/\1<=t/\t<=60/\t≠wide) ?_ (λ R key=> ?_);rotate_left
      · refine Hh (λ hb=> ?_) (λ hb=> ?_)
        · have hb:=of_decide_eq_true hb;walk_at "w";exact key _ _ ⟨wide+1,rfl,rfl,by omega,by omega,by omega⟩
        · have hb:=of_decide_eq_false hb;walk_at "w";exact key _ _ ⟨1,rfl,rfl,by omega,by omega,by omega⟩
      rintro v H' ⟨wa,rfl,rfl,v1,v2,v3⟩;walk_at "w";intro l0 hl0;have z1:=Ae (o:=HO.lst [V.int 0]) hl0;have k0:upd H' l0 (HO.lst [V.int 0]) l0=_:=Ad;generalize upd H' l0 (HO.lst [V.int 0])=H16 at z1 k0 ⊢;walk_at "w";refine FK k0 (by omega) (by omega) (by simp) λ l1 hl1=> ?_;rw [show (List.replicate ((high:Nat):Int).toNat [V.int 0]).flatten=(List.replicate high 0).map nV by
        rw [Int.toNat_natCast,List.map_replicate];simp]
      have z2:=Ae (o:=HO.lst ((List.replicate high 0).map nV)) hl1;have gl1:upd H16 l1 (HO.lst ((List.replicate high 0).map nV)) l1=_:=Ad;generalize upd H16 l1 (HO.lst ((List.replicate high 0).map nV))=H17 at z2 gl1 ⊢;walk_at "w";refine CB gl1 (zOk wa high v1 v2 h1 hb2) λ H18 cw z3 hcw Cw=> ?_;have sZ:Same H' H18:=z1.trans (z2.trans z3);have Ct:=Ct.same sZ;have sA:=sA.trans sZ;clear k0 gl1 hl0 hl1 z1 z2 z3 hcw sZ;walk_at "w";intro lt hlt;have z4:=Ae (o:=HO.tup [V.ref cw,V.ref ct]) hlt;have gt:upd H18 lt (HO.tup [V.ref cw,V.ref ct]) lt=_:=Ad;generalize upd H18 lt (HO.tup [V.ref cw,V.ref ct])=H19 at z4 gt ⊢;have Ct:=Ct.same z4;have Cw:=Cw.same z4;have sA:=s12.trans (sA.trans z4);obtain ⟨c0,e0,C0⟩:=Ca 0 (by omega);have C0:=C0.same sA;have gh:=sA _ _ g7;have pT:=sA _ _ qT;have ok0:=cOk 0 (by omega);have L0e:=cL 0 (by omega);generalize (cs.getD 0 cl0).2=R0 at C0 ok0 L0e;clear Ca cOk cL cW sA z4 s12 sB hlt g7 qT;have bC:∀ {x n rs},ClAt c.Cloth H19 x n rs->ClAt c.Cloth (bar TT H19) x n rs:=λ {x n rs} ⟨d,t,h1,h2⟩=>⟨d,t,Av h1 pT (by intro z;cases z),Av h2 pT (by intro z;cases z)⟩;have B1:=bC Ct;have B2:=bC Cw;have B3:=bC C0;have bh:=Av gh pT (by intro z;cases z);have bt:=Av gt pT (by intro z;cases z);have bT:bar TT H19 TT=none:=if_pos rfl;have L0:LamT H19 TT lq:=HR pT;have sb:Same (bar TT H19) H19:=Dg;generalize bar TT H19=B0 at bT B1 B2 B3 bh bt sb;clear bC;walk_at "w";refine ⟨lt,rfl,⟨_,SqT.of gt⟩,Bv (H0:=B0) (Er (SqT.of bt)) (λ i σ H3=>∃ v,σ=[some (.ref a),some (.int W),some (nV many),some (nV wide),some (nV high),some (.ref l4),some (.ref D),u1,u2,u3,u4,none,some (.ref ct),none,none,some (.ref dh),u5,v]/\Same B0 H3/\LamT H3 TT lq) ⟨_,rfl,sb,L0⟩ (λ i σ H3 ⟨_,_,s,_⟩=>s) ?_ ?_⟩
      · rintro i σ H' H20 hi3 ⟨v',rfl,s',L'⟩ s20;have sC:=s'.trans s20;have L20:=L'.same s20;obtain ⟨y,nF,rF,ey,Cy',oF,nolike⟩:∃ y nF rF,[V.ref cw,V.ref ct].getD i .non= .ref y/\ClAt c.Cloth B0 y nF rF/\ClOk nF rF/\¬ (nF=wide/\rF.length=R0.length):=by
          match i,hi3 with
          | 0,_=>exact ⟨cw,_,_,rfl,B2,zOk wa high v1 v2 h1 hb2,λ z=>v3 z.1⟩
          | 1,_=>exact ⟨ct,_,_,rfl,B1,zOk wide ta w1 hw60 t1 t2,λ z=>t3 (by have:=z.2;simp at this;omega)⟩
        rw [ey];walk_at "w";refine Dw L20 [.ref y, .ref dh] rfl (λ i j h=> ?_) λ H21 L21 go=> ?_
        · match i,h with
          | 0,h=>cases h;exact ⟨_,rfl,rfl⟩
          | 1,h=>cases h;exact ⟨_,rfl,rfl⟩
        have s21:=λ b o e=>go b o (λ z=>by rw [z,bT] at e;cases e) (sC b o e);refine ⟨λ E' R hE=> ?_,λ H30 pt lt2 ev s30 q1 q2=> ?_⟩
        · walk_at "w";refine A8 (SqL.of (s21 _ _ bh)) (AF (j:=0) (getD_some e0)) ?_;walk_at "w";intro lp hlp;have z1:=Ae (o:=HO.lst [V.ref c0,V.ref y]) hlp;have gp:upd H21 lp (HO.lst [V.ref c0,V.ref y]) lp=some (.lst ([c0,y].map V.ref)):=Ad;generalize upd H21 lp (HO.lst [V.ref c0,V.ref y])=H22 at z1 gp ⊢;have s22:Same B0 H22:=Same.trans s21 z1;walk_at "w";have un:Bl [(wide,R0),(nF,rF)]=false:=by
            cases hlk:Bl [(wide,R0),(nF,rF)] with
            | false=>rfl
            | true=>exact absurd (Gj hlk (i:=1) (by simp)) nolike
          refine ⟨lp,[(wide,R0),(nF,rF)],rfl,Ec gp rfl (λ i hi=> ?_),λ i hi=> ?_,by simp,by simp,λ z=>absurd z (by rw [Lc un];decide),λ _ H1 z=>hE H1 (z1.trans z)⟩
          · match i,hi with
            | 0,_=>exact B3.same s22
            | 1,_=>exact Cy'.same s22
          · match i,hi with
            | 0,_=>exact ok0
            | 1,_=>exact oF
        walk_at "w";refine F4 (SqT.of q1) (AF (j:=0) rfl) ?_;walk_at "w";intro le hle;have s31:=Ae (o:=HO.lst [V.str "cloth"]) hle;have ge:upd H30 le (HO.lst [V.str "cloth"]) le=some (.lst (([("cloth":Str)]).map V.str)):=Ad;generalize upd H30 le (HO.lst [V.str "cloth"])=H31 at s31 ge ⊢;walk_at "w";refine F2 (as:=["cloth"]) (SqL.of (s31 _ _ q2)) (SqL.of ge) ?_;walk_at "w";rw [decide_eq_true rfl];walk_at "w";exact ⟨_,rfl,Same.trans (Same.trans s21 s30) s31,(L21.same s30).same s31⟩
      · rintro σ H20 ⟨v',rfl,s20,L20⟩;clear B1 B2 B3 bh bt sb L0 bT gh gt pT C0 Ct Cw;walk_at "w";intro l1 hl1;have z1:=Ae (o:=HO.lst [V.int 1]) hl1;have k1:upd H20 l1 (HO.lst [V.int 1]) l1=some (.lst (([1]:List Nat).map nV)):=Ad;generalize upd H20 l1 (HO.lst [V.int 1])=H21 at z1 k1 ⊢;have ok1:ClOk 2 [1]:=⟨by decide,by decide,by decide,by decide,λ r hr=>by rw [List.mem_singleton.mp hr];decide⟩;have ok2:ClOk 2 [2]:=⟨by decide,by decide,by decide,by decide,λ r hr=>by rw [List.mem_singleton.mp hr];decide⟩;have ok3:ClOk 2 [3]:=⟨by decide,by decide,by decide,by decide,λ r hr=>by rw [List.mem_singleton.mp hr];decide⟩;have ok4:ClOk 3 [1]:=⟨by decide,by decide,by decide,by decide,λ r hr=>by rw [List.mem_singleton.mp hr];decide⟩;have ok5:ClOk 2 [1,2]:=⟨by decide,by decide,by decide,by decide,λ r hr=>by
          rcases List.mem_cons.mp hr with z | z
          · rw [z];decide
          · rw [List.mem_singleton.mp z];decide⟩
        walk_at "w";refine CB (n:=2) k1 ok1 λ H22 x1 z2 _ C1=> ?_;walk_at "w";intro l2 hl2;have z3:=Ae (o:=HO.lst [V.int 2]) hl2;have k2:upd H22 l2 (HO.lst [V.int 2]) l2=some (.lst (([2]:List Nat).map nV)):=Ad;generalize upd H22 l2 (HO.lst [V.int 2])=H23 at z3 k2 ⊢;walk_at "w";refine CB (n:=2) k2 ok2 λ H24 x2 z4 _ C2=> ?_;walk_at "w";intro l3 hl3;have z5:=Ae (o:=HO.lst [V.int 3]) hl3;have k3:upd H24 l3 (HO.lst [V.int 3]) l3=some (.lst (([3]:List Nat).map nV)):=Ad;generalize upd H24 l3 (HO.lst [V.int 3])=H25 at z5 k3 ⊢;walk_at "w";refine CB (n:=2) k3 ok3 λ H26 x3 z6 _ C3=> ?_;walk_at "w";intro ls hls;have z7:=Ae (o:=HO.lst [V.ref x1,V.ref x2,V.ref x3]) hls;have gs:upd H26 ls (HO.lst [V.ref x1,V.ref x2,V.ref x3]) ls=_:=Ad;generalize upd H26 ls (HO.lst [V.ref x1,V.ref x2,V.ref x3])=H27 at z7 gs ⊢;have C1:=C1.same (z3.trans (z4.trans (z5.trans (z6.trans z7))));have C2:=C2.same (z5.trans (z6.trans z7));have C3:=C3.same z7;have L27:=L20.same (z1.trans (z2.trans (z3.trans (z4.trans (z5.trans (z6.trans z7))))));clear z1 z2 z3 z4 z5 z6 z7 k1 k2 k3 hl1 hl2 hl3 hls L20 s20;walk_at "w";intro l1 hl1;have z1:=Ae (o:=HO.lst [V.int 1]) hl1;have k1:upd H27 l1 (HO.lst [V.int 1]) l1=some (.lst (([1]:List Nat).map nV)):=Ad;generalize upd H27 l1 (HO.lst [V.int 1])=H28 at z1 k1 ⊢;walk_at "w";refine CB (n:=3) k1 ok4 λ H29 x4 z2 _ C4=> ?_;walk_at "w";intro l2 hl2;have z3:=Ae (o:=HO.lst [V.int 1,V.int 2]) hl2;have k2:upd H29 l2 (HO.lst [V.int 1,V.int 2]) l2=some (.lst (([1,2]:List Nat).map nV)):=Ad;generalize upd H29 l2 (HO.lst [V.int 1,V.int 2])=H30 at z3 k2 ⊢;walk_at "w";refine CB (n:=2) k2 ok5 λ H31 x5 z4 _ C5=> ?_;walk_at "w";intro lt hlt;have z5:=Ae (o:=HO.tup [V.ref x4,V.ref x5]) hlt;have gt:upd H31 lt (HO.tup [V.ref x4,V.ref x5]) lt=_:=Ad;generalize upd H31 lt (HO.tup [V.ref x4,V.ref x5])=H32 at z5 gt ⊢;have sA:=z1.trans (z2.trans (z3.trans (z4.trans z5)));have C1:=C1.same sA;have C2:=C2.same sA;have C3:=C3.same sA;have gs:=sA _ _ gs;have C4:=C4.same (z3.trans (z4.trans z5));have C5:=C5.same z5;have L32:=L27.same sA;clear z1 z2 z3 z4 z5 k1 k2 hl1 hl2 hlt sA L27;obtain ⟨psT,pT,_⟩:=id L32;have bC:∀ {x n rs},ClAt c.Cloth H32 x n rs->ClAt c.Cloth (bar TT H32) x n rs:=λ {x n rs} ⟨d,t,h1,h2⟩=>⟨d,t,Av h1 pT (by intro z;cases z),Av h2 pT (by intro z;cases z)⟩;have A1:=bC C1;have A2:=bC C2;have A3:=bC C3;have A4:=bC C4;have A5:=bC C5;have bs:=Av gs pT (by intro z;cases z);have bt:=Av gt pT (by intro z;cases z);have bT:bar TT H32 TT=none:=if_pos rfl;have sb:Same (bar TT H32) H32:=Dg;generalize bar TT H32=B1 at bT A1 A2 A3 A4 A5 bs bt sb;clear bC C1 C2 C3 C4 C5 gs pT;walk_at "w";refine ⟨lt,rfl,⟨_,SqT.of gt⟩,Bv (H0:=B1) (Er (SqT.of bt)) (λ i σ H3=>∃ v v2,σ=[some (.ref a),some (.int W),some (nV many),some (nV wide),some (nV high),some (.ref l4),some (.ref D),some (.ref ls),u2,u3,u4,none,some (.ref ct),none,none,some (.ref dh),v2,v]/\Same B1 H3/\LamT H3 TT lq) ⟨_,_,rfl,sb,L32⟩ (λ i σ H3 ⟨_,_,_,s,_⟩=>s) ?_ ?_⟩
        · rintro i σ H' H33 hi3 ⟨v',v2',rfl,s',L'⟩ s33;have sC:=s'.trans s33;have L33:=L'.same s33;obtain ⟨y,nF,rF,ey,Cy,oF,un⟩:∃ y nF rF,[V.ref x4,V.ref x5].getD i .non= .ref y/\ClAt c.Cloth B1 y nF rF/\ClOk nF rF/\(Bl [(2,[1]),(2,[2]),(nF,rF)]=false/\Bl [(2,[1]),(2,[2]),(2,[3]),(nF,rF)]=false/\Bl [(nF,rF),(2,[1]),(2,[2]),(2,[3])]=false):=by
            match i,hi3 with
            | 0,_=>exact ⟨x4,_,_,rfl,A4,ok4,by decide,by decide,by decide⟩
            | 1,_=>exact ⟨x5,_,_,rfl,A5,ok5,by decide,by decide,by decide⟩
          obtain ⟨un1,un2,un3⟩:=un;rw [ey];walk_at "w";refine A8 (SqL.of (sC _ _ bs)) (AF (j:=0) rfl) ?_;walk_at "w";refine A8 (SqL.of (sC _ _ bs)) (AF (j:=1) rfl) ?_;walk_at "w";intro m1 hm1;have z1:=Ae (o:=HO.lst [V.ref x1,V.ref x2,V.ref y]) hm1;have g1:upd H33 m1 (HO.lst [V.ref x1,V.ref x2,V.ref y]) m1=some (.lst ([x1,x2,y].map V.ref)):=Ad;generalize upd H33 m1 (HO.lst [V.ref x1,V.ref x2,V.ref y])=H34 at z1 g1 ⊢;walk_at "w";intro m2 hm2;have z2:=Ae (o:=HO.lst [V.ref y]) hm2;have g2:upd H34 m2 (HO.lst [V.ref y]) m2=_:=Ad;generalize upd H34 m2 (HO.lst [V.ref y])=H35 at z2 g2 ⊢;walk_at "w";refine CO (SqL.of (z2 _ _ (z1 _ _ (sC _ _ bs)))) (SqL.of g2) (by simp) λ m3 hm3=> ?_;have z3:=Ae (o:=HO.lst ([V.ref x1,V.ref x2,V.ref x3]++[V.ref y])) hm3;have g3:upd H35 m3 (HO.lst ([V.ref x1,V.ref x2,V.ref x3]++[V.ref y])) m3=some (.lst ([x1,x2,x3,y].map V.ref)):=Ad;generalize upd H35 m3 (HO.lst ([V.ref x1,V.ref x2,V.ref x3]++[V.ref y]))=H36 at z3 g3 ⊢;walk_at "w";intro m4 hm4;have z4:=Ae (o:=HO.lst [V.ref y]) hm4;have g4:upd H36 m4 (HO.lst [V.ref y]) m4=_:=Ad;generalize upd H36 m4 (HO.lst [V.ref y])=H37 at z4 g4 ⊢;walk_at "w";refine CO (SqL.of g4) (SqL.of (z4 _ _ (z3 _ _ (z2 _ _ (z1 _ _ (sC _ _ bs)))))) (by simp) λ m5 hm5=> ?_;have z5:=Ae (o:=HO.lst ([V.ref y]++[V.ref x1,V.ref x2,V.ref x3])) hm5;have g5:upd H37 m5 (HO.lst ([V.ref y]++[V.ref x1,V.ref x2,V.ref x3])) m5=some (.lst ([y,x1,x2,x3].map V.ref)):=Ad;generalize upd H37 m5 (HO.lst ([V.ref y]++[V.ref x1,V.ref x2,V.ref x3]))=H38 at z5 g5 ⊢;walk_at "w";intro m6 hm6;have z6:=Ae (o:=HO.tup [V.ref m1,V.ref m3,V.ref m5]) hm6;have g6:upd H38 m6 (HO.tup [V.ref m1,V.ref m3,V.ref m5]) m6=_:=Ad;generalize upd H38 m6 (HO.tup [V.ref m1,V.ref m3,V.ref m5])=H39 at z6 g6 ⊢;have sD:=sC.trans (z1.trans (z2.trans (z3.trans (z4.trans (z5.trans z6)))));have g1:=z6 _ _ (z5 _ _ (z4 _ _ (z3 _ _ (z2 _ _ g1))));have g3:=z6 _ _ (z5 _ _ (z4 _ _ g3));have g5:=z6 _ _ g5;have L39:=L33.same (z1.trans (z2.trans (z3.trans (z4.trans (z5.trans z6)))));clear z1 z2 z3 z4 z5 z6 g2 g4 hm1 hm2 hm3 hm4 hm5 hm6 L33 L';obtain ⟨psT,pT,_⟩:=id L39;have bC:∀ {x n rs},ClAt c.Cloth B1 x n rs->ClAt c.Cloth (bar TT H39) x n rs:=λ {x n rs} C=>by
            obtain ⟨d,t,h1,h2⟩:=C.same sD;exact ⟨d,t,Av h1 pT (by intro z;cases z),Av h2 pT (by intro z;cases z)⟩
          have E1:=bC A1;have E2:=bC A2;have E3:=bC A3;have Ey:=bC Cy;have b1:=Av g1 pT (by intro z;cases z);have b3:=Av g3 pT (by intro z;cases z);have b5:=Av g5 pT (by intro z;cases z);have b6:=Av g6 pT (by intro z;cases z);have bT2:bar TT H39 TT=none:=if_pos rfl;have sb2:Same (bar TT H39) H39:=Dg;have sbar:Same B1 (bar TT H39):=λ b o e=>(if_neg λ z=>by rw [z,bT] at e;cases e).trans (sD b o e);generalize bar TT H39=B2 at bT2 E1 E2 E3 Ey b1 b3 b5 b6 sb2 sbar;clear bC pT;walk_at "w";refine ⟨m6,rfl,⟨_,SqT.of g6⟩,Bv (H0:=B2) (Er (SqT.of b6)) (λ i σ H3=>∃ v2,σ=[some (.ref a),some (.int W),some (nV many),some (nV wide),some (nV high),some (.ref l4),some (.ref D),some (.ref ls),u2,u3,u4,none,some (.ref ct),none,none,some (.ref dh),v2,some (.ref y)]/\Same B2 H3/\LamT H3 TT lq) ⟨_,rfl,sb2,L39⟩ (λ i σ H3 ⟨_,_,s,_⟩=>s) ?_ ?_⟩
          · rintro i σ H' H40 hi4 ⟨v2',rfl,s',L'⟩ s40;have sC:=s'.trans s40;have L40:=L'.same s40;obtain ⟨q,cq,eq,Cq,kq,lq0,lq1,uq⟩:∃ q cq,[V.ref m1,V.ref m3,V.ref m5].getD i .non= .ref q/\ClsAt c B2 q cq/\Jx cq/\0<cq.length/\cq.length<=10/\Bl cq=false:=by
              match i,hi4 with
              | 0,_=>
                refine ⟨m1,[(2,[1]),(2,[2]),(nF,rF)],rfl,Ec b1 rfl (λ i hi=> ?_),λ i hi=> ?_,by simp,by simp,un1⟩
                · match i,hi with
                  | 0,_=>exact E1
                  | 1,_=>exact E2
                  | 2,_=>exact Ey
                · match i,hi with
                  | 0,_=>exact ok1
                  | 1,_=>exact ok2
                  | 2,_=>exact oF
              | 1,_=>
                refine ⟨m3,[(2,[1]),(2,[2]),(2,[3]),(nF,rF)],rfl,Ec b3 rfl (λ i hi=> ?_),λ i hi=> ?_,by simp,by simp,un2⟩
                · match i,hi with
                  | 0,_=>exact E1
                  | 1,_=>exact E2
                  | 2,_=>exact E3
                  | 3,_=>exact Ey
                · match i,hi with
                  | 0,_=>exact ok1
                  | 1,_=>exact ok2
                  | 2,_=>exact ok3
                  | 3,_=>exact oF
              | 2,_=>
                refine ⟨m5,[(nF,rF),(2,[1]),(2,[2]),(2,[3])],rfl,Ec b5 rfl (λ i hi=> ?_),λ i hi=> ?_,by simp,by simp,un3⟩
                · match i,hi with
                  | 0,_=>exact Ey
                  | 1,_=>exact E1
                  | 2,_=>exact E2
                  | 3,_=>exact E3
                · match i,hi with
                  | 0,_=>exact oF
                  | 1,_=>exact ok1
                  | 2,_=>exact ok2
                  | 3,_=>exact ok3
            rw [eq];walk_at "w";refine Dw L40 [.ref q] rfl (λ i j h=> ?_) λ H21 L21 go=> ?_
            · match i,h with
              | 0,h=>cases h;exact ⟨_,rfl,rfl⟩
            have s21:=λ b o e=>go b o (λ z=>by rw [z,bT2] at e;cases e) (sC b o e);refine ⟨λ E' R hE=> ?_,λ H30 pt lt2 ev s30 q1 q2=> ?_⟩
            · walk_at "w";exact ⟨q,cq,rfl,Cq.same s21,kq,lq0,lq1,λ z=>absurd z (by rw [Lc uq];decide),λ _ H1 z=>hE H1 z⟩
            walk_at "w";refine F4 (SqT.of q1) (AF (j:=0) rfl) ?_;walk_at "w";intro le hle;have s31:=Ae (o:=HO.lst [V.str "cloth"]) hle;have ge:upd H30 le (HO.lst [V.str "cloth"]) le=some (.lst (([("cloth":Str)]).map V.str)):=Ad;generalize upd H30 le (HO.lst [V.str "cloth"])=H31 at s31 ge ⊢;walk_at "w";refine F2 (as:=["cloth"]) (SqL.of (s31 _ _ q2)) (SqL.of ge) ?_;walk_at "w";rw [decide_eq_true rfl];walk_at "w";exact ⟨_,rfl,Same.trans (Same.trans s21 s30) s31,(L21.same s30).same s31⟩
          · rintro σ H40 ⟨v2',rfl,s40,L40⟩;walk_at "w";exact ⟨_,_,rfl,sbar.trans s40,L40⟩
        · rintro σ H33 ⟨v',v2',rfl,s33,L33⟩;clear A1 A2 A3 A4 A5 bs bt sb L32 bT gt;have big:∀ k:Int,∃ n:Nat,21+Dy W k%40=(n:Nat)/\21<=n/\n<=60:=λ k=>by
            have h0:=Int.emod_nonneg (Dy W k) (show (40:Int)≠0 by decide);have h1:=Int.emod_lt_of_pos (Dy W k) (show (0:Int)<40 by decide);exact ⟨(21+Dy W k%40).toNat,by omega,by omega,by omega⟩
          walk_at "w";refine ⟨W,3,rfl,⟨by decide,by decide⟩,?_⟩;walk_at "w";refine Ax (by decide) ?_;walk_at "w";obtain ⟨nb,eb,nb1,nb2⟩:=big 3;rw [eb];intro l0 hl0;have z1:=Ae (o:=HO.lst [V.int 0]) hl0;have k0:upd H33 l0 (HO.lst [V.int 0]) l0=some (.lst ((List.replicate 1 0).map nV)):=Ad;generalize upd H33 l0 (HO.lst [V.int 0])=H34 at z1 k0 ⊢;walk_at "w";refine CB k0 (zOk nb 1 (by omega) nb2 (by decide) (by decide)) λ H35 xb z2 _ Cb=> ?_;walk_at "w";intro l1 hl1;have z3:=Ae (o:=HO.lst [V.int 0]) hl1;have k1:upd H35 l1 (HO.lst [V.int 0]) l1=_:=Ad;generalize upd H35 l1 (HO.lst [V.int 0])=H36 at z3 k1 ⊢;walk_at "w";refine ⟨W,4,rfl,⟨by decide,by decide⟩,?_⟩;walk_at "w";refine Ax (by decide) ?_;walk_at "w";obtain ⟨nt,et,nt1,nt2⟩:=big 4;rw [et];refine FK k1 (by omega) (by omega) (by simp) λ l2 hl2=> ?_;rw [show (List.replicate ((nt:Nat):Int).toNat [V.int 0]).flatten=(List.replicate nt 0).map nV by
            rw [Int.toNat_natCast,List.map_replicate];simp]
          have z4:=Ae (o:=HO.lst ((List.replicate nt 0).map nV)) hl2;have gl2:upd H36 l2 (HO.lst ((List.replicate nt 0).map nV)) l2=_:=Ad;generalize upd H36 l2 (HO.lst ((List.replicate nt 0).map nV))=H37 at z4 gl2 ⊢;walk_at "w";refine CB (n:=1) gl2 (zOk 1 nt (by decide) (by decide) (by omega) nt2) λ H38 xt z5 _ Ct=> ?_;walk_at "w";intro lt hlt;have z6:=Ae (o:=HO.tup [V.ref xb,V.ref xt]) hlt;have gt:upd H38 lt (HO.tup [V.ref xb,V.ref xt]) lt=_:=Ad;generalize upd H38 lt (HO.tup [V.ref xb,V.ref xt])=H39 at z6 gt ⊢;have Cb:=Cb.same (z3.trans (z4.trans (z5.trans z6)));have Ct:=Ct.same z6;have L39:=L33.same (z1.trans (z2.trans (z3.trans (z4.trans (z5.trans z6)))));clear z1 z2 z3 z4 z5 z6 k0 k1 gl2 hl0 hl1 hl2 hlt L33;obtain ⟨psT,pT,_⟩:=id L39;have bC:∀ {x n rs},ClAt c.Cloth H39 x n rs->ClAt c.Cloth (bar TT H39) x n rs:=λ {x n rs} ⟨d,t,h1,h2⟩=>⟨d,t,Av h1 pT (by intro z;cases z),Av h2 pT (by intro z;cases z)⟩;have Ab:=bC Cb;have At:=bC Ct;have bt:=Av gt pT (by intro z;cases z);have bT:bar TT H39 TT=none:=if_pos rfl;have sb:Same (bar TT H39) H39:=Dg;generalize bar TT H39=B3 at bT Ab At bt sb;clear bC Cb Ct pT;walk_at "w";refine ⟨lt,rfl,⟨_,SqT.of gt⟩,Bv (H0:=B3) (Er (SqT.of bt)) (λ i σ H3=>∃ v,σ=[some (.ref a),some (.int W),some (nV many),some (nV wide),some (nV high),some (.ref l4),some (.ref D),some (.ref ls),u2,u3,u4,v,some (.ref ct),some (.ref xb),some (.ref xt),some (.ref dh),v2',v']/\Same B3 H3/\LamT H3 TT lq) ⟨_,rfl,sb,L39⟩ (λ i σ H3 ⟨_,_,s,_⟩=>s) ?_ ?_⟩
          · rintro i σ H' H40 hi3 ⟨v0',rfl,s',L'⟩ s40;have sC:=s'.trans s40;have L40:=L'.same s40;obtain ⟨y,nF,rF,ey,Cy,oF,un⟩:∃ y nF rF,[V.ref xb,V.ref xt].getD i .non= .ref y/\ClAt c.Cloth B3 y nF rF/\ClOk nF rF/\¬ (nF*3<=60/\rF.length*3<=60):=by
              match i,hi3 with
              | 0,_=>exact ⟨xb,_,_,rfl,Ab,zOk nb 1 (by omega) nb2 (by decide) (by decide),λ z=>by omega⟩
              | 1,_=>exact ⟨xt,_,_,rfl,At,zOk 1 nt (by decide) (by decide) (by omega) nt2,λ z=>by have:=z.2;rw [List.length_replicate] at this;omega⟩
            rw [ey];walk_at "w";refine Dw L40 [.ref y] rfl (λ i j h=> ?_) λ H21 L21 go=> ?_
            · match i,h with
              | 0,h=>cases h;exact ⟨_,rfl,rfl⟩
            have s21:=λ b o e=>go b o (λ z=>by rw [z,bT] at e;cases e) (sC b o e);refine ⟨λ E' R hE=> ?_,λ H30 pt lt2 ev s30 q1 q2=> ?_⟩
            · walk_at "w";intro lp hlp;have z1:=Ae (o:=HO.lst [V.ref y,V.ref y,V.ref y]) hlp;have gp:upd H21 lp (HO.lst [V.ref y,V.ref y,V.ref y]) lp=some (.lst ([y,y,y].map V.ref)):=Ad;generalize upd H21 lp (HO.lst [V.ref y,V.ref y,V.ref y])=H22 at z1 gp ⊢;have s22:Same B3 H22:=Same.trans s21 z1;walk_at "w";have uf:DS [(nF,rF),(nF,rF),(nF,rF)]=false:=by
                cases hw:DS [(nF,rF),(nF,rF),(nF,rF)] with
                | false=>rfl
                | true=>
                  unfold DS at hw;rw [Bool.and_eq_true,Bool.and_eq_true] at hw;exact absurd ⟨of_decide_eq_true hw.1.2,of_decide_eq_true hw.2⟩ un
              refine ⟨lp,[(nF,rF),(nF,rF),(nF,rF)],rfl,Ec gp rfl (λ i hi=> ?_),λ i hi=> ?_,by simp,by simp,λ z=>absurd z (by rw [uf];decide),λ _ H1 z=>hE H1 (z1.trans z)⟩
              · match i,hi with
                | 0,_=>exact Cy.same s22
                | 1,_=>exact Cy.same s22
                | 2,_=>exact Cy.same s22
              · match i,hi with
                | 0,_=>exact oF
                | 1,_=>exact oF
                | 2,_=>exact oF
            walk_at "w";refine F4 (SqT.of q1) (AF (j:=0) rfl) ?_;walk_at "w";intro le hle;have s31:=Ae (o:=HO.lst [V.str "cloth"]) hle;have ge:upd H30 le (HO.lst [V.str "cloth"]) le=some (.lst (([("cloth":Str)]).map V.str)):=Ad;generalize upd H30 le (HO.lst [V.str "cloth"])=H31 at s31 ge ⊢;walk_at "w";refine F2 (as:=["cloth"]) (SqL.of (s31 _ _ q2)) (SqL.of ge) ?_;walk_at "w";rw [decide_eq_true rfl];walk_at "w";exact ⟨_,rfl,Same.trans (Same.trans s21 s30) s31,(L21.same s30).same s31⟩
          · rintro σ H40 ⟨v0',rfl,s40,L40⟩;walk_at "w";exact k _
end
end K27
namespace K27
open PySem L2 PySem.Spec PyProof.Rows
theorem all_mk {l:PySem.W.OpenLaw} {w:World} {K:PySem.W.Frag} {h:Heap} {mg:Str->Option Value} {fa:Addr} (X:K.In h) (G:h.Ns mainGlobals mg) (hfa:mg "law"=some (.ref fa))
    {C_Cloth C_LoomError C_BadRow C_BadWord C_TooMany C_NotPlain C_NotGrown C_BadDraft C_BadCloth C_OutOfPlace f0 f1 f2 f3 f4 f5 f6 f7 f8 f9 f10 f11 f12 f13 f14 f15 f16 f17 f18 f19 f20 f21 f22 f23 f24 f25:Addr} {d0 d1 d2 d3 d4 d5 d6 d7 d8 d9 d10 d11 d12 d13 d14 d15 d16 d17 d18 d19 d20 d21 d22 d23 d24 d25:FuncData}
    {cc TT:Addr} {ts:List Addr}
    (T0:Txt K mg ⟨C_Cloth,C_LoomError,C_BadRow,C_BadWord,C_TooMany,C_NotPlain,C_NotGrown,C_BadDraft,C_BadCloth,C_OutOfPlace⟩)
    (D0:DefAt K mg "bit_of" EH ["number"] f0 d0)
    (D1:DefAt K mg "mask_of" Dq ["numbers"] f1 d1)
    (D2:DefAt K mg "mask_to" Dx ["most"] f2 d2)
    (D3:DefAt K mg "has_number" BH ["mask","number"] f3 d3)
    (D4:DefAt K mg "numbers_of" BK ["mask"] f4 d4)
    (D5:DefAt K mg "union_of" CU ["masks"] f5 d5)
    (D6:DefAt K mg "is_whole" CQ ["thing"] f6 d6)
    (D7:DefAt K mg "is_among" CM ["thing","least","most"] f7 d7)
    (D8:DefAt K mg "need_cloth" BN ["ends","rows"] f8 d8)
    (j9:Mk K C_Cloth f9)
    (D9:FnA K "__init__" "Cloth.__init__" AV ["self","ends","rows"] f9 d9)
    (j10:Meth K C_Cloth "told" f10)
    (D10:FnA K "told" "Cloth.told" BE ["self"] f10 d10)
    (j11:Meth K C_Cloth "ends" f11)
    (D11:FnA K "ends" "Cloth.ends" BI ["self"] f11 d11)
    (j12:Meth K C_Cloth "picks" f12)
    (D12:FnA K "picks" "Cloth.picks" Bt ["self"] f12 d12)
    (j13:Meth K C_Cloth "row_at" f13)
    (D13:FnA K "row_at" "Cloth.row_at" Bf ["self","pick"] f13 d13)
    (D14:DefAt K mg "need_at_once" Be ["cloths"] f14 d14)
    (D15:DefAt K mg "up_ends" Dm ["cloth","place","pick","own"] f15 d15)
    (D16:DefAt K mg "whole_ends" BD ["ends","place","many"] f16 d16)
    (D17:DefAt K mg "whole_row" B5 ["cloths","pick","own"] f17 d17)
    (D18:DefAt K mg "woven_at_once" A6 ["cloths"] f18 d18)
    (D19:DefAt K mg "_law_mixed" BG ["_law_cell","_law_k"] f19 d19)
    (D20:DefAt K mg "_law_kinds" BM ["_law_error"] f20 d20)
    (D21:DefAt K mg "_law_whole" BF ["_law_script"] f21 d21)
    (D22:DefAt K mg "_law_up" DB ["_law_rows","_law_end","_law_pick"] f22 d22)
    (D23:DefAt K mg "_law_caught" Bs ["_law_asked"] f23 d23)
    (D24:DefAt K mg "_law_due" CJ ["_law_cloths","_law_wide"] f24 d24)
    (D25:DefAt K mg "law" Fd ["_law_script"] f25 d25)
    (hlb:∀ (s:Shared) (u:Value),BindsTo s d25 ⟨[u],[]⟩ [("_law_script",u)])
    (hcc:d25.code= .ref cc)
    (hmem:TT∈ts)
    (hhd:PySem.W.codeHdIn K cc TT=true)
    (hns:TT≠PySem.cStatics)
    : ∃ (fd:FuncData) (c T:Addr),(∀ (s:Shared) (u:Value),BindsTo s fd ⟨[u],[]⟩ [("_law_script",u)])/\T∈ts/\T≠PySem.cStatics/\(∀ h':Heap,K.In h'->PySem.W.CodeHd h' c T)/\∀ base:Heap,K.In base->base.Ns mainGlobals mg->PySem.W.CodeHd base c T->base.BuiltinsAt mg T->FnOk l.prog w K mg base CX0 9 fa fd ["_law_script"] (FJ K T):=by
  cases hfa.symm.trans D25.at';have T:=T0;exact ⟨_,cc,TT,hlb,hmem,hns,λ _ X2=>PySem.W.codeHd_of_K X2 hhd,λ base _ _ hd hbt=>by
    have c_bit_of:=D0.call (Ik (P:=l.prog) (w:=w) (base:=base) D0.fn T);have c_mask_of:=D1.call (GT (P:=l.prog) (w:=w) (base:=base) D1.fn T c_bit_of);have c_mask_to:=D2.call (Hg (P:=l.prog) (w:=w) (base:=base) D2.fn T);have c_has_number:=D3.call (E9 (P:=l.prog) (w:=w) (base:=base) D3.fn T c_bit_of);have c_numbers_of:=D4.call (EX (P:=l.prog) (w:=w) (base:=base) D4.fn T c_has_number);have c_union_of:=D5.call (Ga (P:=l.prog) (w:=w) (base:=base) D5.fn T);have c_is_whole:=D6.call (GK (P:=l.prog) (w:=w) (base:=base) D6.fn T);have c_is_among:=D7.call (GL (P:=l.prog) (w:=w) (base:=base) D7.fn T c_is_whole);have c_need_cloth:=D8.callE (ES (P:=l.prog) (w:=w) (base:=base) D8.fn T c_is_among c_mask_to);have m_Cloth:Hu l.prog w K mg base "Cloth" C_Cloth 4 ["self","ends","rows"] _:=⟨_,_,T.g_Cloth,j9,C9 (P:=l.prog) (w:=w) (base:=base) D9.fn T c_need_cloth,D9.bi⟩;have d_Cloth_told:Bw l.prog w K mg base C_Cloth "told" 1 ["self"] _:=⟨_,_,T.kd_Cloth.cl,j10,EZ (P:=l.prog) (w:=w) (base:=base) D10.fn T,D10.bi⟩;have d_Cloth_ends:Bw l.prog w K mg base C_Cloth "ends" 1 ["self"] _:=⟨_,_,T.kd_Cloth.cl,j11,Fb (P:=l.prog) (w:=w) (base:=base) D11.fn T,D11.bi⟩;have d_Cloth_picks:Bw l.prog w K mg base C_Cloth "picks" 1 ["self"] _:=⟨_,_,T.kd_Cloth.cl,j12,EF (P:=l.prog) (w:=w) (base:=base) D12.fn T,D12.bi⟩;have d_Cloth_row_at:Bw l.prog w K mg base C_Cloth "row_at" 1 ["self","pick"] _:=⟨_,_,T.kd_Cloth.cl,j13,DQ (P:=l.prog) (w:=w) (base:=base) D13.fn T,D13.bi⟩;have c_need_at_once:=D14.callE (DL (P:=l.prog) (w:=w) (base:=base) D14.fn T d_Cloth_ends d_Cloth_picks);have c_up_ends:=D15.call (GW (P:=l.prog) (w:=w) (base:=base) D15.fn T c_numbers_of c_mask_to d_Cloth_row_at d_Cloth_ends);have c_whole_ends:=D16.call (EQ (P:=l.prog) (w:=w) (base:=base) D16.fn T c_mask_of);have c_whole_row:=D17.call (FI (P:=l.prog) (w:=w) (base:=base) D17.fn T c_union_of c_whole_ends c_up_ends);have c_woven_at_once:=D18.callE (Du (P:=l.prog) (w:=w) (base:=base) D18.fn T c_need_at_once c_whole_row m_Cloth d_Cloth_ends d_Cloth_picks);have c__law_mixed:=D19.call (EN (P:=l.prog) (w:=w) (base:=base) D19.fn T);have c__law_kinds:=D20.call (ET (P:=l.prog) (w:=w) (base:=base) D20.fn T);have c__law_whole:=D21.call (ER (P:=l.prog) (w:=w) (base:=base) D21.fn T);have c__law_up:=D22.call (GX (P:=l.prog) (w:=w) (base:=base) D22.fn T);have c__law_caught:=D23.caught (Ei (P:=l.prog) (w:=w) (base:=base) D23.fn D23.bi T c__law_kinds);have c__law_due:=D24.call (Gy (P:=l.prog) (w:=w) (base:=base) D24.fn T c__law_up);exact MO hcc hd hbt D25.fn T c__law_whole c__law_mixed c__law_due m_Cloth c_woven_at_once d_Cloth_told c__law_caught
    ⟩
theorem walk {l:PySem.W.OpenLaw} {q:Program} {loose:List Str} {XP:(Str->Option Value)->Heap->Prop} {YP:World->Heap->Prop} {d:DefRec} {K:Params->PySem.W.Frag} (hn:l.most=some 63) (hdf:d.params.defaults=[])
    (hY:∀ (w:World) (h:Heap),YP w h->(K w.params).In h)
    {ts:List Addr} (hYt:∀ (w:World) (h:Heap),YP w h->∀ P∈ts,h.get? P=some (PySem.W.tabObj #[])) (hnt:∀ w:World,PySem.W.noTabs (K w.params)=true)
    (F:∀ (w:World) (mg:Str->Option Value) (fa:Addr) (h:Heap),(K w.params).In h->h.Ns mainGlobals mg->mg d.name=some (.ref fa)->
      ∃ (fd:FuncData) (c T:Addr),(∀ (s:Shared) (u:Value),BindsTo s fd ⟨[u],[]⟩ [("_law_script",u)])/\T∈ts/\T≠PySem.cStatics/\(∀ h':Heap,(K w.params).In h'->PySem.W.CodeHd h' c T)/\∀ base:Heap,(K w.params).In base->base.Ns mainGlobals mg->PySem.W.CodeHd base c T->base.BuiltinsAt mg T->FnOk l.prog w (K w.params) mg base CX0 9 fa fd ["_law_script"] (FJ (K w.params) T)):
    PySem.W.WalkO q loose XP YP l.row.toRowW d [] (λ f vs=>PySem.call f vs):=
  L2.walk_ofL (n:=63) (k:=9) (x:="_law_script") (CX:=λ _=>CX0) (sp:=λ w T=>FJ (K w.params) T) hn (by decide) hdf ⟨rfl,by decide,by decide⟩ hY hYt hnt F (λ _ _ a _ ns hl _ hT hS=>⟨a,ns,rfl,hS,hl,hT,λ _=>rfl⟩) λ _ _ _ _ _ z=>z
end K27
open PySem PySem.W PyProof.Rows
set_option maxRecDepth 100000 in
set_option maxHeartbeats 0 in
theorem PySem.Challenge.cw_loomwright_k27_whole_woven_at_once_holds : PySem.Challenge.rw_loomwright_k27_whole_woven_at_once.Holds := by
  w_on
  refine PySem.W.holds_law K27.wsaid λ said=> ?_;refine PySem.W.holds_open (q:=K27.view) (loose:=[]) (Xt:=K27.Xt) (XP:=PySem.W.XL K27.view []) (Yf:=(PySem.W.kmHook K27.frag K27.addrs K27.addrs_eq K27.tabs).obs) (Ya:=(PySem.W.kmHook K27.frag K27.addrs K27.addrs_eq K27.tabs).val) (YP:=(PySem.W.kmHook K27.frag K27.addrs K27.addrs_eq K27.tabs).says) (N:=K27.fuel) K27.left (PySem.W.kmHook K27.frag K27.addrs K27.addrs_eq K27.tabs).of (PySem.W.kmHook K27.frag K27.addrs K27.addrs_eq K27.tabs).keeps (λ s e=>PySem.W.xl_of s (Bool.and_eq_true_iff.mp e).1) PySem.W.XL.keeps (by rfl) (by rfl) (by rfl) (λ s e=>PySem.W.recFacts_of (Bool.and_eq_true_iff.mp e).2) (by rfl) (by first | assumption | decide +kernel) (by first | k_qdec | decide +kernel) ⟨rfl,rfl,rfl,rfl,rfl,by decide +kernel⟩ ?hw ?hc
  (case hw=>w_witness2)
  k_fill
  refine K27.walk (l:=PySem.Challenge.rw_loomwright_k27_whole_woven_at_once) rfl rfl (λ w h Y=>PySem.W.km_in_of Y) (λ w h Y=>PySem.W.km_tabs_of Y) (λ w=>by kernel_rfl) ?F
  case F=>
    intro w mg fa h KX G hmg;refine' K27.all_mk KX G hmg ?T ?_ ?_ ?_ ?_ ?_ ?_ ?_ ?_ ?_ ?_ ?_ ?_ ?_ ?_ ?_ ?_ ?_ ?_ ?_ ?_ ?_ ?_ ?_ ?_ ?_ ?_ ?_ ?_ ?_ ?_ ?_ ?_ ?_ ?_ ?_ ?_
    case T=>
      intros
      constructor
      all_goals try dsimp only
      all_goals try ((with_reducible refine' PySem.W.mg_of KX G ?_);k_is)
      all_goals first
        | ((with_reducible refine' L2.own_cons (PySem.W.mg_none_of KX G ?_) ?_) <;> (repeat' first | (with_reducible exact L2.own_nil) | (with_reducible refine' L2.own_cons (PySem.W.mg_none_of KX G ?_) ?_) | k_is))
        | ((with_reducible first | refine' L2.ci_mk (PySem.W.mg_of KX G ?_) | refine' L2.cs_mk (PySem.W.mg_of KX G ?_)) <;> first | k_is | skip)
        | with_reducible assumption
        | (refine' ⟨⟨?_,?_,?_,?_⟩,?_,?_,?_,?_⟩ <;> k_is)
        | ((with_reducible refine' L2.exc_mk ?_ ?_ ?_ ?_ ?_ ?_ ?_ ?_) <;> k_is)
        | (refine' ⟨?_,?_,?_⟩ <;> first | k_is | kernel_rfl)
        | (unfold L2.NoAttr;k_is)
        | k_is | k_exc | kts_exm | kit_is
    all_goals first
      | (refine' L2.def_mk (PySem.W.mg_of KX G ?_) (L2.fun_mk ?_ ?_ ?_) ?_ <;> first | k_is | exact L2.arg1 λ _=>rfl | exact L2.arg2 λ _ _=>rfl | exact L2.arg3 λ _ _ _=>rfl | exact L2.arg4 λ _ _ _ _=>rfl | exact L2.arg5 λ _ _ _ _ _=>rfl | exact L2.arg6 λ _ _ _ _ _ _=>rfl | exact L2.arg7 λ _ _ _ _ _ _ _=>rfl | exact L2.arg8 λ _ _ _ _ _ _ _ _=>rfl | exact L2.arg9 λ _ _ _ _ _ _ _ _ _=>rfl | skip)
      | (refine' L2.fnA_mk (L2.fun_mk ?_ ?_ ?_) ?_ <;> first | k_is | exact L2.arg1 λ _=>rfl | exact L2.arg2 λ _ _=>rfl | exact L2.arg3 λ _ _ _=>rfl | exact L2.arg4 λ _ _ _ _=>rfl | exact L2.arg5 λ _ _ _ _ _=>rfl | exact L2.arg6 λ _ _ _ _ _ _=>rfl | exact L2.arg7 λ _ _ _ _ _ _ _=>rfl | exact L2.arg8 λ _ _ _ _ _ _ _ _=>rfl | exact L2.arg9 λ _ _ _ _ _ _ _ _ _=>rfl | skip)
      | (refine' ⟨?_,?_,?_,?_⟩;all_goals first | k_is | kernel_rfl | skip)
      | (refine' ⟨?_,?_,?_⟩;all_goals first | k_is | kernel_rfl | skip)
      | k_is
      | exact λ s u=> .of_eq rfl
      | rfl | kernel_rfl | exact List.mem_cons_self | decide | skip
